import PyProof.Rows.All
import Wide.All
import OpenK.AllK
import Wide.FinOn
import Lean
import PyProof.EqAt
import PyProof.EqKinds
import PyProof.TupleCall
import KE.BitLaws
import KE.KSortTup
import PyProof.MeetsSeq3
import PyProof.FactsAll.list_2
import PyProof.Rows.SortRuns
import PyProof.Rows.SortShell
import PyProof.Rows.SortRev
import PyProof.Rows.SortWalk
import PyProof.FactsAll.tuple_1
import PyProof.DictItems
import KE.KDictSum
import PyProof.SetKind
import PyProof.TupleKey
import PyProof.IsRules
import PyProof.DictKinds
import PyProof.Rows.SetFrom
import PyProof.FactsAll.set_1
import PyProof.FactsAll.set_2
import PySem.Challenge.RW_fewbends_k32_papers_for_all_outer_lands
open PySem renaming wpAny_bind->ZZ,wpAny_pure->ZY,wpAny_mono->ZX,sizeLine->ZW,mainGlobals->ZV,wpAny_holding->ZU
open PySem.Str renaming ofString->ZT
open Classical renaming byContradiction->ZS
open List renaming range->ZR,length_set->ZP,mem_append_left->ZO,mem_append_right->ZN,idxOf_lt_length_of_mem->ZM,not_mem_nil->ZL,getElem?_set_self->ZK,getElem?_set_ne->ZJ,map_cons->ZI,range_succ->ZH,map_set->ZG,replicate->ZF,size_toArray->ZE,all_eq_true->ZD
open Nat renaming le_refl->ZC,ne_of_lt->ZA,zero_le->YZ,lt_irrefl->YY,le_of_lt->YX
open PySem.Heap renaming get?_push_of_some->YW,lt_size->YV,get?_push_size->YU
open Bool renaming false_ne_true->YT,false_eq_true->YS
open Option renaming getD_some->YR
open PySem.F renaming plainAttrs_list->YO
open List renaming length_map->Zq,getElem?_eq_getElem->Zz,getElem?_eq_some_iff->Zj,getElem?_map->Zk,getD_eq_getElem?_getD->Zv,mem_cons_of_mem->Zw,getElem?_append_left->Zx,getElem?_append_right->Zy,mem_of_getElem?->Zg,mem_map->Zh,mem_singleton->Zb,mem_cons_self->Zd,mem_append->Zf,length_append->Zm,mem_cons->Zn,getElem_mem->Zp,getElem?_eq_none->Zr,mem_range->Zs,map_append->Zt,length_singleton->ZQ,length_cons->Yq,mem_filter->Yz,length_range->Yj,getElem?_range->Yk,take_length->Yv,length_take->Yw,getElem?_concat_length->Yx,mem_iff_getElem->Yy,length_eq_zero_iff->Yd,map_map->Ym,append_assoc->Yn,length_drop->Yp,mem_map_of_mem->Yr,map_congr_left->Ys,ext_getElem?->Yt
open Nat renaming le_trans->YQ,lt_of_le_of_lt->Xq,lt_of_lt_of_le->Xz,lt_succ_of_lt->Xj,lt_or_ge->Xk
open Option renaming map_eq_some_iff->Xv
open Int renaming emod_nonneg->Xw,emod_lt_of_pos->Xx,eq_ofNat_of_zero_le->Xy
open Bool renaming and_eq_true->Xg,eq_iff_iff->Xh
set_option linter.all false
set_option maxRecDepth 100000
abbrev Ya:=@if_neg
abbrev Yb:=@if_pos
abbrev Yc:=@decide_eq_false
abbrev Ye:=@decide_eq_true
abbrev Yf:=@of_decide_eq_true
abbrev Yg:=@absurd
abbrev Yh:=@Ne.symm
abbrev Yi:=@eq_of_beq
section
variable{A B C D E F G H I J:Type}
theorem xPW{K:Prop}{R:A->Prop}(k:K)(a:A)(r:R a):K/\∃a,R a:=⟨k,a,r⟩
theorem xWP{K R:A->Prop}(a:A)(k:K a)(r:R a):∃a,K a/\R a:=⟨a,k,r⟩
theorem xWW{R:A->B->Prop}(a:A)(b:B)(r:R a b):∃a b,R a b:=⟨a,b,r⟩
theorem xPP{K L R:Prop}(k:K)(l:L)(r:R):K/\L/\R:=⟨k,l,r⟩
theorem aQ{K L R:A->Prop}(a:A)(k:K a)(l:L a)(r:R a):∃a,K a/\L a/\R a:=⟨a,k,l,r⟩
theorem cH{K L M R:Prop}(k:K)(l:L)(m:M)(r:R):K/\L/\M/\R:=⟨k,l,m,r⟩
theorem gJ{K:Prop}{L R:A->Prop}(k:K)(a:A)(l:L a)(r:R a):K/\∃a,L a/\R a:=⟨k,a,l,r⟩
theorem cG{K R:A->B->Prop}(a:A)(b:B)(k:K a b)(r:R a b):∃a b,K a b/\R a b:=⟨a,b,k,r⟩
theorem oS{R:A->B->C->Prop}(a:A)(b:B)(c:C)(r:R a b c):∃a b c,R a b c:=⟨a,b,c,r⟩
theorem aH{K L R:A->B->Prop}(a:A)(b:B)(k:K a b)(l:L a b)(r:R a b):∃a b,K a b/\L a b/\R a b:=⟨a,b,k,l,r⟩
theorem kZ{K:Prop}{L M R:A->Prop}(k:K)(a:A)(l:L a)(m:M a)(r:R a):K/\∃a,L a/\M a/\R a:=⟨k,a,l,m,r⟩
theorem zQ{K:Prop}{R:A->B->C->Prop}(k:K)(a:A)(b:B)(c:C)(r:R a b c):K/\∃a b c,R a b c:=⟨k,a,b,c,r⟩
theorem J6{K L:Prop}{R:A->B->Prop}(k:K)(l:L)(a:A)(b:B)(r:R a b):K/\L/\∃a b,R a b:=⟨k,l,a,b,r⟩
theorem u3{K:A->Prop}{R:A->B->C->Prop}(a:A)(k:K a)(b:B)(c:C)(r:R a b c):∃a,K a/\∃b c,R a b c:=⟨a,k,b,c,r⟩
theorem bU{K L M N R:Prop}(k:K)(l:L)(m:M)(n:N)(r:R):K/\L/\M/\N/\R:=⟨k,l,m,n,r⟩
theorem fF{K:Prop}{L R:A->B->Prop}(k:K)(a:A)(b:B)(l:L a b)(r:R a b):K/\∃a b,L a b/\R a b:=⟨k,a,b,l,r⟩
theorem jH{K R:A->B->C->Prop}(a:A)(b:B)(c:C)(k:K a b c)(r:R a b c):∃a b c,K a b c/\R a b c:=⟨a,b,c,k,r⟩
theorem dA{K L M R:A->Prop}(a:A)(k:K a)(l:L a)(m:M a)(r:R a):∃a,K a/\L a/\M a/\R a:=⟨a,k,l,m,r⟩
theorem jG{R:A->B->C->D->Prop}(a:A)(b:B)(c:C)(d:D)(r:R a b c d):∃a b c d,R a b c d:=⟨a,b,c,d,r⟩
theorem sD{K L:Prop}{M R:A->Prop}(k:K)(l:L)(a:A)(m:M a)(r:R a):K/\L/\∃a,M a/\R a:=⟨k,l,a,m,r⟩
theorem u4{K:A->Prop}{L R:A->B->Prop}(a:A)(k:K a)(b:B)(l:L a b)(r:R a b):∃a,K a/\∃b,L a b/\R a b:=⟨a,k,b,l,r⟩
theorem C6{K:Prop}{L:A->Prop}{M R:A->B->Prop}(k:K)(a:A)(l:L a)(b:B)(m:M a b)(r:R a b):K/\∃a,L a/\∃b,M a b/\R a b:=gJ k a l (xWP b m r)
theorem xO{K:A->Prop}{L M R:A->B->Prop}(a:A)(k:K a)(b:B)(l:L a b)(m:M a b)(r:R a b):∃a,K a/\∃b,L a b/\M a b/\R a b:=xWP a k (aQ b l m r)
theorem tQ{K:Prop}{L M N R:A->Prop}(k:K)(a:A)(l:L a)(m:M a)(n:N a)(r:R a):K/\∃a,L a/\M a/\N a/\R a:=gJ k a l (xPP m n r)
theorem iJ{K L M N R:A->Prop}(a:A)(k:K a)(l:L a)(m:M a)(n:N a)(r:R a):∃a,K a/\L a/\M a/\N a/\R a:=xWP a k (cH l m n r)
theorem KY{K L M:Prop}{N R:A->Prop}(k:K)(l:L)(m:M)(a:A)(n:N a)(r:R a):K/\L/\M/\∃a,N a/\R a:=xPP k l (gJ m a n r)
theorem i3{K:Prop}{L M R:A->B->Prop}(k:K)(a:A)(b:B)(l:L a b)(m:M a b)(r:R a b):K/\∃a b,L a b/\M a b/\R a b:=xPW k a (aQ b l m r)
theorem iY{K L R:A->B->C->Prop}(a:A)(b:B)(c:C)(k:K a b c)(l:L a b c)(r:R a b c):∃a b c,K a b c/\L a b c/\R a b c:=xWW a b (aQ c k l r)
theorem C7{K L:Prop}{M R:A->B->Prop}(k:K)(l:L)(a:A)(b:B)(m:M a b)(r:R a b):K/\L/\∃a b,M a b/\R a b:=xPP k l (cG a b m r)
theorem C8{K L:Prop}{M N R:A->Prop}(k:K)(l:L)(a:A)(m:M a)(n:N a)(r:R a):K/\L/\∃a,M a/\N a/\R a:=xPP k l (aQ a m n r)
theorem gK{K L M N O R:Prop}(k:K)(l:L)(m:M)(n:N)(o:O)(r:R):K/\L/\M/\N/\O/\R:=xPP k l (cH m n o r)
theorem xN{K:A->Prop}{L R:A->B->C->Prop}(a:A)(k:K a)(b:B)(c:C)(l:L a b c)(r:R a b c):∃a,K a/\∃b c,L a b c/\R a b c:=xWP a k (cG b c l r)
theorem pP{R:A->B->C->D->E->Prop}(a:A)(b:B)(c:C)(d:D)(e:E)(r:R a b c d e):∃a b c d e,R a b c d e:=xWW a b (oS c d e r)
theorem aP{K L M R:A->B->Prop}(a:A)(b:B)(k:K a b)(l:L a b)(m:M a b)(r:R a b):∃a b,K a b/\L a b/\M a b/\R a b:=cG a b k (xPP l m r)
theorem nF{K R:A->B->C->D->Prop}(a:A)(b:B)(c:C)(d:D)(k:K a b c d)(r:R a b c d):∃a b c d,K a b c d/\R a b c d:=xWW a b (cG c d k r)
theorem iA{K L M N O P R:Prop}(k:K)(l:L)(m:M)(n:N)(o:O)(p:P)(r:R):K/\L/\M/\N/\O/\P/\R:=cH k l m (cH n o p r)
theorem GX{K R:A->B->C->D->E->Prop}(a:A)(b:B)(c:C)(d:D)(e:E)(k:K a b c d e)(r:R a b c d e):∃a b c d e,K a b c d e/\R a b c d e:=oS a b c (cG d e k r)
theorem GY{K L M:Prop}{N O R:A->Prop}(k:K)(l:L)(m:M)(a:A)(n:N a)(o:O a)(r:R a):K/\L/\M/\∃a,N a/\O a/\R a:=cH k l m (aQ a n o r)
theorem zR{K:Prop}{L M N O R:A->Prop}(k:K)(a:A)(l:L a)(m:M a)(n:N a)(o:O a)(r:R a):K/\∃a,L a/\M a/\N a/\O a/\R a:=gJ k a l (cH m n o r)
theorem dO{K L M R:A->B->C->Prop}(a:A)(b:B)(c:C)(k:K a b c)(l:L a b c)(m:M a b c)(r:R a b c):∃a b c,K a b c/\L a b c/\M a b c/\R a b c:=oS a b c (cH k l m r)
theorem dI{K L M N R:A->B->Prop}(a:A)(b:B)(k:K a b)(l:L a b)(m:M a b)(n:N a b)(r:R a b):∃a b,K a b/\L a b/\M a b/\N a b/\R a b:=cG a b k (cH l m n r)
theorem oY{K:Prop}{L M N R:A->B->Prop}(k:K)(a:A)(b:B)(l:L a b)(m:M a b)(n:N a b)(r:R a b):K/\∃a b,L a b/\M a b/\N a b/\R a b:=fF k a b l (xPP m n r)
theorem kE{K L M N O R:A->Prop}(a:A)(k:K a)(l:L a)(m:M a)(n:N a)(o:O a)(r:R a):∃a,K a/\L a/\M a/\N a/\O a/\R a:=aQ a k l (cH m n o r)
theorem l8{K L:A->B->Prop}{M R:A->B->C->Prop}(a:A)(b:B)(k:K a b)(l:L a b)(c:C)(m:M a b c)(r:R a b c):∃a b,K a b/\L a b/\∃c,M a b c/\R a b c:=cG a b k (gJ l c m r)
theorem zP{K:A->Prop}{L M R:A->B->C->Prop}(a:A)(k:K a)(b:B)(c:C)(l:L a b c)(m:M a b c)(r:R a b c):∃a,K a/\∃b c,L a b c/\M a b c/\R a b c:=xWP a k (aH b c l m r)
theorem GZ{K L M N:Prop}{O R:A->Prop}(k:K)(l:L)(m:M)(n:N)(a:A)(o:O a)(r:R a):K/\L/\M/\N/\∃a,O a/\R a:=cH k l m (gJ n a o r)
theorem tR{K L:Prop}{M N R:A->B->Prop}(k:K)(l:L)(a:A)(b:B)(m:M a b)(n:N a b)(r:R a b):K/\L/\∃a b,M a b/\N a b/\R a b:=xPP k l (aH a b m n r)
theorem zO{K L R:A->B->C->D->Prop}(a:A)(b:B)(c:C)(d:D)(k:K a b c d)(l:L a b c d)(r:R a b c d):∃a b c d,K a b c d/\L a b c d/\R a b c d:=oS a b c (aQ d k l r)
theorem hJ{K L M N O R:A->B->Prop}(a:A)(b:B)(k:K a b)(l:L a b)(m:M a b)(n:N a b)(o:O a b)(r:R a b):∃a b,K a b/\L a b/\M a b/\N a b/\O a b/\R a b:=cG a b k (bU l m n o r)
theorem C5{K L M N O P R:A->Prop}(a:A)(k:K a)(l:L a)(m:M a)(n:N a)(o:O a)(p:P a)(r:R a):∃a,K a/\L a/\M a/\N a/\O a/\P a/\R a:=aQ a k l (bU m n o p r)
theorem C9{K L M:Prop}{N O R:A->B->Prop}(k:K)(l:L)(m:M)(a:A)(b:B)(n:N a b)(o:O a b)(r:R a b):K/\L/\M/\∃a b,N a b/\O a b/\R a b:=cH k l m (aH a b n o r)
theorem C4{K:A->Prop}{L M N O R:A->B->Prop}(a:A)(k:K a)(b:B)(l:L a b)(m:M a b)(n:N a b)(o:O a b)(r:R a b):∃a,K a/\∃b,L a b/\M a b/\N a b/\O a b/\R a b:=u4 a k b l (cH m n o r)
theorem l7{K L M R:A->B->C->D->Prop}(a:A)(b:B)(c:C)(d:D)(k:K a b c d)(l:L a b c d)(m:M a b c d)(r:R a b c d):∃a b c d,K a b c d/\L a b c d/\M a b c d/\R a b c d:=oS a b c (dA d k l m r)
theorem pO{R:A->B->C->D->E->F->G->Prop}(a:A)(b:B)(c:C)(d:D)(e:E)(f:F)(g:G)(r:R a b c d e f g):∃a b c d e f g,R a b c d e f g:=oS a b c (jG d e f g r)
theorem dY{K L M N R:A->B->C->Prop}(a:A)(b:B)(c:C)(k:K a b c)(l:L a b c)(m:M a b c)(n:N a b c)(r:R a b c):∃a b c,K a b c/\L a b c/\M a b c/\N a b c/\R a b c:=jH a b c k (cH l m n r)
theorem u5{K:Prop}{L M N R:A->B->C->Prop}(k:K)(a:A)(b:B)(c:C)(l:L a b c)(m:M a b c)(n:N a b c)(r:R a b c):K/\∃a b c,L a b c/\M a b c/\N a b c/\R a b c:=zQ k a b c (cH l m n r)
theorem u7{K L M N:Prop}{O P R:A->Prop}(k:K)(l:L)(m:M)(n:N)(a:A)(o:O a)(p:P a)(r:R a):K/\L/\M/\N/\∃a,O a/\P a/\R a:=cH k l m (kZ n a o p r)
theorem C3{K L M:A->B->Prop}{N R:A->B->C->Prop}(a:A)(b:B)(k:K a b)(l:L a b)(m:M a b)(c:C)(n:N a b c)(r:R a b c):∃a b,K a b/\L a b/\M a b/\∃c,N a b c/\R a b c:=cG a b k (sD l m c n r)
theorem u6{K L:Prop}{M N O R:A->B->Prop}(k:K)(l:L)(a:A)(b:B)(m:M a b)(n:N a b)(o:O a b)(r:R a b):K/\L/\∃a b,M a b/\N a b/\O a b/\R a b:=xPP k l (aP a b m n o r)
theorem uZ{K L:A->B->Prop}{M N R:A->B->C->Prop}(a:A)(b:B)(k:K a b)(l:L a b)(c:C)(m:M a b c)(n:N a b c)(r:R a b c):∃a b,K a b/\L a b/\∃c,M a b c/\N a b c/\R a b c:=cG a b k (kZ l c m n r)
theorem u9{K L M N O P Q R:Prop}(k:K)(l:L)(m:M)(n:N)(o:O)(p:P)(q:Q)(r:R):K/\L/\M/\N/\O/\P/\Q/\R:=cH k l m (bU n o p q r)
theorem r9{K L:Prop}{M:A->Prop}{N R:A->B->C->D->Prop}(k:K)(l:L)(a:A)(m:M a)(b:B)(c:C)(d:D)(n:N a b c d)(r:R a b c d):K/\L/\∃a,M a/\∃b c d,N a b c d/\R a b c d:=sD k l a m (jH b c d n r)
theorem sC{K L:Prop}{M N O P Q R:A->Prop}(k:K)(l:L)(a:A)(m:M a)(n:N a)(o:O a)(p:P a)(q:Q a)(r:R a):K/\L/\∃a,M a/\N a/\O a/\P a/\Q a/\R a:=sD k l a m (bU n o p q r)
theorem nG{K L:A->B->Prop}{M N O R:A->B->C->Prop}(a:A)(b:B)(k:K a b)(l:L a b)(c:C)(m:M a b c)(n:N a b c)(o:O a b c)(r:R a b c):∃a b,K a b/\L a b/\∃c,M a b c/\N a b c/\O a b c/\R a b c:=aH a b k l (dA c m n o r)
theorem kD{K L M N O P R:A->B->Prop}(a:A)(b:B)(k:K a b)(l:L a b)(m:M a b)(n:N a b)(o:O a b)(p:P a b)(r:R a b):∃a b,K a b/\L a b/\M a b/\N a b/\O a b/\P a b/\R a b:=aH a b k l (bU m n o p r)
theorem BJ{K:Prop}{L M N O R:A->B->C->Prop}(k:K)(a:A)(b:B)(c:C)(l:L a b c)(m:M a b c)(n:N a b c)(o:O a b c)(r:R a b c):K/\∃a b c,L a b c/\M a b c/\N a b c/\O a b c/\R a b c:=zQ k a b c (bU l m n o r)
theorem BI{K:A->Prop}{L M N O P R:A->B->Prop}(a:A)(k:K a)(b:B)(l:L a b)(m:M a b)(n:N a b)(o:O a b)(p:P a b)(r:R a b):∃a,K a/\∃b,L a b/\M a b/\N a b/\O a b/\P a b/\R a b:=u4 a k b l (bU m n o p r)
theorem rZ{K R:A->B->C->D->E->F->G->Prop}(a:A)(b:B)(c:C)(d:D)(e:E)(f:F)(g:G)(k:K a b c d e f g)(r:R a b c d e f g):∃a b c d e f g,K a b c d e f g/\R a b c d e f g:=jG a b c d (jH e f g k r)
theorem bO{K L:A->B->Prop}{M N R:A->B->C->D->Prop}(a:A)(b:B)(k:K a b)(l:L a b)(c:C)(d:D)(m:M a b c d)(n:N a b c d)(r:R a b c d):∃a b,K a b/\L a b/\∃c d,M a b c d/\N a b c d/\R a b c d:=aH a b k l (aH c d m n r)
theorem aY{K L M N R:A->B->C->D->Prop}(a:A)(b:B)(c:C)(d:D)(k:K a b c d)(l:L a b c d)(m:M a b c d)(n:N a b c d)(r:R a b c d):∃a b c d,K a b c d/\L a b c d/\M a b c d/\N a b c d/\R a b c d:=jG a b c d (bU k l m n r)
theorem kC{K L M N O R:A->B->C->Prop}(a:A)(b:B)(c:C)(k:K a b c)(l:L a b c)(m:M a b c)(n:N a b c)(o:O a b c)(r:R a b c):∃a b c,K a b c/\L a b c/\M a b c/\N a b c/\O a b c/\R a b c:=jH a b c k (bU l m n o r)
theorem r8{K:Prop}{L:A->Prop}{M N O R:A->B->C->Prop}(k:K)(a:A)(l:L a)(b:B)(c:C)(m:M a b c)(n:N a b c)(o:O a b c)(r:R a b c):K/\∃a,L a/\∃b c,M a b c/\N a b c/\O a b c/\R a b c:=gJ k a l (aP b c m n o r)
theorem nH{K:A->Prop}{L M N R:A->B->C->D->Prop}(a:A)(k:K a)(b:B)(c:C)(d:D)(l:L a b c d)(m:M a b c d)(n:N a b c d)(r:R a b c d):∃a,K a/\∃b c d,L a b c d/\M a b c d/\N a b c d/\R a b c d:=u3 a k b c (dA d l m n r)
theorem kB{K L M R:A->B->C->D->E->Prop}(a:A)(b:B)(c:C)(d:D)(e:E)(k:K a b c d e)(l:L a b c d e)(m:M a b c d e)(r:R a b c d e):∃a b c d e,K a b c d e/\L a b c d e/\M a b c d e/\R a b c d e:=jG a b c d (dA e k l m r)
theorem kF{K:Prop}{L M N O P R:A->B->Prop}(k:K)(a:A)(b:B)(l:L a b)(m:M a b)(n:N a b)(o:O a b)(p:P a b)(r:R a b):K/\∃a b,L a b/\M a b/\N a b/\O a b/\P a b/\R a b:=fF k a b l (bU m n o p r)
theorem lH{K R:A->B->C->D->E->F->G->H->Prop}(a:A)(b:B)(c:C)(d:D)(e:E)(f:F)(g:G)(h:H)(k:K a b c d e f g h)(r:R a b c d e f g h):∃a b c d e f g h,K a b c d e f g h/\R a b c d e f g h:=jG a b c d (nF e f g h k r)
theorem xI{K L:A->B->Prop}{M N R:A->B->C->D->E->Prop}(a:A)(b:B)(k:K a b)(l:L a b)(c:C)(d:D)(e:E)(m:M a b c d e)(n:N a b c d e)(r:R a b c d e):∃a b,K a b/\L a b/\∃c d e,M a b c d e/\N a b c d e/\R a b c d e:=aH a b k l (iY c d e m n r)
theorem xS{K:Prop}{L M:A->B->Prop}{N O R:A->B->C->D->Prop}(k:K)(a:A)(b:B)(l:L a b)(m:M a b)(c:C)(d:D)(n:N a b c d)(o:O a b c d)(r:R a b c d):K/\∃a b,L a b/\M a b/\∃c d,N a b c d/\O a b c d/\R a b c d:=fF k a b l (i3 m c d n o r)
theorem xJ{K:A->Prop}{L M N R:A->B->C->D->E->Prop}(a:A)(k:K a)(b:B)(c:C)(d:D)(e:E)(l:L a b c d e)(m:M a b c d e)(n:N a b c d e)(r:R a b c d e):∃a,K a/\∃b c d e,L a b c d e/\M a b c d e/\N a b c d e/\R a b c d e:=u3 a k b c (aP d e l m n r)
theorem xM{K:A->Prop}{L M:A->B->C->Prop}{N R:A->B->C->D->E->Prop}(a:A)(k:K a)(b:B)(c:C)(l:L a b c)(m:M a b c)(d:D)(e:E)(n:N a b c d e)(r:R a b c d e):∃a,K a/\∃b c,L a b c/\M a b c/\∃d e,N a b c d e/\R a b c d e:=xN a k b c l (fF m d e n r)
theorem pS{K:A->Prop}{L M R:A->B->C->D->E->F->Prop}(a:A)(k:K a)(b:B)(c:C)(d:D)(e:E)(f:F)(l:L a b c d e f)(m:M a b c d e f)(r:R a b c d e f):∃a,K a/\∃b c d e f,L a b c d e f/\M a b c d e f/\R a b c d e f:=u3 a k b c (iY d e f l m r)
theorem lJ{K:Prop}{L M N:A->B->Prop}{O R:A->B->C->D->Prop}(k:K)(a:A)(b:B)(l:L a b)(m:M a b)(n:N a b)(c:C)(d:D)(o:O a b c d)(r:R a b c d):K/\∃a b,L a b/\M a b/\N a b/\∃c d,O a b c d/\R a b c d:=fF k a b l (C7 m n c d o r)
theorem bB{K L M N R:A->B->C->D->E->Prop}(a:A)(b:B)(c:C)(d:D)(e:E)(k:K a b c d e)(l:L a b c d e)(m:M a b c d e)(n:N a b c d e)(r:R a b c d e):∃a b c d e,K a b c d e/\L a b c d e/\M a b c d e/\N a b c d e/\R a b c d e:=jG a b c d (iJ e k l m n r)
theorem iZ{K L M:A->B->Prop}{N O R:A->B->C->D->Prop}(a:A)(b:B)(k:K a b)(l:L a b)(m:M a b)(c:C)(d:D)(n:N a b c d)(o:O a b c d)(r:R a b c d):∃a b,K a b/\L a b/\M a b/\∃c d,N a b c d/\O a b c d/\R a b c d:=aH a b k l (i3 m c d n o r)
theorem lI{K:A->Prop}{L M N O R:A->B->C->D->Prop}(a:A)(k:K a)(b:B)(c:C)(d:D)(l:L a b c d)(m:M a b c d)(n:N a b c d)(o:O a b c d)(r:R a b c d):∃a,K a/\∃b c d,L a b c d/\M a b c d/\N a b c d/\O a b c d/\R a b c d:=u3 a k b c (iJ d l m n o r)
theorem xU{K L M:Prop}{N O R:A->B->C->D->Prop}(k:K)(l:L)(m:M)(a:A)(b:B)(c:C)(d:D)(n:N a b c d)(o:O a b c d)(r:R a b c d):K/\L/\M/\∃a b c d,N a b c d/\O a b c d/\R a b c d:=cH k l m (zO a b c d n o r)
theorem xT{K L:Prop}{M N O P R:A->B->C->Prop}(k:K)(l:L)(a:A)(b:B)(c:C)(m:M a b c)(n:N a b c)(o:O a b c)(p:P a b c)(r:R a b c):K/\L/\∃a b c,M a b c/\N a b c/\O a b c/\P a b c/\R a b c:=J6 k l a b (iJ c m n o p r)
theorem b9{K L M N O R:A->B->C->D->Prop}(a:A)(b:B)(c:C)(d:D)(k:K a b c d)(l:L a b c d)(m:M a b c d)(n:N a b c d)(o:O a b c d)(r:R a b c d):∃a b c d,K a b c d/\L a b c d/\M a b c d/\N a b c d/\O a b c d/\R a b c d:=nF a b c d k (bU l m n o r)
theorem dX{K L M N O P R:A->B->C->Prop}(a:A)(b:B)(c:C)(k:K a b c)(l:L a b c)(m:M a b c)(n:N a b c)(o:O a b c)(p:P a b c)(r:R a b c):∃a b c,K a b c/\L a b c/\M a b c/\N a b c/\O a b c/\P a b c/\R a b c:=jH a b c k (gK l m n o p r)
theorem fN{K L M R:A->B->C->D->E->F->Prop}(a:A)(b:B)(c:C)(d:D)(e:E)(f:F)(k:K a b c d e f)(l:L a b c d e f)(m:M a b c d e f)(r:R a b c d e f):∃a b c d e f,K a b c d e f/\L a b c d e f/\M a b c d e f/\R a b c d e f:=jG a b c d (aP e f k l m r)
theorem xV{K L M N O P Q S T R:Prop}(k:K)(l:L)(m:M)(n:N)(o:O)(p:P)(q:Q)(s:S)(t:T)(r:R):K/\L/\M/\N/\O/\P/\Q/\S/\T/\R:=bU k l m n (gK o p q s t r)
theorem pX{K L:Prop}{M:A->Prop}{N O R:A->B->C->D->Prop}(k:K)(l:L)(a:A)(m:M a)(b:B)(c:C)(d:D)(n:N a b c d)(o:O a b c d)(r:R a b c d):K/\L/\∃a,M a/\∃b c d,N a b c d/\O a b c d/\R a b c d:=sD k l a m (iY b c d n o r)
theorem xR{K:Prop}{L:A->B->Prop}{M N O R:A->B->C->D->Prop}(k:K)(a:A)(b:B)(l:L a b)(c:C)(d:D)(m:M a b c d)(n:N a b c d)(o:O a b c d)(r:R a b c d):K/\∃a b,L a b/\∃c d,M a b c d/\N a b c d/\O a b c d/\R a b c d:=fF k a b l (aP c d m n o r)
theorem pQ{K L M N O P Q R:A->B->Prop}(a:A)(b:B)(k:K a b)(l:L a b)(m:M a b)(n:N a b)(o:O a b)(p:P a b)(q:Q a b)(r:R a b):∃a b,K a b/\L a b/\M a b/\N a b/\O a b/\P a b/\Q a b/\R a b:=aH a b k l (gK m n o p q r)
theorem gZ{K L:A->B->Prop}{M R:A->B->C->D->E->F->Prop}(a:A)(b:B)(k:K a b)(l:L a b)(c:C)(d:D)(e:E)(f:F)(m:M a b c d e f)(r:R a b c d e f):∃a b,K a b/\L a b/\∃c d e f,M a b c d e f/\R a b c d e f:=aH a b k l (nF c d e f m r)
theorem xQ{K:Prop}{L R:A->B->C->D->E->F->G->Prop}(k:K)(a:A)(b:B)(c:C)(d:D)(e:E)(f:F)(g:G)(l:L a b c d e f g)(r:R a b c d e f g):K/\∃a b c d e f g,L a b c d e f g/\R a b c d e f g:=zQ k a b c (nF d e f g l r)
theorem pR{K:A->Prop}{L R:A->B->C->D->E->F->G->Prop}(a:A)(k:K a)(b:B)(c:C)(d:D)(e:E)(f:F)(g:G)(l:L a b c d e f g)(r:R a b c d e f g):∃a,K a/\∃b c d e f g,L a b c d e f g/\R a b c d e f g:=u3 a k b c (nF d e f g l r)
theorem pT{K L:A->Prop}{M R:A->B->C->D->E->F->Prop}(a:A)(k:K a)(l:L a)(b:B)(c:C)(d:D)(e:E)(f:F)(m:M a b c d e f)(r:R a b c d e f):∃a,K a/\L a/\∃b c d e f,M a b c d e f/\R a b c d e f:=aQ a k l (GX b c d e f m r)
theorem xP{K L M N O P Q S R:A->Prop}(a:A)(k:K a)(l:L a)(m:M a)(n:N a)(o:O a)(p:P a)(q:Q a)(s:S a)(r:R a):∃a,K a/\L a/\M a/\N a/\O a/\P a/\Q a/\S a/\R a:=dA a k l m (gK n o p q s r)
theorem pV{K L:Prop}{M N O R:A->B->C->D->Prop}(k:K)(l:L)(a:A)(b:B)(c:C)(d:D)(m:M a b c d)(n:N a b c d)(o:O a b c d)(r:R a b c d):K/\L/\∃a b c d,M a b c d/\N a b c d/\O a b c d/\R a b c d:=J6 k l a b (aP c d m n o r)
theorem cQ{K L R:A->B->C->D->E->F->G->Prop}(a:A)(b:B)(c:C)(d:D)(e:E)(f:F)(g:G)(k:K a b c d e f g)(l:L a b c d e f g)(r:R a b c d e f g):∃a b c d e f g,K a b c d e f g/\L a b c d e f g/\R a b c d e f g:=jG a b c d (iY e f g k l r)
theorem bV{K L:A->B->Prop}{M N O R:A->B->C->D->Prop}(a:A)(b:B)(k:K a b)(l:L a b)(c:C)(d:D)(m:M a b c d)(n:N a b c d)(o:O a b c d)(r:R a b c d):∃a b,K a b/\L a b/\∃c d,M a b c d/\N a b c d/\O a b c d/\R a b c d:=aH a b k l (aP c d m n o r)
theorem pU{K:Prop}{L M N R:A->B->C->D->E->Prop}(k:K)(a:A)(b:B)(c:C)(d:D)(e:E)(l:L a b c d e)(m:M a b c d e)(n:N a b c d e)(r:R a b c d e):K/\∃a b c d e,L a b c d e/\M a b c d e/\N a b c d e/\R a b c d e:=zQ k a b c (aP d e l m n r)
theorem b8{R:A->B->C->D->E->F->G->H->I->Prop}(a:A)(b:B)(c:C)(d:D)(e:E)(f:F)(g:G)(h:H)(i:I)(r:R a b c d e f g h i):∃a b c d e f g h i,R a b c d e f g h i:=jG a b c d (pP e f g h i r)
end
namespace L2
open PySem PySem.Spec PyProof.Rows
abbrev Key:=Sum Int Str
def oO:Key->Value->Bool
 |.inl k,v=>Value.isInt k v
 |.inr x,v=>Value.isStrOf x v
def QH(w:World):Key->Int
 |.inl k=>hashInt k
 |.inr x=>hashStr w x
theorem cI:∀{k:Key}{v:Value},oO k v=true->(∃i t,k=Sum.inl i/\v=Value.int i t)\/(∃x t,k=Sum.inr x/\v=Value.str x t)
 |.inl i,v,h=>by
  obtain⟨t,e⟩:=Value.isInt_shape (k:=i) (v:=v) h;exact .inl (cG i t rfl e)
 |.inr x,v,h=>by
  obtain⟨t,e⟩:=Value.isStrOf_shape (x:=x) (v:=v) h;exact .inr (cG x t rfl e)
theorem CL(i:Int)(t:Tok):oO (.inl i) (.int i t)=true:=by simp[oO,Value.isInt]
theorem CK(x:Str)(t:Tok):oO (.inr x) (.str x t)=true:=by simp[oO,Value.isStrOf]
theorem MY(a b:Int):decide ((Sum.inl a:Key)=Sum.inl b)=(a==b):=by
 by_cases e:a=b
 ·subst e;simp
 ·have h:¬(Sum.inl a:Key)=Sum.inl b:=λq=>e (Sum.inl.inj q);rw[Yc h];exact(beq_eq_false_iff_ne.mpr e).symm
theorem MV(a b:Str):decide ((Sum.inr a:Key)=Sum.inr b)=decide (a=b):=by
 by_cases e:a=b
 ·subst e;simp
 ·have h:¬(Sum.inr a:Key)=Sum.inr b:=λq=>e (Sum.inr.inj q);rw[Yc h,Yc e]
theorem MX(a:Int)(b:Str):decide ((Sum.inl a:Key)=Sum.inr b)=false:=Yc (λq=>nomatch q)
theorem MW(a:Str)(b:Int):decide ((Sum.inr a:Key)=Sum.inl b)=false:=Yc (λq=>nomatch q)
def cN(prog:Program)(w:World):PySem.KeyKind prog w Key where
 is:=oO
 hash:=QH w
 inj:=λv a b ha hb=>by
  rcases cI ha with⟨i,t,rfl,rfl⟩ | ⟨x,t,rfl,rfl⟩
  ·rcases cI hb with⟨j,u,rfl,e⟩ | ⟨y,u,rfl,e⟩
   ·injection e with e1 _;rw[e1]
   ·exact nomatch e
  ·rcases cI hb with⟨j,u,rfl,e⟩ | ⟨y,u,rfl,e⟩
   ·exact nomatch e
   ·injection e with e1 _;rw[e1]
 byValue:=λk v h=>by
  rcases cI h with⟨i,t,rfl,rfl⟩ | ⟨x,t,rfl,rfl⟩<;>rfl
 pyHash:=λhv h=>by
  rcases cI hv with⟨i,t,rfl,rfl⟩ | ⟨x,t,rfl,rfl⟩
  ·exact wpAny_pyHash_int h
  ·exact wpAny_pyHash_str h
 eqBool:=λhu hv h=>by
  rcases cI hu with⟨i,t,rfl,rfl⟩ | ⟨x,t,rfl,rfl⟩
  ·rcases cI hv with⟨j,u,rfl,rfl⟩ | ⟨y,u,rfl,rfl⟩
   ·rw[MY]at h;exact wpAny_eqBool_int h
   ·rw[MX]at h;exact SeqAt.EqAt.int_str i t y u _ _ _ _ h
  ·rcases cI hv with⟨j,u,rfl,rfl⟩ | ⟨y,u,rfl,rfl⟩
   ·rw[MW]at h;exact SeqAt.EqAt.str_int x t j u _ _ _ _ h
   ·rw[MV]at h;exact wpAny_eqBool_str h
 «strs»:=λk x t v h=>by
  rcases cI h with⟨i,u,rfl,e⟩ | ⟨y,u,rfl,e⟩
  ·exact nomatch e
  ·injection e with e1 _;subst e1;cases v<;>rfl
theorem vZ(prog:Program)(w:World)(i:Int)(t:Tok):(cN prog w).is (.inl i) (.int i t)=true:=CL i t
theorem vY(prog:Program)(w:World)(x:Str)(t:Tok):(cN prog w).is (.inr x) (.str x t)=true:=CK x t
inductive V where
 |non | bl (b:Bool) | int (i:Int) | str (x:Str) | byt (b:Array UInt8) | flt (b:UInt64) | ref (a:Addr) | ty (n:String)
 deriving DecidableEq
def RelV:V->Value->Prop
 |.non,u=>u=Value.none
 |.bl b,u=>u=Value.bool b
 |.int i,u=>∃t,u=Value.int i t
 |.str x,u=>∃t,u=Value.str x t
 |.byt b,u=>∃t,u=Value.bytes b t
 |.flt b,u=>∃t,u=Value.float b t
 |.ref a,u=>u=Value.ref a
 |.ty n,u=>u=Value.type n
abbrev a8:List V->List Value->Prop:=Paired RelV
theorem a8.length{xs:List V}{us:List Value}(r:a8 xs us):xs.length=us.length:=Paired.length r
theorem a8.get:∀{xs:List V}{us:List Value}{i:Nat}{x:V},a8 xs us->xs[i]?=some x->∃u,us[i]?=some u/\RelV x u
 |_,_,_,_,.nil,e=>by simp at e
 |_,_,0,_,.cons r _,e=>by simp at e;subst e;exact(xWP _ rfl r)
 |_,_,i+1,x,.cons _ t,e=>by
  obtain⟨u,h1,h2⟩:=a8.get (i:=i) (x:=x) t (by simpa using e);exact(xWP u (by simpa using h1) h2)
theorem a8.set{x:V}{u:Value}(r:RelV x u):∀{xs:List V}{us:List Value}(i:Nat),a8 xs us->a8 (xs.set i x) (us.set i u)
 |_,_,_,.nil=>.nil
 |_,_,0,.cons _ t=>.cons r t
 |_,_,i+1,.cons q t=>.cons q (a8.set r i t)
theorem a8.append:∀{xs ys:List V}{us ws:List Value},a8 xs us->a8 ys ws->a8 (xs++ys) (us++ws)
 |_,_,_,_,.nil,s=>s
 |_,_,_,_,.cons r t,s=>.cons r (a8.append t s)
theorem a8.take:∀{xs:List V}{us:List Value}(n:Nat),a8 xs us->a8 (xs.take n) (us.take n)
 |_,_,0,_=>.nil
 |_,_,_+1,.nil=>.nil
 |_,_,n+1,.cons r t=>.cons r (a8.take n t)
theorem a8.drop:∀{xs:List V}{us:List Value}(n:Nat),a8 xs us->a8 (xs.drop n) (us.drop n)
 |_,_,0,r=>r
 |_,_,_+1,.nil=>.nil
 |_,_,n+1,.cons _ t=>a8.drop n t
def uX:Option V->Option Value->Prop
 |some v,some u=>RelV v u
 |none,none=>True
 |_,_=>False
def KV{κ:Type}:List (κ×V)->List (κ×Value)->Prop:=Paired λ(p:κ×V) (q:κ×Value)=>p.1=q.1/\RelV p.2 q.2
def kV:Key->V
 |.inl i=>.int i
 |.inr x=>.str x
inductive HO where
 |lst (xs:List V)
 |tup (xs:List V)
 |dK (kvs:List (Key×V)) | dT (kvs:List (List Key×V))
 |set (S:Int->Bool) (n:Nat)
 |ins (C dx:Addr) (fs:List (Str×V))
 |own (x:Addr)
 |xd (fs:List (Str×V))
 |met (f x:Addr)
 |rng (lo hi:Int)
 |frz (o:Obj) (u:HO)
 |tbl (ps:Array Value)
 |ext (φ:Heap->Prop)
abbrev Hp:=Addr->Option HO
def upd(H:Hp)(a:Addr)(o:HO):Hp:=λb=>if b=a then some o else H b
theorem aA{H:Hp}{a:Addr}{o:HO}:upd H a o a=some o:=by unfold upd;rw[Yb rfl]
theorem aE{H:Hp}{a b:Addr}{o:HO}(h:b≠a):upd H a o b=H b:=by unfold upd;rw[Ya h]
theorem iB{H:Hp}{a:Addr}{o u:HO}:upd (upd H a o) a u=upd H a u:=by
 funext b;unfold upd;split<;>rfl
theorem bZ{H:Hp}{a b:Addr}{o u:HO}(h:H a=some o)(h':H b=some u)(d:o≠u):a≠b:=by
 intro e;subst e;rw[h]at h';exact d (Option.some.inj h')
theorem aC{H:Hp}{a b:Addr}{o:HO}(h:H a=some o)(h':H b=none):a≠b:=by
 intro e;subst e;rw[h]at h';cases h'
section
variable(P:Program)(w:World)
def cC(H:Hp)(h:Heap)(a:Addr):HO->Prop
 |.lst xs=>xs.length<=ZW/\∃(its:List Value) (n:Nat),a8 xs its/\h.get? a=some { cls:=.type "list",data:=.seq its.toArray n }
 |.tup xs=>xs.length<=ZW/\∃its:List Value,a8 xs its/\IsTup h a its.toArray
 |.dK kvs=>kvs.length<=ZW/\(a==sysModules)=false/\∃vs,KV kvs vs/\h.DictOf (cN P w) a vs
 |.dT kvs=>kvs.length<=ZW/\(a==sysModules)=false/\∃xs:List (List Key×Addr×Value),
   Paired (λ(p:List Key×V) (q:List Key×Addr×Value)=>p.1=q.1/\H q.2.1=some (.tup (p.1.map kV))/\RelV p.2 q.2.2) kvs xs /\
   ∃o es ep,h.get? a=some o/\o.ExactDict/\o.data=.dict es ep/\es.toList=xs.map (entryOfKey (tupleKind (cN P w)))/\(xs.map (·.1)).Nodup
 |.set S n=>h.SetOf (intKind P w) a S n
 |.ins C dx fs=>H dx=some (.own a)/\fs.length<=1000/\dx≠a/\h.get? a=some (PySem.W.instObj C dx) /\
   ∃mA,h.Ns1 dx mA/\(∀f,uX (fs.lookup f) (mA f))/\PySem.Within mA (fs.map (·.1))
 |.own _=>∃o,h.get? a=some o
 |.xd fs=>∃mA,h.Ns1 a mA/\∀f,uX (fs.lookup f) (mA f)
 |.rng lo hi=>∃t u v,h.get? a=some { cls:=.type "range",data:=.fields #[.int lo t,.int hi u,.int 1 v] }
 |.frz o u=>h.get? a=some o/\cC H h a u
 |.tbl ps=>h.get? a=some { cls:=.none,data:=.fields ps }
 |.met f x=>h.get? a=some (PySem.W.methodObj (.ref f) (.ref x))
 |.ext φ=>φ h/\(∃o,h.get? a=some o)/\∀h1 h2:Heap,φ h1->(∀o,h1.get? a=some o->h2.get? a=some o)->φ h2
def HOk(H:Hp)(h:Heap):Prop:=∀a o,H a=some o->cC P w H h a o
end
section
variable{P:Program}{w:World}{H H':Hp}{h h':Heap}{a:Addr}{o:HO}
theorem cC.lt(x:cC P w H h a o):a<h.objs.size:=by
 cases o with
 |lst xs=>obtain⟨_,_,_,_,e⟩:=x;exact YV e
 |tup xs=>obtain⟨_,_,_,p⟩:=x;exact p.lt
 |dK kvs=>obtain⟨_,_,_,_,o,_,_,e,_⟩:=x;exact YV e
 |dT kvs=>obtain⟨_,_,_,_,o,_,_,e,_⟩:=x;exact YV e
 |set S n=>obtain⟨o,_,_,_,e,_⟩:=x;exact YV e
 |ins C dx fs=>obtain⟨_,_,_,e,_⟩:=x;exact YV e
 |own y=>obtain⟨_,e⟩:=x;exact YV e
 |xd fs=>obtain⟨_,⟨_,_,_,e,_⟩,_⟩:=x;exact YV e
 |rng lo hi=>obtain⟨_,_,_,e⟩:=x;exact YV e
 |frz ob u=>obtain⟨e,_⟩:=x;exact YV e
 |tbl ps=>exact YV (show h.get? a=some _ from x)
 |met f y=>exact YV (show h.get? a=some _ from x)
 |ext φ=>obtain⟨_,⟨_,e⟩,_⟩:=x;exact YV e
theorem j9{α β:Type}{F G:α->β->Prop}:∀{l₁:List α}{l₂:List β},Paired F l₁ l₂->(∀a b,F a b->G a b)->Paired G l₁ l₂
 |_,_,.nil,_=>.nil
 |_,_,.cons r t,f=>.cons (f _ _ r) (j9 t f)
theorem cC.stay(x:cC P w H h a o)(k:∀b u,(b=a\/H b=some (.own a))->h.get? b=some u->h'.get? b=some u)
  (ho:∀b,H b=some (.own a)->H' b=some (.own a)) (ht:∀b xs,H b=some (.tup xs)->H' b=some (.tup xs)):cC P w H' h' a o:=by
 induction o with
 |lst xs=>obtain⟨z,its,n,r,e⟩:=x;exact(fF z its n r (k _ _ (.inl rfl) e))
 |tup xs=>obtain⟨z,its,r,ob,e,c⟩:=x;exact(C6 z its r ob (k _ _ (.inl rfl) e) c)
 |dK kvs=>obtain⟨z,y,vs,r,ob,es,ep,e,c⟩:=x;exact(r9 z y vs r ob es ep (k _ _ (.inl rfl) e) c)
 |dT kvs =>
  obtain⟨z,y,xs,r,ob,es,ep,e,c⟩:=x;exact(r9 z y xs (j9 r λp q z=>(xPP z.1 (ht _ _ z.2.1) z.2.2)) ob es ep (k _ _ (.inl rfl) e) c)
 |set S n=>obtain⟨ob,es,ep,t,e,c⟩:=x;exact(nF ob es ep t (k _ _ (.inl rfl) e) c)
 |ins C dx fs =>
  obtain⟨d,z,ne,e,mA,⟨od,es,ep,e2,c⟩,r⟩:=x;exact(GZ (ho _ d) z ne (k _ _ (.inl rfl) e) mA (jH od es ep (k _ _ (.inr d) e2) c) r)
 |own y=>obtain⟨ob,e⟩:=x;exact⟨ob,k _ _ (.inl rfl) e⟩
 |xd fs=>obtain⟨mA,⟨od,es,ep,e,c⟩,r⟩:=x;exact(xWP mA (jH od es ep (k _ _ (.inl rfl) e) c) r)
 |rng lo hi=>obtain⟨t,u,v,e⟩:=x;exact(oS t u v (k _ _ (.inl rfl) e))
 |frz ob u ih=>obtain⟨e,q⟩:=x;exact⟨k _ _ (.inl rfl) e,ih q⟩
 |tbl ps =>
  have e:h.get? a=some { cls:=.none,data:=.fields ps }:=x;show h'.get? a=some { cls:=.none,data:=.fields ps };exact k a _ (.inl rfl) e
 |met f y =>
  have e:h.get? a=some (PySem.W.methodObj (.ref f) (.ref y)):=x;show h'.get? a=some (PySem.W.methodObj (.ref f) (.ref y));exact k a _ (.inl rfl) e
 |ext φ=>obtain⟨p,⟨o,e⟩,st⟩:=x;exact(xPP (st _ _ p λo q=>k _ _ (.inl rfl) q) ⟨o,k _ _ (.inl rfl) e⟩ st)
theorem HOk.lt(x:HOk P w H h)(e:H a=some o):a<h.objs.size:=(x a o e).lt
theorem HOk.fresh(x:HOk P w H h)(e:h.objs.size<=a):H a=none:=by
 cases q:H a with
 |none=>rfl
 |some u=>exact Yg (Xz (x.lt q) e) (YY _)
theorem HOk.kept(x:HOk P w H h)(k:∀b u,h.get? b=some u->h'.get? b=some u):HOk P w H h':=λa o e =>
 (x a o e).stay (λb u _ q=>k b u q) (λ_ q=>q) λ_ _ q=>q
theorem HOk.laid(x:HOk P w H h)(k:∀b u,h.get? b=some u->h'.get? b=some u)(hp:h.objs.size<=a)(new:cC P w (upd H a o) h' a o):HOk P w (upd H a o) h':=λb u e=>by
 have hn:=x.fresh hp;by_cases hb:b=a
 ·subst hb;rw[aA]at e;cases e;exact new
 ·rw[aE hb]at e;exact(x b u e).stay (λc v _ q=>k c v q) (λc q=>by rw[aE (aC q hn)];exact q) λc xs q=>by rw[aE (aC q hn)];exact q
end
def Rd(H:Hp)(a:Addr)(u:HO):Prop:=H a=some u\/∃o,H a=some (.frz o u)
theorem Rd.ok{P:Program}{w:World}{H:Hp}{h:Heap}{a:Addr}{u:HO}(r:Rd H a u)(x:HOk P w H h):cC P w H h a u:=by
 rcases r with r | ⟨o,r⟩
 ·exact x a u r
 ·obtain⟨_,q⟩:=x a _ r;exact q
def Mut:Option HO->Prop
 |some (.lst _)=>True
 |some (.dK _)=>True
 |some (.dT _)=>True
 |some (.set _ _)=>True
 |some (.ins _ _ _)=>True
 |some (.ext _)=>True
 |_=>False
section
variable{P:Program}{w:World}{H:Hp}{h h':Heap}{x e:Addr}{o':HO}
theorem HOk.write(ok:HOk P w H h)(mu:Mut (H x))(he:e=x\/H e=some (.own x))(k:∀b u,b≠e->h.get? b=some u->h'.get? b=some u)(heo:∃u,h'.get? e=some u)
  (new:cC P w (upd H x o') h' x o'):HOk P w (upd H x o') h':=λb u q=>by
 have nown:∀c y,H c=some (.own y)->c≠x:=λc y r z=>by subst z;rw[r]at mu;exact mu
 have ntup:∀c xs,H c=some (.tup xs)->c≠x:=λc xs r z=>by subst z;rw[r]at mu;exact mu
 by_cases hb:b=x
 ·subst hb;rw[aA]at q;cases q;exact new
 ·rw[aE hb]at q;by_cases hbe:b=e
  ·have q':H b=some (.own x):=by
    rcases he with z | z
    ·exact Yg (hbe.trans z) hb
    ·rw[hbe];exact z
   rw[q]at q';cases q';obtain⟨v,hv⟩:=heo;exact⟨v,by rw[hbe];exact hv⟩
  ·refine(ok b u q).stay (λc v hc r=>k c v ?_ r) (λc r=>by rw[aE (nown c b r)];exact r) λc xs r=>by rw[aE (ntup c xs r)];exact r
   rcases hc with rfl | hc
   ·exact hbe
   ·rintro rfl;rcases he with z | z
    ·exact nown c b hc z
    ·rw[hc]at z;cases z;exact hb rfl
end
structure Un(fs ex:List Addr)(H H':Hp)(h h':Heap):Prop where
 keep:∀b o,h.get? b=some o->H b=none->b∉fs->b∉ex->h'.get? b=some o
 slot:∀b o,h.get? b=some o->H b=none->b∈fs->b∉ex->∃sl,h'.get? b=some { o with slots:=sl }
 free:∀b o,h.get? b=some o->H b=none->b∉ex->H' b=none
 there:∀b o,h.get? b=some o->b∉ex->∃o',h'.get? b=some o'
 tups:∀b xs,H b=some (.tup xs)->H' b=some (.tup xs)
 frzs:∀b o u,H b=some (.frz o u)->H' b=some (.frz o u)
 tbls:∀b ps,H b=some (.tbl ps)->∃more,H' b=some (.tbl (ps++more))
section
variable{fs fs' ex ex':List Addr}{H H1 H2:Hp}{h h1 h2 h':Heap}{a x e:Addr}{o:HO}
theorem Un.any(u:Un fs ex H H1 h h1){b:Addr}{ob:Obj}(q:h.get? b=some ob)(n:H b=none)(hx:b∉ex):∃sl,h1.get? b=some { ob with slots:=sl }:=by
 by_cases hb:b∈fs
 ·exact u.slot b ob q n hb hx
 ·exact⟨ob.slots,u.keep b ob q n hb hx⟩
theorem Un.kept(k:∀b u,h.get? b=some u->h'.get? b=some u):Un fs ex H H h h' :=
 ⟨λb ob q _ _ _=>k b ob q,λb ob q _ _ _=>⟨ob.slots,k b ob q⟩,λ_ _ _ n _=>n,λb ob q _=>⟨ob,k b ob q⟩,λ_ _ q=>q,λ_ _ _ q=>q,λ_ ps q=>⟨#[],by rw[q];simp⟩⟩
theorem J3:Un fs ex H H h h:=Un.kept λ_ _ q=>q
theorem Un.laid(k:∀b u,h.get? b=some u->h'.get? b=some u)(hp:h.objs.size<=a)(hn:H a=none):Un fs ex H (upd H a o) h h' where
 keep:=λb u q _ _ _=>k b u q
 slot:=λb u q _ _ _=>⟨u.slots,k b u q⟩
 free:=λb u q n _=>by rw[aE (ZA (Xz (YV q) hp))];exact n
 there:=λb u q _=>⟨u,k b u q⟩
 tups:=λb xs q=>by rw[aE (aC q hn)];exact q
 frzs:=λb u xs q=>by rw[aE (aC q hn)];exact q
 tbls:=λb ps q=>⟨#[],by rw[aE (aC q hn),q];simp⟩
theorem Un.write(mu:Mut (H x))(he:e=x\/H e=some (.own x))(k:∀b u,b≠e->h.get? b=some u->h'.get? b=some u)(heo:∃u,h'.get? e=some u):Un fs ex H (upd H x o) h h':=by
 have hx:∀b,H b=none->b≠x:=λb n z=>by subst z;rw[n]at mu;exact mu
 have hb:∀b,H b=none->b≠e:=λb n z=>by
  subst z;rcases he with r | r
  ·exact hx b n r
  ·rw[n]at r;cases r
 have hm:∀b u,H b=some u->¬Mut (some u)->b≠x:=λb u q nm z=>by subst z;rw[q]at mu;exact nm mu
 refine⟨λb u q n _ _=>k b u (hb b n) q,λb u q n _ _=>⟨u.slots,k b u (hb b n) q⟩,λb u q n _=>by rw[aE (hx b n)];exact n,λb u q _=>?_,
  λb xs q=>by rw[aE (hm b _ q λz=>z)];exact q,λb u xs q=>by rw[aE (hm b _ q λz=>z)];exact q,λb ps q=>⟨#[],by rw[aE (hm b _ q λz=>z),q];simp⟩⟩
 by_cases hbe:b=e
 ·subst hbe;exact heo
 ·exact⟨u,k b u hbe q⟩
end
def trk(h:Heap)(H:Hp):List Addr:=(ZR h.objs.size).filter λa=>(H a).isSome
def uQ(h:Heap)(H:Hp):Heap:=PySem.W.hideAll h (trk h H)
theorem CO(h:Heap)(H:Hp):(uQ h H).objs.size=h.objs.size:=PySem.W.hideAll_size _ _
theorem FY{h:Heap}{H:Hp}{b:Addr}{o:Obj}(e:h.get? b=some o)(n:H b=none):(uQ h H).get? b=some o :=
 PySem.W.hideAll_get _ e λhm=>by
  have q:(H b).isSome=true:=(Yz.mp hm).2;rw[n]at q;simp at q
theorem JD{h:Heap}{H:Hp}{b:Addr}{o:Obj}(e:(uQ h H).get? b=some o):h.get? b=some o/\H b=none:=by
 have e':h.get? b=some o:=PySem.W.of_hideAll (trk h H) e;refine⟨e',?_⟩;cases q:H b with
 |none=>rfl
 |some x =>
  have hm:b∈trk h H:=Yz.mpr ⟨Zs.mpr (YV e'),by simp[q]⟩;have z:(uQ h H).get? b=none:=PySem.W.hideAll_none (trk h H) hm;rw[z]at e;cases e
structure Mod(K:PySem.W.Frag)(mg:Str->Option Value)(base:Heap):Prop where
 kin:K.In base
 glob:base.Ns ZV mg
 blt:∃mb,base.Ns builtinsNs mb/\∀x:Str,x≠"__name__"->mb x=bootBuiltins x
 nolimit:base.NoLimit
structure Cx where
 prog:Program
 w:World
 K:PySem.W.Frag
 mg:Str->Option Value
 base:Heap
 A:Around
 N:List Str
 s₀:Shared
 H₀:Hp
 env:Env
 outer:List Env
 stack:List Env
 ex:List Addr
 fn:Str->Bool
 calm:Bool
 pn:List (Addr×Obj)
 xe:Value->Shared->Prop
def frs(l:List Env):List Addr:=l.filterMap (·.frame)
abbrev Cx.fs(X:Cx):List Addr:=frs X.outer
def Vis(sc:Scope)(x:Str):Prop:=sc.names.lookup x=some .local\/sc.names.lookup x=some .cell\/sc.names.lookup x=some .free
def Loc(sc:Scope)(x:Str):Prop:=sc.names.lookup x=some .local\/sc.names.lookup x=some .cell
def Look(env:Env)(h:Heap)(m:Str->Option Value)(x:Str)(u:Value):Prop :=
 (env.kindOf x=some .local/\m x=some u)\/((env.kindOf x=some .cell\/env.kindOf x=some .free)/\∃c,env.cells.lookup x=some c/\h.IsCell c (some u))
structure Cx.Ok(X:Cx):Prop where
 mod:Mod X.K X.mg X.base
 kind:X.env.scope.kind=.function
 glob:X.env.globals=ZV
 blt:X.env.builtins=builtinsNs
 above:X.s₀.heap.objs.size<=X.env.locals
 inj:∀x y c,X.env.cells.lookup x=some c->X.env.cells.lookup y=some c->x=y
 has:∀x,(X.env.kindOf x=some .cell\/X.env.kindOf x=some .free)->∃c,X.env.cells.lookup x=some c
 cab:∀x c,X.fn x=true->X.env.cells.lookup x=some c->X.s₀.heap.objs.size<=c
 hd:X.calm=true->X.A.handled=none
 frames:X.A.frames=some X.stack
 stk:X.stack=X.outer\/(X.stack=X.env::X.outer/\X.env.frame=some X.env.locals)
 exf:∀b∈X.ex,b≠X.env.locals/\∀x c,X.env.cells.lookup x=some c->c≠b
 bs:∀b o,X.base.get? b=some o->X.s₀.heap.get? b=some o/\X.H₀ b=none
 bsz:X.base.objs.size<=X.s₀.heap.objs.size
 noex:∀b o,X.base.get? b=some o->b∉X.ex
 exfs:∀b∈X.ex,b∉X.fs
 funs:X.s₀.heap.FunFrames X.base X.outer
 frf:∀b∈X.fs,X.H₀ b=none
structure Inv(X:Cx)(pins:List (Addr×Obj))(σ:List (Option V))(H:Hp)(s:Shared):Prop where
 ok:X.Ok
 os:s.os=X.s₀.os
 bare:AllBare s.gens
 base:Un X.fs X.ex X.H₀ H X.s₀.heap s.heap
 loc:∃m,s.heap.Ns X.env.locals m/\∀(i:Nat) (x:Str) (v:V),X.N[i]?=some x->σ[i]?=some (some v)->Vis X.env.scope x->∃u,RelV v u/\Look X.env s.heap m x u
 cell:∀x c,X.env.cells.lookup x=some c->∃v,s.heap.IsCell c v
 free:H X.env.locals=none
 freeC:∀x c,X.env.cells.lookup x=some c->H c=none
 pin:∀p∈X.pn++pins,s.heap.get? p.1=some p.2/\H p.1=none/\p.1≠X.env.locals/\p.1∉X.fs/\∀v,p.2.data≠.cell v
 hok:HOk X.prog X.w H s.heap
 len:σ.length=X.N.length
section
variable{X:Cx}{pins:List (Addr×Obj)}{σ:List (Option V)}{H H':Hp}{s:Shared}{h':Heap}
theorem Cx.Ok.nofr(ok:X.Ok){b:Addr}{o:Obj}(e:X.base.get? b=some o):b∉X.fs:=λhb=>by
 have:=(ok.funs.mem hb).1;rw[e]at this;cases this
theorem Inv.bs(I:Inv X pins σ H s):∀b o,X.base.get? b=some o->s.heap.get? b=some o/\H b=none:=λb o e =>
 ⟨I.base.keep b o (I.ok.bs b o e).1 (I.ok.bs b o e).2 (I.ok.nofr e) (I.ok.noex b o e),I.base.free b o (I.ok.bs b o e).1 (I.ok.bs b o e).2 (I.ok.noex b o e)⟩
theorem Inv.bk(I:Inv X pins σ H s):∀b o,X.base.get? b=some o->s.heap.get? b=some o:=λb o e=>(I.bs b o e).1
theorem Inv.mod(I:Inv X pins σ H s):Mod X.K X.mg X.base:=I.ok.mod
theorem Inv.kIn(I:Inv X pins σ H s):X.K.In s.heap:=I.ok.mod.kin.keeps I.bk
theorem Inv.fr(I:Inv X pins σ H s):∃m,Fr X.base X.env.locals s.heap m :=
 let⟨m,hn,_⟩:=I.loc
 ⟨m,hn,I.bk,YQ I.ok.bsz I.ok.above⟩
theorem Inv.lt(I:Inv X pins σ H s):X.env.locals<s.heap.objs.size:=let⟨_,hn,_⟩:=I.loc;hn.lt
theorem Inv.sz(I:Inv X pins σ H s):X.s₀.heap.objs.size<=s.heap.objs.size:=YQ I.ok.above (YX I.lt)
theorem Inv.nofs(I:Inv X pins σ H s){a:Addr}(h:s.heap.objs.size<=a):a∉X.fs:=λhb=>by
 obtain⟨_,o,ho,_⟩:=I.ok.funs.mem hb;exact Yg (Xz (YV ho) (YQ I.sz h)) (YY _)
theorem Inv.cne(I:Inv X pins σ H s):∀x c,X.env.cells.lookup x=some c->c≠X.env.locals:=λx c e z=>by
 obtain⟨v,o,ho,hd⟩:=I.cell x c e;obtain⟨m,⟨o',es,ep,ho',hd',_⟩,_⟩:=I.loc;rw[z,ho']at ho;cases ho;rw[hd']at hd;cases hd
theorem Inv.funs(I:Inv X pins σ H s):s.heap.FunFrames X.base X.outer:=by
 have all:∀(l:List Env),(∀b∈frs l,b∈X.fs)->X.s₀.heap.FunFrames X.base l->s.heap.FunFrames X.base l:=by
  intro l;induction l with
  |nil=>intro _ _;trivial
  |cons env r ih =>
   intro hs hl;obtain⟨hk,⟨L,o,hf,hn,ho,hd⟩,hr⟩:=hl;have hL:L∈X.fs:=hs L (by unfold frs;rw[List.filterMap_cons,hf];exact Zd);obtain⟨sl,e⟩:=I.base.slot L o ho (I.ok.frf L hL) hL λz=>I.ok.exfs L z hL;exact(xPP hk (aP L _ hf hn e hd) (ih (λb hb=>hs b (by unfold frs;rw[List.filterMap_cons,hf];exact Zw _ hb)) hr))
 exact all X.outer (λ_ hb=>hb) I.ok.funs
theorem Inv.stack(I:Inv X pins σ H s):s.heap.FunFrames X.base X.stack:=by
 rcases I.ok.stk with e | ⟨e,hf⟩
 ·rw[e];exact I.funs
 ·rw[e];obtain⟨m,hn,_⟩:=I.loc;refine .cons (by rw[I.ok.kind];decide) hf hn ?_ I.funs;exact Heap.get?_none_of_le (YQ I.ok.bsz I.ok.above)
theorem Inv.stkSub(I:Inv X pins σ H s):∀b∈frs X.stack,b∈X.env.locals::X.fs:=λb hb=>by
 rcases I.ok.stk with e | ⟨e,hf⟩
 ·rw[e]at hb;exact Zw _ hb
 ·rw[e]at hb;unfold frs at hb;rw[List.filterMap_cons,hf]at hb;exact hb
theorem Inv.stkFree(I:Inv X pins σ H s):∀b∈frs X.stack,H b=none:=λb hb=>by
 rcases Zn.mp (I.stkSub b hb) with e | hb
 ·rw[e];exact I.free
 ·obtain⟨_,o,ho,_⟩:=I.ok.funs.mem hb;exact I.base.free b o ho (I.ok.frf b hb) λz=>I.ok.exfs b z hb
theorem Inv.step{g':Array GenState}{t':Nat}{d':Drawn}{ch:List Addr}(I:Inv X pins σ H s)
  (hch:∀b∈ch,(b∈X.ex\/X.s₀.heap.objs.size<=b)/\b≠X.env.locals/\(∀x c,X.env.cells.lookup x=some c->c≠b)/\∀p∈X.pn++pins,p.1≠b)
  (keep:∀b o,b≠X.env.locals->b∉X.fs->b∉ch->s.heap.get? b=some o->H b=none->h'.get? b=some o)
  (slot:∀b o,b≠X.env.locals->b∈X.fs->b∉ch->s.heap.get? b=some o->H b=none->∃sl,h'.get? b=some { o with slots:=sl }) (free:∀b o,b∉ch->s.heap.get? b=some o->H b=none->H' b=none)
  (there:∀b o,b∉ch->s.heap.get? b=some o->∃o',h'.get? b=some o')
  (tups:∀b xs,H b=some (.tup xs)->H' b=some (.tup xs)) (frzs:∀b o u,H b=some (.frz o u)->H' b=some (.frz o u)) (tbls:∀b ps,H b=some (.tbl ps)->∃more,H' b=some (.tbl (ps++more)))
  (ns:∀m,s.heap.Ns X.env.locals m->h'.Ns X.env.locals m) (hok:HOk X.prog X.w H' h') (hg:AllBare g') :
  Inv X pins σ H' { s with heap:=h',gens:=g',drawn:=d',toks:=t' }:=by
 have neL:∀b o,X.s₀.heap.get? b=some o->b≠X.env.locals:=λb o e=>ZA (Xz (YV e) I.ok.above);have neC:∀b o,X.s₀.heap.get? b=some o->b∉X.ex->b∉ch:=λb o e hx hb=>by
  rcases(hch b hb).1 with z | z
  ·exact hx z
  ·exact Yg (Xz (YV e) z) (YY _)
 have cellK:∀x c,X.env.cells.lookup x=some c->∀v,s.heap.IsCell c v->h'.IsCell c v:=λx c e v ⟨o,ho,hd⟩=>by
  have nch:c∉ch:=λz=>(hch c z).2.2.1 x c e rfl;by_cases hc:c∈X.fs
  ·obtain⟨sl,q⟩:=slot c o (I.cne x c e) hc nch ho (I.freeC x c e);exact(xWP _ q hd)
  ·exact(xWP o (keep c o (I.cne x c e) hc nch ho (I.freeC x c e)) hd)
 refine⟨I.ok,I.os,hg,⟨λb o e n hb hx=>?_,λb o e n hb hx=>?_,λb o e n hx=>?_,λb o e hx=>?_,λb xs e=>tups b xs (I.base.tups b xs e),λb o xs e=>frzs b o xs (I.base.frzs b o xs e),λb ps e=>?_⟩,?_,λx c e=>?_,?_,λx c e=>?_,λp hp=>?_,hok,I.len⟩
 ·exact keep b o (neL b o e) hb (neC b o e hx) (I.base.keep b o e n hb hx) (I.base.free b o e n hx)
 ·obtain⟨sl,e1⟩:=I.base.slot b o e n hb hx;obtain⟨sl',e2⟩:=slot b _ (neL b o e) hb (neC b o e hx) e1 (I.base.free b o e n hx);exact⟨sl',e2⟩
 ·obtain⟨o',e1⟩:=I.base.there b o e hx;exact free b o' (neC b o e hx) e1 (I.base.free b o e n hx)
 ·obtain⟨o',e1⟩:=I.base.there b o e hx;exact there b o' (neC b o e hx) e1
 ·obtain⟨m1,e1⟩:=I.base.tbls b ps e;obtain⟨m2,e2⟩:=tbls b _ e1;exact⟨m1++m2,by rw[e2,Array.append_assoc]⟩
 ·obtain⟨m,hn,hl⟩:=I.loc;refine(xWP m (ns m hn) (λi x v e1 e2 e3=>?_));obtain⟨u,r,l⟩:=hl i x v e1 e2 e3;refine(xWP u r ?_);rcases l with l | ⟨k,c,e,z⟩
  ·exact .inl l
  ·exact .inr (gJ k c e (cellK x c e _ z))
 ·obtain⟨v,z⟩:=I.cell x c e;exact⟨v,cellK x c e v z⟩
 ·obtain⟨m,⟨o,_,_,ho,_⟩,_⟩:=I.loc;exact free _ o (λz=>(hch _ z).2.1 rfl) ho I.free
 ·obtain⟨v,o,ho,hd⟩:=I.cell x c e;exact free c o (λz=>(hch c z).2.2.1 x c e rfl) ho (I.freeC x c e)
 ·obtain⟨e,n,ne,nf,d⟩:=I.pin p hp;have nch:p.1∉ch:=λz=>(hch p.1 z).2.2.2 p hp rfl;exact(bU (keep p.1 p.2 ne nf nch e n) (free p.1 p.2 nch e n) ne nf d)
theorem Inv.un{t':Nat}(I:Inv X pins σ H s)(u:Un X.fs [] H H' s.heap h')(hok:HOk X.prog X.w H' h'):Inv X pins σ H' { s with heap:=h',toks:=t' }:=by
 obtain⟨m,⟨o,es,ep,ho,r⟩,_⟩:=id I.loc;obtain⟨sl,hL⟩:=u.any ho I.free (by simp);exact I.step (g':=s.gens) (d':=s.drawn) (ch:=[]) (λ_ z=>nomatch z) (λb o _ hb _ e n=>u.keep b o e n hb (by simp)) (λb o _ hb _ e n=>u.slot b o e n hb (by simp)) (λb o _ e n=>u.free b o e n (by simp)) (λb o _ e=>u.there b o e (by simp)) u.tups u.frzs u.tbls (λm' hm=>by
  obtain⟨o',es',ep',ho',r'⟩:=hm;rw[ho]at ho';cases ho';exact(jH _ es' ep' hL r')) hok I.bare
theorem Inv.call{g':Array GenState}{t':Nat}{d':Drawn}{ch:List Addr}(I:Inv X pins σ H s)(u:Un (frs X.stack) ch H H' s.heap h')(hok:HOk X.prog X.w H' h')(hg:AllBare g')
  (hch:∀b∈ch,(b∈X.ex\/X.s₀.heap.objs.size<=b)/\b≠X.env.locals/\(∀x c,X.env.cells.lookup x=some c->c≠b)/\∀p∈X.pn++pins,p.1≠b) :
  Inv X pins σ H' { s with heap:=h',gens:=g',drawn:=d',toks:=t' }:=by
 obtain⟨m,⟨o,es,ep,ho,r⟩,_⟩:=id I.loc;obtain⟨sl,hL⟩:=u.any ho I.free λz=>(hch _ z).2.1 rfl;exact I.step (ch:=ch) hch (λb o hL hb hc e n=>u.keep b o e n (λz=>(Zn.mp (I.stkSub b z)).elim hL hb) hc) (λb o _ _ hc e n=>u.any e n hc) (λb o hc e n=>u.free b o e n hc) (λb o hc e=>u.there b o e hc) u.tups u.frzs u.tbls (λm' hm=>by
  obtain⟨o',es',ep',ho',r'⟩:=hm;rw[ho]at ho';cases ho';exact(jH _ es' ep' hL r')) hok hg
theorem Inv.turned{t':Nat}{it:Addr}(I:Inv X pins σ H s)(k:∀b o,b≠it->s.heap.get? b=some o->h'.get? b=some o)(hn:H it=none)(hL:it≠X.env.locals)
  (h1:it∈X.ex\/X.s₀.heap.objs.size<=it) (h2:∀x c,X.env.cells.lookup x=some c->c≠it) (h3:∀p∈X.pn++pins,p.1≠it):Inv X pins σ H { s with heap:=h',toks:=t' }:=by
 have nit:∀b u,H b=some u->b≠it:=λb u e z=>by rw[z,hn]at e;cases e
 refine I.step (g':=s.gens) (d':=s.drawn) (ch:=[it]) (λb hb=>?_) (λb o _ _ hc e _=>k b o (λz=>hc (by simp[z])) e) (λb o _ _ hc e _=>⟨o.slots,k b o (λz=>hc (by simp[z])) e⟩) (λ_ _ _ _ n=>n)
  (λb o hc e=>⟨o,k b o (λz=>hc (by simp[z])) e⟩) (λ_ _ e=>e) (λ_ _ _ e=>e) (λb ps e=>⟨#[],by rw[e];simp⟩) (λm hm=>?_) (λb u e=>?_) I.bare
 ·have e:b=it:=by simpa using hb
  subst e;exact(cH h1 hL h2 h3)
 ·obtain⟨o,es,ep,ho,r⟩:=hm;exact(jH o es ep (k _ o (Yh hL) ho) r)
 ·refine(I.hok b u e).stay (λc v hc q=>k c v ?_ q) (λ_ q=>q) λ_ _ q=>q;rcases hc with z | z
  ·rw[z];exact nit b u e
  ·exact nit c _ z
theorem Inv.tok(I:Inv X pins σ H s)(t:Nat):Inv X pins σ H { s with toks:=t }:=I.un (h':=s.heap) (t':=t) J3 I.hok
theorem Inv.kept{t':Nat}(I:Inv X pins σ H s)(k:∀b u,s.heap.get? b=some u->h'.get? b=some u):Inv X pins σ H { s with heap:=h',toks:=t' }:=I.un (Un.kept k) (I.hok.kept k)
theorem Inv.laid{a:Addr}{o:HO}{t':Nat}(I:Inv X pins σ H s)(k:∀b u,s.heap.get? b=some u->h'.get? b=some u)(hp:s.heap.objs.size<=a)(new:cC X.prog X.w (upd H a o) h' a o) :
  Inv X pins σ (upd H a o) { s with heap:=h',toks:=t' }:=I.un (Un.laid k hp (I.hok.fresh hp)) (I.hok.laid k hp new)
theorem Inv.write{x e:Addr}{o:HO}{t':Nat}(I:Inv X pins σ H s)(mu:Mut (H x))(he:e=x\/H e=some (.own x))(k:∀b u,b≠e->s.heap.get? b=some u->h'.get? b=some u)(heo:∃u,h'.get? e=some u)
  (new:cC X.prog X.w (upd H x o) h' x o):Inv X pins σ (upd H x o) { s with heap:=h',toks:=t' }:=I.un (Un.write mu he k heo) (I.hok.write mu he k heo new)
theorem Inv.weak{σ':List (Option V)}(I:Inv X pins σ H s)(hl:σ'.length=σ.length)(w:∀(i:Nat) v,σ'[i]?=some (some v)->σ[i]?=some (some v)):Inv X pins σ' H s :=
 ⟨I.ok,I.os,I.bare,I.base,let⟨m,hn,hl'⟩:=I.loc;(xWP m hn (λi x v e1 e2 e3=>hl' i x v e1 (w i v e2) e3)),I.cell,I.free,I.freeC,I.pin,I.hok,hl.trans I.len⟩
theorem Inv.pins_of{pins':List (Addr×Obj)}(I:Inv X pins σ H s)(h:∀p∈pins',s.heap.get? p.1=some p.2/\H p.1=none/\p.1≠X.env.locals/\p.1∉X.fs/\∀v,p.2.data≠.cell v):Inv X pins' σ H s :=
 ⟨I.ok,I.os,I.bare,I.base,I.loc,I.cell,I.free,I.freeC,λp hp=>(Zf.mp hp).elim (λz=>I.pin p (ZO _ z)) (h p),I.hok,I.len⟩
theorem vW{N:List Str}(hN:N.Nodup){i j:Nat}{x:Str}(a:N[i]?=some x)(b:N[j]?=some x):i=j:=by
 obtain⟨h1,e1⟩:=Zj.mp a;obtain⟨h2,e2⟩:=Zj.mp b;exact(List.getElem_inj hN).mp (e1.trans e2.symm)
theorem BR{M:Model}{A:Around}{E:Value->Shared->Prop}{i:Nat}{x:Str}{v:V}{u:Value}{Q:Unit->Shared->Prop}(I:Inv X pins σ H s)(hN:X.N.Nodup)(hi:X.N[i]?=some x)(hx:Loc X.env.scope x)(r:RelV v u)
  (h:∀s',Inv X pins (σ.set i (some v)) H s'->(∃a,Heap.SameBut a s.heap s'.heap/\(a=X.env.locals\/X.env.cells.lookup x=some a))->Q () s') (hf:X.fn x=true\/X.env.scope.names.lookup x=some .local:=by first | exact .inl rfl | exact .inr rfl | assumption):wpAny M A (storeName X.env x u) Q E s:=by
 obtain⟨m,hn,hl⟩:=id I.loc;have hcls:(X.env.scope.kind==.class||(X.env.scope.kind==.module&&X.env.locals != X.env.globals))=false:=by rw[I.ok.kind];rfl
 have hiσ:i<σ.length:=by rw[I.len];exact(Zj.mp hi).1
 have cne:=I.cne;have tracked:∀{a:Addr}{h':Heap},(∃o,s.heap.get? a=some o/\H a=none)->Heap.SameBut a s.heap h'->HOk X.prog X.w H h':=λ{a h'} ha hs b ob e=>by
  obtain⟨_,_,hfree⟩:=ha;refine(I.hok b ob e).stay (λc w' hc q=>(hs.2 c ?_).trans q) (λ_ q=>q) λ_ _ q=>q;rintro rfl;rcases hc with rfl | hc
  ·rw[hfree]at e;cases e
  ·rw[hfree]at hc;cases hc
 rcases hx with hk | hk
 ·refine wpAny_storeName_local hk hn (λh' hn' hs=>?_) hcls;obtain⟨oL,_,_,hoL,_⟩:=id hn;refine h _ ⟨I.ok,I.os,I.bare,⟨λb o e n hb hx=>?_,λb o e n hb hx=>?_,I.base.free,λb o e hx=>?_,I.base.tups,I.base.frzs,I.base.tbls⟩,(xWP _ hn' (λj y v' e1 e2 e3=>?_)),λy c e=>?_,I.free,I.freeC,λp hp=>?_,tracked (xWP oL hoL I.free) hs,by simpa using I.len⟩ (xWP _ hs (.inl rfl))
  ·exact(hs.2 b (ZA (Xz (YV e) I.ok.above))).trans (I.base.keep b o e n hb hx)
  ·obtain⟨sl,e1⟩:=I.base.slot b o e n hb hx;exact⟨sl,(hs.2 b (ZA (Xz (YV e) I.ok.above))).trans e1⟩
  ·obtain⟨o',e1⟩:=I.base.there b o e hx;exact⟨o',(hs.2 b (ZA (Xz (YV e) I.ok.above))).trans e1⟩
  ·by_cases hj:j=i
   ·subst hj;rw[hi]at e1;cases e1;rw[ZK hiσ]at e2;cases e2;exact(xWP u r (.inl ⟨hk,by simp⟩))
   ·rw[ZJ (Yh hj)]at e2;obtain⟨u',r',q⟩:=hl j y v' e1 e2 e3;refine(xWP u' r' ?_);rcases q with⟨k,e⟩ | ⟨k,c,e,z⟩
    ·refine .inl ⟨k,?_⟩;have:y≠x:=λe=>hj (vW hN e1 (e▸hi));simp[this,e]
    ·exact .inr (gJ k c e (z.sameBut hs (cne y c e)))
  ·obtain⟨w',z⟩:=I.cell y c e;exact⟨w',z.sameBut hs (cne y c e)⟩
  ·obtain⟨e,n,ne,nf,d⟩:=I.pin p hp;exact(bU ((hs.2 p.1 ne).trans e) n ne nf d)
 ·have hfn:X.fn x=true:=by
   rcases hf with z | z
   ·exact z
   ·rw[z]at hk;cases hk
  obtain⟨c,hc⟩:=I.ok.has x (.inl hk);obtain⟨w',z⟩:=I.cell x c hc;refine wpAny_storeName_cell I.ok.kind hk hc z (λh' hc' hs=>?_);obtain⟨oc,hoc,hocd⟩:=id z;refine h { s with heap:=h' } ⟨I.ok,I.os,I.bare,⟨λb o e n hb hx=>?_,λb o e n hb hx=>?_,I.base.free,λb o e hx=>?_,I.base.tups,I.base.frzs,I.base.tbls⟩,(xWP m (hn.sameBut hs (Yh (cne x c hc))) (λj y v' e1 e2 e3=>?_)),λy c' e=>?_,I.free,I.freeC,λp hp=>?_,tracked (xWP oc hoc (I.freeC x c hc)) hs,by simpa using I.len⟩ (xWP c hs (.inr hc))
  ·exact(hs.2 b (ZA (Xz (YV e) (I.ok.cab x c hfn hc)))).trans (I.base.keep b o e n hb hx)
  ·obtain⟨sl,e1⟩:=I.base.slot b o e n hb hx;exact⟨sl,(hs.2 b (ZA (Xz (YV e) (I.ok.cab x c hfn hc)))).trans e1⟩
  ·obtain⟨o',e1⟩:=I.base.there b o e hx;exact⟨o',(hs.2 b (ZA (Xz (YV e) (I.ok.cab x c hfn hc)))).trans e1⟩
  ·by_cases hj:j=i
   ·subst hj;rw[hi]at e1;cases e1;rw[ZK hiσ]at e2;cases e2;exact(xWP u r (.inr (gJ (.inl hk) c hc hc')))
   ·rw[ZJ (Yh hj)]at e2;obtain⟨u',r',q⟩:=hl j y v' e1 e2 e3;refine(xWP u' r' ?_);rcases q with q | ⟨k,c',e,z'⟩
    ·exact .inl q
    ·refine .inr (gJ k c' e (z'.sameBut hs ?_));rintro rfl;exact hj (vW hN e1 (I.ok.inj _ _ _ e hc▸hi))
  ·by_cases hcc:c'=c
   ·subst hcc;exact⟨_,hc'⟩
   ·obtain⟨w2,z2⟩:=I.cell y c' e;exact⟨w2,z2.sameBut hs hcc⟩
  ·obtain⟨e,n,ne,nf,d⟩:=I.pin p hp;refine(bU ((hs.2 p.1 ?_).trans e) n ne nf d);intro q;rw[q,hoc]at e;have q':oc=p.2:=Option.some.inj e;exact d w' (by rw[<-q'];exact hocd)
theorem iP{M:Model}{A:Around}{E:Value->Shared->Prop}{i:Nat}{x:Str}{v:V}{u:Value}{Q:Unit->Shared->Prop}(I:Inv X pins σ H s)(hN:X.N.Nodup)(hi:X.N[i]?=some x)(hx:Loc X.env.scope x)(r:RelV v u)
  (h:∀s',Inv X pins (σ.set i (some v)) H s'->Q () s') (hf:X.fn x=true\/X.env.scope.names.lookup x=some .local:=by first | exact .inl rfl | exact .inr rfl | assumption):wpAny M A (storeName X.env x u) Q E s :=
 BR I hN hi hx r (λs' I' _=>h s' I') hf
theorem Inv.call'{s':Shared}{ch:List Addr}(I:Inv X pins σ H s)(ho:s'.os=s.os)(u:Un (frs X.stack) ch H H' s.heap s'.heap)(hok:HOk X.prog X.w H' s'.heap)(hg:AllBare s'.gens)
  (hch:∀b∈ch,(b∈X.ex\/X.s₀.heap.objs.size<=b)/\b≠X.env.locals/\(∀x c,X.env.cells.lookup x=some c->c≠b)/\∀p∈X.pn++pins,p.1≠b):Inv X pins σ H' s':=by
 obtain⟨h',g',d',t',o'⟩:=s';have e:o'=s.os:=ho;subst e;exact I.call (g':=g') (t':=t') (d':=d') u hok hg hch
end
abbrev XK:=Value->Option Addr->Hp->Prop
abbrev St:=List (Option V)
abbrev VK:=V->Hp->Prop
abbrev TE:=St->Hp->VK->Prop
abbrev TT:=St->Hp->(Bool->Hp->Prop)->Prop
abbrev TA:=St->Hp->(List V->Hp->Prop)->Prop
structure Ends where
 nx:St->Hp->Prop
 rt:VK
 bk:St->Hp->Prop:=λ_ _=>False
 ct:St->Hp->Prop:=λ_ _=>False
abbrev TS:=Ends->St->Hp->Prop
def V.gi(x:V)(k:Int->Prop):Prop:=match x with | .int i=>k i | _=>False
def V.gr(x:V)(k:Addr->Prop):Prop:=match x with | .ref i=>k i | _=>False
def V.gb(x:V)(k:Bool->Prop):Prop:=match x with | .bl i=>k i | _=>False
def V.gs(x:V)(k:Str->Prop):Prop:=match x with | .str i=>k i | _=>False
theorem cU{x:V}{k:Int->Prop}(h:x.gi k):∃i,x=.int i/\k i:=by cases x<;>first | exact(xWP _ rfl h) | exact h.elim
theorem bN{x:V}{k:Addr->Prop}(h:x.gr k):∃i,x=.ref i/\k i:=by cases x<;>first | exact(xWP _ rfl h) | exact h.elim
theorem iI{x:V}{k:Bool->Prop}(h:x.gb k):∃i,x=.bl i/\k i:=by cases x<;>first | exact(xWP _ rfl h) | exact h.elim
theorem J2{x:V}{k:Str->Prop}(h:x.gs k):∃i,x=.str i/\k i:=by cases x<;>first | exact(xWP _ rfl h) | exact h.elim
def LC(xs:List V)(k:V->List V->Prop):Prop:=match xs with | v::r=>k v r | []=>False
def L0(xs:List V)(k:Prop):Prop:=match xs with | []=>k | _::_=>False
theorem GQ{xs:List V}{k:V->List V->Prop}(h:LC xs k):∃v r,xs=v::r/\k v r:=by cases xs<;>first | exact(cG _ _ rfl h) | exact h.elim
theorem GR{xs:List V}{k:Prop}(h:L0 xs k):xs=[]/\k:=by cases xs<;>first | exact⟨rfl,h⟩ | exact h.elim
theorem KW{xs:List V}{k:V->Prop}(h:LC xs λv r=>L0 r (k v)):∃v,xs=[v]/\k v:=by
 obtain⟨v,r,rfl,h⟩:=GQ h;obtain⟨rfl,h⟩:=GR h;exact(xWP _ rfl h)
theorem O7{xs:List V}{k:V->V->Prop}(h:LC xs λv r=>LC r λw r=>L0 r (k v w)):∃v w,xs=[v,w]/\k v w:=by
 obtain⟨v,r,rfl,h⟩:=GQ h;obtain⟨w,rfl,h⟩:=KW h;exact(cG _ _ rfl h)
def St.at:St->Nat->(V->Prop)->Prop
 |[],_,_=>False
 |o::_,0,k=>o.elim False k
 |_::l,i+1,k=>St.at l i k
theorem rP:∀{σ:St}{i:Nat}{k:V->Prop},St.at σ i k->∃v,σ[i]?=some (some v)/\k v
 |[],_,_,h=>h.elim
 |none::_,0,_,h=>h.elim
 |some v::_,0,_,h=>(xWP v rfl h)
 |_::l,i+1,k,h=>rP (σ:=l) h
theorem rO:∀{σ:St}{i:Nat}{k:V->Prop}{v:V},σ[i]?=some (some v)->k v->St.at σ i k
 |some v::_,0,_,_,rfl,h=>h
 |_::l,i+1,k,_,e,h=>rO (σ:=l) e h
structure If(c:Bool)(A B:Prop):Prop where
 t:c=true->A
 f:c=false->B
theorem iF{A B:Prop}(h:B):If false A B:=⟨λz=>(by cases z),λ_=>h⟩
theorem iT{A B:Prop}(h:A):If true A B:=⟨λ_=>h,λz=>(by cases z)⟩
def Sc(b:Bool)(p:Prop):Prop:=match b with | true=>p | false=>False
theorem KU{b:Bool}{p:Prop}(h:Sc b p):b=true/\p:=by cases b<;>first | exact⟨rfl,h⟩ | exact h.elim
def EP(X:Cx)(pins:List (Addr×Obj))(σ:St)(Q:VK)(u:Value)(s':Shared):Prop:=∃v H',Inv X pins σ H' s'/\RelV v u/\Q v H'
def TP(X:Cx)(pins:List (Addr×Obj))(σ:St)(Q:Bool->Hp->Prop)(b:Bool)(s':Shared):Prop:=∃H',Inv X pins σ H' s'/\Q b H'
def AP(X:Cx)(pins:List (Addr×Obj))(σ:St)(Q:List V->Hp->Prop)(us:List Value)(s':Shared):Prop:=∃vs H',Inv X pins σ H' s'/\a8 vs us/\Q vs H'
def SP(X:Cx)(pins:List (Addr×Obj))(D:Ends)(f:Flow)(s':Shared):Prop :=
 match f with
 |.next=>∃σ' H',Inv X pins σ' H' s'/\D.nx σ' H'
 |.brk=>∃σ' H',Inv X pins σ' H' s'/\D.bk σ' H'
 |.cont=>∃σ' H',Inv X pins σ' H' s'/\D.ct σ' H'
 |.ret u=>∃v σ' H',Inv X pins σ' H' s'/\RelV v u/\D.rt v H'
def PE(X:Cx)(e:Expr)(t:TE):Prop :=
 ∀(pins:List (Addr×Obj)) (s:Shared) (σ:St) (H:Hp) (Q:VK),Inv X pins σ H s->t σ H Q->wpAny (model X.prog X.w) X.A (eval e X.env) (EP X pins σ Q) X.xe s
def PT(X:Cx)(e:Expr)(t:TT):Prop :=
 ∀(pins:List (Addr×Obj)) (s:Shared) (σ:St) (H:Hp) (Q:Bool->Hp->Prop),Inv X pins σ H s->t σ H Q->wpAny (model X.prog X.w) X.A (isTrue e X.env (eval e X.env)) (TP X pins σ Q) X.xe s
def PW(X:Cx)(e:Expr)(t:TT):Prop :=
 ∀(whole:Sem Value) (pins:List (Addr×Obj)) (s:Shared) (σ:St) (H:Hp) (Q:Bool->Hp->Prop),Inv X pins σ H s->t σ H Q->wpAny (model X.prog X.w) X.A (isTrue e X.env whole) (TP X pins σ Q) X.xe s
theorem oQ{X:Cx}{e:Expr}{t:TT}(h:PW X e t):PT X e t:=h _
def PA(X:Cx)(es:List Expr)(t:TA):Prop :=
 ∀(pos:Pos) (pins:List (Addr×Obj)) (s:Shared) (σ:St) (H:Hp) (Q:List V->Hp->Prop),Inv X pins σ H s->t σ H Q->wpAny (model X.prog X.w) X.A (spliced (backTo pos (starEach es X.env))) (AP X pins σ Q) X.xe s
def PS(X:Cx)(st:Stmt)(t:TS):Prop :=
 ∀(pins:List (Addr×Obj)) (s:Shared) (σ:St) (H:Hp) (D:Ends),Inv X pins σ H s->t D σ H->wpAny (model X.prog X.w) X.A (exec st X.env) (SP X pins D) X.xe s
def PSs(X:Cx)(st:List Stmt)(t:TS):Prop :=
 ∀(pins:List (Addr×Obj)) (s:Shared) (σ:St) (H:Hp) (D:Ends),Inv X pins σ H s->t D σ H->wpAny (model X.prog X.w) X.A (execs st X.env) (SP X pins D) X.xe s
theorem thn{α:Type}{t:Sem α}{Q Q':α->Shared->Prop}{M:Model}{A:Around}{E:Value->Shared->Prop}{s:Shared}(h:wpAny M A t Q E s)(hQ:∀a s,Q a s->Q' a s):wpAny M A t Q' E s:=ZX h hQ λ_ _ x=>x
theorem cW{X:Cx}{pins:List (Addr×Obj)}{σ:St}{Q:VK}{t:Sem Value}{Q':Value->Shared->Prop}{M:Model}{A:Around}{E:Value->Shared->Prop}{s:Shared}(h:wpAny M A t (EP X pins σ Q) E s)(k:∀u s' v H',Inv X pins σ H' s'->RelV v u->Q v H'->Q' u s'):wpAny M A t Q' E s:=thn h λ_ _ ⟨_,_,a,b,c⟩=>k _ _ _ _ a b c
theorem DI{X:Cx}{pins:List (Addr×Obj)}{σ:St}{Q:Bool->Hp->Prop}{t:Sem Bool}{Q':Bool->Shared->Prop}{M:Model}{A:Around}{E:Value->Shared->Prop}{s:Shared}(h:wpAny M A t (TP X pins σ Q) E s)(k:∀b s' H',Inv X pins σ H' s'->Q b H'->Q' b s'):wpAny M A t Q' E s:=thn h λ_ _ ⟨_,a,b⟩=>k _ _ _ a b
theorem oT{X:Cx}{pins:List (Addr×Obj)}{σ:St}{Q:List V->Hp->Prop}{t:Sem (List Value)}{Q':List Value->Shared->Prop}{M:Model}{A:Around}{E:Value->Shared->Prop}{s:Shared}(h:wpAny M A t (AP X pins σ Q) E s)(k:∀us s' vs H',Inv X pins σ H' s'->a8 vs us->Q vs H'->Q' us s'):wpAny M A t Q' E s:=thn h λ_ _ ⟨_,_,a,b,c⟩=>k _ _ _ _ a b c
section
variable{X:Cx}
def G7(i:Nat):TE:=λσ H Q=>St.at σ i λv=>Q v H
def tC(v:V):TE:=λ_ H Q=>Q v H
theorem L6{i:Nat}{x:Str}{pos:Pos}(hN:X.N[i]?=some x)(hv:Vis X.env.scope x)(hd:(x==("__debug__" : Str))=false:=by decide)(hcd:(x==("__classdict__" : Str))=false:=by decide):PE X (.Name x pos) (G7 i):=by
 intro pins s σ H Q I h;obtain⟨v,e,z1⟩:=rP h;have h:=z1;obtain⟨m,hn,hl⟩:=I.loc;obtain⟨u,r,l⟩:=hl i x v hN e hv;have fin:EP X pins σ Q u s:=(aH v H I r h)
 rcases l with⟨hk,hm⟩ | ⟨hk,c,hc,hcell⟩
 ·exact wpAny_Name (wpAny_loadName_local I.ok.kind hk hn hm fin) hd
 ·rcases hk with hk | hk
  ·exact wpAny_Name (wpAny_loadName_cell I.ok.kind hk hc hcell fin) hd
  ·exact wpAny_Name (wpAny_loadName_free I.ok.kind hk hc hcell fin hcd) hd
theorem aM{i j pos}:PE X (.Constant (.int i) j pos) (tC (.int i)):=λ_ _ _ H _ I h=>wpAny_Constant_int (aH (.int i) H (I.tok _) ⟨_,rfl⟩ h)
theorem vP{b j pos}:PE X (.Constant (.bool b) j pos) (tC (.bl b)):=λ_ _ _ H _ I h=>Constant_bool (aH (.bl b) H I rfl h)
theorem nP{j pos}:PE X (.Constant .none j pos) (tC .non):=λ_ _ _ H _ I h=>Constant_none (aH .non H I rfl h)
theorem MA{x j pos}:PE X (.Constant (.str x) j pos) (tC (.str x)):=λ_ _ _ H _ I h=>Calls.Constant_str (aH (.str x) H (I.tok _) ⟨_,rfl⟩ h)
def Gl(X:Cx)(x:Str):Prop:=X.env.kindOf x=some .globalImplicit
theorem uK{E:Value->Shared->Prop}{pins:List (Addr×Obj)}{s:Shared}{σ:St}{H:Hp}{x:Str}{u:Value}{pos:Pos}{Q:Value->Shared->Prop}(I:Inv X pins σ H s)(hg:Gl X x)(hm:X.mg x=some u)(h:Q u s)
  (hd:(x==("__debug__" : Str))=false:=by decide):wpAny (model X.prog X.w) X.A (eval (.Name x pos) X.env) Q E s :=
 Calls.Name_function_global I.ok.kind hg (Calls.loadGlobal_global (by rw[I.ok.glob];exact I.mod.glob.keeps I.bk) hm h) hd
theorem jV{E:Value->Shared->Prop}{pins:List (Addr×Obj)}{s:Shared}{σ:St}{H:Hp}{x:Str}{u:Value}{pos:Pos}{Q:Value->Shared->Prop}(I:Inv X pins σ H s)(hg:Gl X x)(hm:X.mg x=none)(hv:bootBuiltins x=some u)(h:Q u s)
  (hn:x≠"__name__":=by decide) (hd:(x==("__debug__" : Str))=false:=by decide):wpAny (model X.prog X.w) X.A (eval (.Name x pos) X.env) Q E s:=by
 obtain⟨mb,h1,h2⟩:=I.mod.blt;exact Calls.Name_function_global I.ok.kind hg (Calls.loadGlobal_builtin (by rw[I.ok.glob];exact I.mod.glob.keeps I.bk) hm (by rw[I.ok.blt];exact h1.keeps I.bk) ((h2 x hn).trans hv) h) hd
theorem II{x:Str}{v:V}{u:Value}{pos:Pos}(hg:Gl X x)(hm:X.mg x=some u)(r:RelV v u)(hd:(x==("__debug__" : Str))=false:=by decide):PE X (.Name x pos) (tC v) :=
 λ_ _ _ H _ I h=>uK I hg hm (aH v H I r h) hd
theorem IK{x:Str}{v:V}{u:Value}{pos:Pos}(hg:Gl X x)(hm:X.mg x=none)(hv:bootBuiltins x=some u)(r:RelV v u)(hn:x≠"__name__":=by decide)(hd:(x==("__debug__" : Str))=false:=by decide):PE X (.Name x pos) (tC v) :=
 λ_ _ _ H _ I h=>jV I hg hm hv (aH v H I r h) hn hd
variable{a b:Expr}{ta tb:TE}{pos:Pos}
def PC(X:Cx)(op:CmpOp)(a b:Expr)(t:TE):Prop :=
 ∀(pins:List (Addr×Obj)) (s:Shared) (σ:St) (H:Hp) (Q:VK),Inv X pins σ H s->t σ H Q ->
  wpAny (model X.prog X.w) X.A (eval a X.env) (λv s₁=>wpAny (model X.prog X.w) X.A (eval b X.env) (λu s₂=>wpAny (model X.prog X.w) X.A (compareOp op v u) (EP X pins σ Q) X.xe s₂) X.xe s₁) X.xe s
def tB(t:TE):TT:=λσ H Q=>t σ H λx H1=>x.gb λc=>Q c H1
theorem MC{op:CmpOp}{t:TE}(h:PC X op a b t)(h1:behindInMarks op b=false:=by first | exact nobehind _ (by decide) (by decide) | rfl):PE X (.Compare a [op] [b] pos) t:=λpins s σ H Q I hw=>wpAny_Compare1 (h pins s σ H Q I hw) h1
theorem L3{op:CmpOp}{t:TE}(h:PC X op a b t)(h1:behindInMarks op b=false:=by first | exact nobehind _ (by decide) (by decide) | rfl):PT X (.Compare a [op] [b] pos) (tB t):=by
 intro pins s σ H Q I hw;refine wpAny_isTrue_Compare1 (thn (h pins s σ H _ I hw) λv s1 h1=>thn h1 λu s2 h2=>cW h2 λc s3 x H1 I1 r1 q1=>?_) h1;obtain⟨d,rfl,z1⟩:=iI q1;have q:=z1;cases r1;exact wpAny_truthy_bool (xWP H1 I1 q)
variable{tA tB':TT}{rest:List Expr}
def PX(t u:TT):TT:=λσ H Q=>t σ H λc H1=>If c (u σ H1 Q) (Q false H1)
def tOr(t u:TT):TT:=λσ H Q=>t σ H λc H1=>If c (Q true H1) (u σ H1 Q)
def G8(t:TT):TT:=λσ H Q=>t σ H λc H1=>Q (!c) H1
theorem mF(ha:PT X a tA):PW X (.BoolOp .And [a] pos) tA:=by
 intro wh pins s σ H Q I h;refine isTrue_and (thn (ha pins s σ H Q I h) λc s1 e=>?_);cases c with
 |true=>exact isTrue_and_nil e
 |false=>exact e
theorem yF(ha:PT X a tA):PW X (.BoolOp .Or [a] pos) tA:=by
 intro wh pins s σ H Q I h;refine isTrue_or (thn (ha pins s σ H Q I h) λc s1 e=>?_);cases c with
 |false=>exact isTrue_or_nil e
 |true=>exact e
theorem nN(ha:PT X a tA)(hb:PW X (.BoolOp .And (b::rest) pos) tB'):PW X (.BoolOp .And (a::b::rest) pos) (PX tA tB'):=by
 intro wh pins s σ H Q I h;refine isTrue_and (DI (ha pins s σ H _ I h) λc s1 H1 I1 q1=>?_);cases c with
 |true=>exact hb wh pins s1 σ H1 Q I1 (q1.t rfl)
 |false=>exact(xWP H1 I1 (q1.f rfl))
theorem qF(ha:PT X a tA)(hb:PW X (.BoolOp .Or (b::rest) pos) tB'):PW X (.BoolOp .Or (a::b::rest) pos) (tOr tA tB'):=by
 intro wh pins s σ H Q I h;refine isTrue_or (DI (ha pins s σ H _ I h) λc s1 H1 I1 q1=>?_);cases c with
 |true=>exact(xWP H1 I1 (q1.t rfl))
 |false=>exact hb wh pins s1 σ H1 Q I1 (q1.f rfl)
theorem iL(ha:PT X a tA):PT X (.UnaryOp .Not a pos) (G8 tA):=by
 intro pins s σ H Q I h;exact isTrue_not (ha pins s σ H (λc H1=>Q (!c) H1) I h)
def NR(ta tb:TE):TE:=λσ H Q=>ta σ H λx H1=>x.gb λc=>If c (tb σ H1 Q) (Q (.bl false) H1)
def PM(ta tb:TE):TE:=λσ H Q=>ta σ H λx H1=>x.gb λc=>If c (Q (.bl true) H1) (tb σ H1 Q)
theorem lQ{op}{t:TE}(h:PE X a t):PE X (.BoolOp op [a] pos) t:=λpins s σ H Q I hw=>BoolOp_one (h pins s σ H Q I hw)
theorem lR(ha:PE X a ta)(hb:PE X (.BoolOp .And (b::rest) pos) tb):PE X (.BoolOp .And (a::b::rest) pos) (NR ta tb):=by
 intro pins s σ H Q I h;refine BoolOp_and (cW (ha pins s σ H _ I h) λv s1 x H1 I1 r1 q1=>?_);obtain⟨c,rfl,z1⟩:=iI q1;have q1:=z1;cases r1;refine wpAny_truthy_bool ?_;cases c with
 |true=>exact hb pins s1 σ H1 Q I1 (q1.t rfl)
 |false=>exact(aH (.bl false) H1 I1 rfl (q1.f rfl))
theorem OH(ha:PE X a ta)(hb:PE X (.BoolOp .Or (b::rest) pos) tb):PE X (.BoolOp .Or (a::b::rest) pos) (PM ta tb):=by
 intro pins s σ H Q I h;refine BoolOp_or (cW (ha pins s σ H _ I h) λv s1 x H1 I1 r1 q1=>?_);obtain⟨c,rfl,z1⟩:=iI q1;have q1:=z1;cases r1;refine wpAny_truthy_bool ?_;cases c with
 |false=>exact hb pins s1 σ H1 Q I1 (q1.f rfl)
 |true=>exact(aH (.bl true) H1 I1 rfl (q1.t rfl))
def tIf(t:TT)(ta tb:TE):TE:=λσ H Q=>t σ H λc H1=>If c (ta σ H1 Q) (tb σ H1 Q)
theorem jQ{c:Expr}(hc:PT X c tA)(ha:PE X a ta)(hb:PE X b tb):PE X (.IfExp c a b pos) (tIf tA ta tb):=by
 intro pins s σ H Q I h;refine wpAny_IfExp (DI (hc pins s σ H _ I h) λd s1 H1 I1 q1=>?_);cases d with
 |true=>exact ha pins s1 σ H1 Q I1 (q1.t rfl)
 |false=>exact hb pins s1 σ H1 Q I1 (q1.f rfl)
end
def SqL(H:Hp)(a:Addr)(xs:List V):Prop:=Rd H a (.lst xs)
def SqT(H:Hp)(a:Addr)(xs:List V):Prop:=Rd H a (.tup xs)
def QL:Value->Option V
 |.none=>some .non
 |.bool b=>some (.bl b)
 |.int i _=>some (.int i)
 |.str x _=>some (.str x)
 |.bytes b _=>some (.byt b)
 |.float b _=>some (.flt b)
 |.ref a=>some (.ref a)
 |.type n=>some (.ty n)
 |_=>none
theorem RelV.abs{x:V}{u:Value}(r:RelV x u):QL u=some x:=by
 cases x with
 |non=>cases r;rfl
 |bl _=>cases r;rfl
 |int _=>obtain⟨t,rfl⟩:=r;rfl
 |str _=>obtain⟨t,rfl⟩:=r;rfl
 |byt _=>obtain⟨t,rfl⟩:=r;rfl
 |flt _=>obtain⟨t,rfl⟩:=r;rfl
 |ref _=>cases r;rfl
 |ty _=>cases r;rfl
theorem RelV.inj{x y:V}{u:Value}(r:RelV x u)(q:RelV y u):x=y:=Option.some.inj (r.abs.symm.trans q.abs)
theorem a8.inj:∀{xs ys:List V}{us:List Value},a8 xs us->a8 ys us->xs=ys
 |_,_,_,.nil,.nil=>rfl
 |_,_,_,.cons r t,.cons r' t'=>by rw[r.inj r',a8.inj t t']
section
variable{X:Cx}{pins:List (Addr×Obj)}{σ:St}{H:Hp}{s:Shared}{a:Addr}{xs ys:List V}
theorem SqL.of(h:H a=some (.lst xs)):SqL H a xs:=.inl h
theorem SqT.of(h:H a=some (.tup xs)):SqT H a xs:=.inl h
theorem Inv.list(I:Inv X pins σ H s)(h:SqL H a xs):∃its:List Value,a8 xs its/\PlainL s.heap a its.toArray/\xs.length<=ZW:=by
 obtain⟨z,its,n,r,e⟩:=Rd.ok h I.hok;exact(aQ its r (aP _ n e rfl rfl rfl) z)
theorem Inv.tuple(I:Inv X pins σ H s)(h:SqT H a xs):∃its:List Value,a8 xs its/\IsTup s.heap a its.toArray/\xs.length<=ZW:=by
 obtain⟨z,its,r,p⟩:=Rd.ok h I.hok;exact(aQ its r p z)
theorem Inv.list_inj(I:Inv X pins σ H s)(h:SqL H a xs)(h':SqL H a ys):xs=ys:=by
 obtain⟨its,r,⟨o,n,e,_,_,d⟩,_⟩:=I.list h;obtain⟨its',r',⟨o',n',e',_,_,d'⟩,_⟩:=I.list h';rw[e]at e';cases e';rw[d]at d';injection d' with d1 _;have:its=its':=by simpa using congrArg Array.toList d1
 subst this;exact r.inj r'
end
abbrev Cx.wish(X:Cx)(E:Value->Shared->Prop):Cx:={ X with xe:=E }
abbrev Cx.nox(X:Cx):Cx:=X.wish λ_ _=>False
theorem Cx.Ok.wish{X:Cx}(ok:X.Ok)(E:Value->Shared->Prop):(X.wish E).Ok :=
 ⟨ok.mod,ok.kind,ok.glob,ok.blt,ok.above,ok.inj,ok.has,ok.cab,ok.hd,ok.frames,ok.stk,ok.exf,ok.bs,ok.bsz,ok.noex,ok.exfs,ok.funs,ok.frf⟩
theorem Cx.Ok.unwish{X:Cx}{E:Value->Shared->Prop}(ok:(X.wish E).Ok):X.Ok :=
 ⟨ok.mod,ok.kind,ok.glob,ok.blt,ok.above,ok.inj,ok.has,ok.cab,ok.hd,ok.frames,ok.stk,ok.exf,ok.bs,ok.bsz,ok.noex,ok.exfs,ok.funs,ok.frf⟩
section
variable{X:Cx}{pins:List (Addr×Obj)}{σ:St}{H:Hp}{s:Shared}{E:Value->Shared->Prop}
theorem Inv.wish(I:Inv X pins σ H s)(E:Value->Shared->Prop):Inv (X.wish E) pins σ H s:=⟨I.ok.wish E,I.os,I.bare,I.base,I.loc,I.cell,I.free,I.freeC,I.pin,I.hok,I.len⟩
theorem Inv.unwish(I:Inv (X.wish E) pins σ H s):Inv X pins σ H s:=⟨I.ok.unwish,I.os,I.bare,I.base,I.loc,I.cell,I.free,I.freeC,I.pin,I.hok,I.len⟩
theorem SP.unwish{D:Ends}{f:Flow}{s':Shared}(h:SP (X.wish E) pins D f s'):SP X pins D f s':=by
 cases f with
 |next=>obtain⟨σ',H',I,q⟩:=h;exact(cG σ' H' I.unwish q)
 |brk=>obtain⟨σ',H',I,q⟩:=h;exact(cG σ' H' I.unwish q)
 |cont=>obtain⟨σ',H',I,q⟩:=h;exact(cG σ' H' I.unwish q)
 |ret u=>obtain⟨v,σ',H',I,r,q⟩:=h;exact(iY v σ' H' I.unwish r q)
theorem PSs.nox{st:List Stmt}{t:TS}(h:PSs X.nox st t):PSs X st t:=λpins s σ H D I hw =>
 ZX (h pins s σ H D (I.wish _) hw) (λ_ _ q=>q.unwish) λ_ _ z=>False.elim z
end
section
variable{X:Cx}{st:Stmt}{rest:List Stmt}{t u:TS}{e:Expr}{te:TE}{pos:Pos}
def zT:TS:=λD σ H=>D.nx σ H
def BO(t u:TS):TS:=λD σ H=>t { D with nx:=u D } σ H
theorem cE:PSs X [] zT:=λ_ _ σ H _ I h=>wpAny_execs_nil (cG σ H I h)
theorem aS(h1:PS X st t)(h2:PSs X rest u):PSs X (st::rest) (BO t u):=by
 intro pins s σ H D I h;refine wpAny_execs_cons (thn (h1 pins s σ H { D with nx:=u D } I h) λf s1 q=>?_);cases f with
 |next =>
  obtain⟨σ',H',I',q⟩:=q;exact h2 pins s1 σ' H' D I' q
 |ret v=>exact q
 |brk=>exact q
 |cont=>exact q
theorem a0(h1:PS X st t):PSs X [st] t:=by
 intro pins s σ H D I h;refine wpAny_execs_cons (thn (h1 pins s σ H D I h) λf s1 q=>?_);cases f with
 |next=>exact wpAny_execs_nil q
 |ret v=>exact q
 |brk=>exact q
 |cont=>exact q
theorem Inv.quiet{pins:List (Addr×Obj)}{σ:St}{H:Hp}{s:Shared}(I:Inv X pins σ H s):interactive X.env=false:=by simp[interactive,I.ok.kind]
def NO(te:TE):TS:=λD σ H=>te σ H λ_ H1=>D.nx σ H1
theorem kK(he:PE X e te)(hs:swapsWith e none pos.line X.env=pure false:=by rfl):PS X (.Expr e pos) (NO te):=by
 intro pins s σ H D I h;exact wpAny_Expr_any (cW (he pins s σ H _ I h) λv s1 x H1 I1 r1 q1=>(cG σ H1 I1 q1)) I.quiet hs
def PJ(te:TE):TS:=λD σ H=>te σ H D.rt
theorem jN(he:PE X e te):PS X (.Return (some e) pos) (PJ te):=by
 intro pins s σ H D I h;exact wpAny_Return_some (cW (he pins s σ H _ I h) λv s1 x H1 I1 r1 q1=>(iY x σ H1 I1 r1 q1))
def HC(c:TT)(t u:TS):TS:=λD σ H=>c σ H λb H1=>If b (t D σ H1) (u D σ H1)
theorem eQ{c:Expr}{a b:List Stmt}{tc:TT}(hc:PT X c tc)(ha:PSs X a t)(hb:PSs X b u):PS X (.If c a b pos) (HC tc t u):=by
 intro pins s σ H D I h;refine wpAny_If (DI (hc pins s σ H _ I h) λd s1 H1 I1 q1=>?_);cases d with
 |true=>exact ha pins s1 σ H1 D I1 (q1.t rfl)
 |false=>exact hb pins s1 σ H1 D I1 (q1.f rfl)
def DJ:TS:=λ_ _ _=>False
theorem mG:PS X st DJ:=λ_ _ _ _ _ _ h=>h.elim
theorem fP{sts:List Stmt}:PSs X sts DJ:=λ_ _ _ _ _ _ h=>h.elim
end
abbrev TG:=V->St->Hp->(St->Hp->Prop)->Prop
abbrev TGs:=List V->St->Hp->(St->Hp->Prop)->Prop
def PG(X:Cx)(target:Expr)(t:TG):Prop :=
 ∀(pins:List (Addr×Obj)) (s:Shared) (σ:St) (H:Hp) (v:V) (u:Value) (Q:St->Hp->Prop),Inv X pins σ H s->RelV v u->t v σ H Q ->
  wpAny (model X.prog X.w) X.A (assign target X.env u) (λ_ s'=>∃σ' H',Inv X pins σ' H' s'/\Q σ' H') X.xe s
def PGs(X:Cx)(ts:List Expr)(t:TGs):Prop :=
 ∀(pins:List (Addr×Obj)) (s:Shared) (σ:St) (H:Hp) (vs:List V) (us:List Value) (Q:St->Hp->Prop),Inv X pins σ H s->a8 vs us->t vs σ H Q ->
  wpAny (model X.prog X.w) X.A (assignInOrder ((assignEach ts X.env).map (·.2)) us) (λ_ s'=>∃σ' H',Inv X pins σ' H' s'/\Q σ' H') X.xe s
abbrev GN:=V->V->V->Hp->(Hp->Prop)->Prop
def NC(X:Cx)(t:GN):Prop :=
 ∀(pins:List (Addr×Obj)) (s:Shared) (σ:St) (H:Hp) (o i v:V) (ov iv u:Value) (Q:Hp->Prop),Inv X pins σ H s->RelV o ov->RelV i iv->RelV v u->t o i v H Q ->
  wpAny (model X.prog X.w) X.A (setItem ov iv u) (λ_ s'=>∃H',Inv X pins σ H' s'/\Q H') X.xe s
abbrev TIp:=V->V->Hp->VK->Prop
def PIp(X:Cx)(op:Operator)(t:TIp):Prop :=
 ∀(pins:List (Addr×Obj)) (s:Shared) (σ:St) (H:Hp) (x y:V) (v u:Value) (Q:VK),Inv X pins σ H s->RelV x v->RelV y u->t x y H Q ->
  wpAny (model X.prog X.w) X.A (inplaceOp op v u) (EP X pins σ Q) X.xe s
section
variable{X:Cx}{pos:Pos}
def b0(i:Nat):TG:=λv σ H Q=>Q (σ.set i (some v)) H
theorem b7{i:Nat}{x:Str}(hN:X.N.Nodup)(hi:X.N[i]?=some x)(hx:Loc X.env.scope x)(hf:X.fn x=true\/X.env.scope.names.lookup x=some .local:=by first | exact .inl rfl | exact .inr rfl | assumption):PG X (.Name x pos) (b0 i):=by
 intro pins s σ H v u Q I r h;exact wpAny_assign_Name (iP I hN hi hx r (λs' I'=>(cG _ H I' h)) hf)
def F0:TGs:=λvs σ H Q=>L0 vs (Q σ H)
def wL(t:TG)(u:TGs):TGs:=λvs σ H Q=>LC vs λv r=>t v σ H λσ' H'=>u r σ' H' Q
theorem mI:PGs X [] F0:=by
 intro pins s σ H vs us Q I r h;obtain⟨e,h⟩:=GR h;subst e;cases r;exact assignInOrder_nil (cG σ H I h)
theorem dM{e:Expr}{es:List Expr}{t:TG}{u:TGs}(h1:PG X e t)(h2:PGs X es u)
  (hs:(assignEach (e::es) X.env).map (·.2)=assign e X.env::(assignEach es X.env).map (·.2):=by rfl):PGs X (e::es) (wL t u):=by
 intro pins s σ H vs us Q I r h;obtain⟨v,vr,e1,z1⟩:=GQ h;have h:=z1;subst e1;cases r with
 |cons r rr =>
  rw[hs];refine assignInOrder_cons (thn (h1 pins s σ H _ _ _ I r h) λ_ s1 ⟨σ1,H1,I1,q1⟩=>?_);exact h2 pins s1 σ1 H1 _ _ Q I1 rr q1
def M1(n:Nat)(t:TGs):TG:=λv σ H Q=>v.gr λa=>∃xs,SqT H a xs/\xs.length=n/\t xs σ H Q
theorem EW{es:List Expr}{k:Nat}{t:TGs}{n:Nat}(hc:X.calm=true)(h:PGs X es t)
  (hn:(assignEach es X.env).length=n:=by rfl) (hst:(assignEach es X.env).findIdx? (·.1)=none:=by rfl):PG X (.Tuple es k pos) (M1 n t):=by
 intro pins s σ H v u Q I r hw;obtain⟨a,e1,z1⟩:=bN hw;obtain⟨xs,hq,hl,hw2⟩:=z1;subst e1;cases r;obtain⟨its,rv,ht,hz⟩:=I.tuple hq;refine assign_Tuple_tuple (I.ok.hd hc) ht (by simp[hn,<-hl,rv.length]) hst λh' hx=>?_;have I1:Inv X pins σ H { s with heap:=h' }:=I.kept (t':=s.toks) λb o e=>hx b o (ZA (YV e)) e;exact h pins _ σ H xs _ Q I1 (by simpa using rv) hw2
def QK(to ti:TE)(t:GN):TG:=λv σ H Q=>to σ H λo H1=>ti σ H1 λi H2=>t o i v H2 λH3=>Q σ H3
theorem eT{o i:Expr}{to ti:TE}{t:GN}(ho:PE X o to)(hi:PE X i ti)(hs:NC X t)
  (ha:∀v,assign (.Subscript o i pos) X.env v=(do
   let ov <-holding [v] (eval o X.env)
   let iv <-holding [v,ov] (eval i X.env)
   standAt pos
   holding [v,ov,iv] (setItem ov iv v)
   release [v,ov,iv] []):=by intro _;rfl):PG X (.Subscript o i pos) (QK to ti t):=by
 intro pins s σ H v u Q I r h;rw[ha];refine ZZ (ZU (cW (ho pins s σ H _ I h) λov s1 x H1 I1 r1 q1=>?_));refine ZZ (ZU (cW (hi pins s1 σ H1 _ I1 q1) λiv s2 y H2 I2 r2 q2=>?_));refine ZZ (wpAny_standAt (ZZ (ZU (thn (hs pins s2 σ H2 x y v ov iv u _ I2 r1 r2 r q2) λ_ s3 ⟨H3,I3,q3⟩=>?_))));exact wpAny_release (cG σ H3 I3 q3)
def BP(te:TE)(g:TG):TS:=λD σ H=>te σ H λx H1=>g x σ H1 D.nx
theorem dF{tg e:Expr}{te:TE}{g:TG}(he:PE X e te)(hg:PG X tg g)(hs:swapsWithSole [tg] e pos.line X.env=pure false:=by rfl)(hw:swappedStores [tg] e X.env=pure none:=by rfl)
  (h1:(assignEach [tg] X.env).map (·.2)=[assign tg X.env]:=by rfl):PS X (.Assign [tg] e pos) (BP te g):=by
 intro pins s σ H D I h;refine wpAny_Assign_stores (cW (he pins s σ H _ I h) λv s1 x H1 I1 r1 q1=>?_) hs hw;rw[h1];exact thn (hg pins s1 σ H1 x v _ I1 r1 q1) λ_ s2 q=>q
theorem EN{i:Nat}{x:Str}{e:Expr}{te:TE}{pos':Pos}(hN:X.N.Nodup)(hi:X.N[i]?=some x)(hx:Loc X.env.scope x)(he:PE X e te)(hs:swapsWith e (some (.Name x pos')) pos.line X.env=pure false:=by rfl)(hf:X.fn x=true\/X.env.scope.names.lookup x=some .local:=by first | exact .inl rfl | exact .inr rfl | assumption) :
  PS X (.Assign [.Name x pos'] e pos) (BP te (b0 i)):=by
 intro pins s σ H D I h;refine wpAny_Assign_Name (cW (he pins s σ H _ I h) λv s1 y H1 I1 r1 q1=>?_) hs;exact iP I1 hN hi hx r1 (λs2 I2=>(cG _ H1 I2 q1)) hf
def PL(i j:Nat)(ta:TA):TS:=λD σ H=>ta σ H λvs H1=>LC vs λv v_r=>LC v_r λw w_r=>L0 w_r <| D.nx ((σ.set i (some v)).set j (some w)) H1
theorem yG{i j:Nat}{x y:Str}{a b:Expr}{ta:TA}{px py pt:Pos}{kt k2 pt2}(hc:X.calm=true)(hN:X.N.Nodup)(hi:X.N[i]?=some x)(hj:X.N[j]?=some y)(hij:i≠j)
  (hx:X.env.scope.names.lookup x=some .local) (hy:X.env.scope.names.lookup y=some .local) (ha:PA X [a,b] ta)
  (hw:swappedStores [.Tuple [.Name x px,.Name y py] kt pt] (.Tuple [a,b] k2 pt2) X.env=pure (some [x,y]))
  (hs:swapsWithSole [.Tuple [.Name x px,.Name y py] kt pt] (.Tuple [a,b] k2 pt2) pos.line X.env=pure false:=by rfl) :
  PS X (.Assign [.Tuple [.Name x px,.Name y py] kt pt] (.Tuple [a,b] k2 pt2) pos) (PL i j ta):=by
 intro pins s σ H D I h;rw[exec_Assign_arm];refine ZZ (wpAny_standAt ?_);rw[hs];refine ZZ (ZY ?_);rw[Ya (by decide)];refine ZZ (Tuple_ (oT (ha _ pins s σ H _ I h) λus s1 vs H1 I1 r1 q1=>?_));obtain⟨v,w,e1,z1⟩:=O7 q1;have q1:=z1;subst e1;obtain⟨u1,u2,rfl,rv,rw'⟩:∃u1 u2,us=[u1,u2]/\RelV v u1/\RelV w u2:=by
  cases r1 with
  |cons p q =>
   cases q with
   |cons p' q' =>
    cases q';exact(aH _ _ rfl p p')
 refine wpAny_newObj_type ?_ (by show 2<=ZW;decide);have I2:Inv X pins σ H1 { s1 with heap:=s1.heap.push { cls:=.type "tuple",data:=.seq [u1,u2].toArray } }:=I1.kept (t':=s1.toks) λb o e=>YW _ e;rw[hw];refine ZZ (ZY ?_);show wpAny (model X.prog X.w) X.A (do rule "assign.swapped-stores";let items <-unpackItems (.ref s1.heap.objs.size) 2 none;assignInOrder [λv=>bindName X.env y v,λv=>bindName X.env x v] items.reverse;pure Flow.next) _ _ _;refine ZZ (wpAny_rule (ZZ (unpackItems_tuple (items:=#[u1,u2]) (I.ok.hd hc) (IsTup.new s1.heap _) λh' hx'=>?_)));have I3:=I2.kept (h':=h') (t':=s1.toks) λb o e=>hx' b o (ZA (YV e)) e;show wpAny _ _ (assignInOrder [λv=>bindName X.env y v,λv=>bindName X.env x v] [u2,u1] >>= λ_=>pure Flow.next) _ _ _;refine ZZ (assignInOrder_cons (wpAny_bindName (iP I3 hN hj (.inl hy) rw' (λs2 I4=>?_) (.inr hy))));refine assignInOrder_cons (wpAny_bindName (iP I4 hN hi (.inl hx) rv (λs3 I5=>assignInOrder_nil (ZY ?_)) (.inr hx)));rw[List.set_comm _ _ (Yh hij)]at I5;exact(cG _ H1 I5 q1)
def PV(i:Nat)(te:TE)(ti:TIp):TS:=λD σ H=>St.at σ i λx=>te σ H λy H1=>ti x y H1 λz H2=>D.nx (σ.set i (some z)) H2
theorem yH{i:Nat}{x:Str}{e:Expr}{te:TE}{op:Operator}{ti:TIp}{pos':Pos}(hN:X.N.Nodup)(hi:X.N[i]?=some x)(hx:Loc X.env.scope x)(he:PE X e te)(ho:PIp X op ti)(hf:X.fn x=true\/X.env.scope.names.lookup x=some .local:=by first | exact .inl rfl | exact .inr rfl | assumption) :
  PS X (.AugAssign (.Name x pos') op e pos) (PV i te ti):=by
 intro pins s σ H D I h;obtain⟨v,e1,z1⟩:=rP h;have h:=z1;obtain⟨m,hn,hl⟩:=I.loc;have vis:Vis X.env.scope x:=by rcases hx with k | k;exact .inl k;exact .inr (.inl k)
 obtain⟨u,r,l⟩:=hl i x v hi e1 vis;refine wpAny_AugAssign_Name ?_;have go:wpAny (model X.prog X.w) X.A (eval e X.env) (λw s₂=>wpAny (model X.prog X.w) X.A (inplaceOp op u w) (λr s₃=>wpAny (model X.prog X.w) X.A (storeName X.env x r) (λ_=>SP X pins D .next) X.xe s₃) X.xe s₂) X.xe s:=by
  refine cW (he pins s σ H _ I h) λw s1 y H1 I1 r1 q1=>?_;refine cW (ho pins s1 σ H1 v y u w _ I1 r r1 q1) λz s2 zv H2 I2 r2 q2=>?_;exact iP I2 hN hi hx r2 (λs3 I3=>(cG _ H2 I3 q2)) hf
 rcases l with⟨hk,hm⟩ | ⟨hk,c,hc,hcell⟩
 ·exact wpAny_loadName_local I.ok.kind hk hn hm go
 ·rcases hk with hk | hk
  ·exact wpAny_loadName_cell I.ok.kind hk hc hcell go
  ·rcases hx with k | k
   ·have:X.env.scope.names.lookup x=some .free:=hk;rw[k]at this;cases this
   ·have:X.env.scope.names.lookup x=some .free:=hk;rw[k]at this;cases this
def NQ(to ti te:TE)(tget:V->V->Hp->VK->Prop)(tip:TIp)(tset:GN):TS:=λD σ H=>to σ H λo H1=>ti σ H1 λi H2=>tget o i H2 λx H3=>te σ H3 λy H4=>tip x y H4 λz H5=>tset o i z H5 λH6=>D.nx σ H6
def O4(X:Cx)(t:V->V->Hp->VK->Prop):Prop :=
 ∀(pins:List (Addr×Obj)) (s:Shared) (σ:St) (H:Hp) (o i:V) (ov iv:Value) (Q:VK),Inv X pins σ H s->RelV o ov->RelV i iv->t o i H Q ->
  wpAny (model X.prog X.w) X.A (getItem ov iv) (EP X pins σ Q) X.xe s
theorem iC{o i e:Expr}{to ti te:TE}{tget:V->V->Hp->VK->Prop}{tip:TIp}{tset:GN}{op:Operator}{tpos:Pos}(ho:PE X o to)(hi:PE X i ti)(hg:O4 X tget)(he:PE X e te)(hp:PIp X op tip)(hs:NC X tset)
  (ha:∀ov iv new,augStore i ov iv new=(do holding [new,ov,iv] (setItem ov iv new);release [new,ov,iv] [];pure .next):=by intros;rfl):PS X (.AugAssign (.Subscript o i tpos) op e pos) (NQ to ti te tget tip tset):=by
 intro pins s σ H D I h;refine wpAny_AugAssign_SubscriptAny (cW (ho pins s σ H _ I h) λov s1 x1 H1 I1 r1 q1=>?_) ha;refine cW (hi pins s1 σ H1 _ I1 q1) λiv s2 x2 H2 I2 r2 q2=>?_;refine cW (hg pins s2 σ H2 x1 x2 ov iv _ I2 r1 r2 q2) λold s3 x3 H3 I3 r3 q3=>?_;refine cW (he pins s3 σ H3 _ I3 q3) λv s4 x4 H4 I4 r4 q4=>?_;refine cW (hp pins s4 σ H4 x3 x4 old v _ I4 r3 r4 q4) λnew s5 x5 H5 I5 r5 q5=>?_;exact thn (hs pins s5 σ H5 x1 x2 x5 ov iv new _ I5 r1 r2 r5 q5) λ_ s6 ⟨H6,I6,q6⟩=>(cG σ H6 I6 q6)
def ipI(f:Int->Int->Int):TIp:=λx y H Q=>x.gi λi=>y.gi λj=>Q (.int (f i j)) H
theorem jX:PIp X .Add (ipI λi j=>i+j):=by
 intro pins s σ H x y v u Q I r1 r2 h;obtain⟨i,e1,z1⟩:=cU h;obtain⟨j,e2,z2⟩:=cU z1;have q:=z2;subst e1;subst e2;obtain⟨t,rfl⟩:=r1;obtain⟨t',rfl⟩:=r2;exact iadd_int (aH (.int _) H (I.tok _) ⟨_,rfl⟩ q)
theorem zB:PIp X .Sub (ipI λi j=>i-j):=by
 intro pins s σ H x y v u Q I r1 r2 h;obtain⟨i,e1,z1⟩:=cU h;obtain⟨j,e2,z2⟩:=cU z1;have q:=z2;subst e1;subst e2;obtain⟨t,rfl⟩:=r1;obtain⟨t',rfl⟩:=r2;exact isub_int (aH (.int _) H (I.tok _) ⟨_,rfl⟩ q)
end
section
variable{X:Cx}{pos:Pos}
def K7(c:TT)(tb:TS):TS:=λD σ H=>∃W:Nat->St->Hp->Prop,(∃m,W m σ H)/\∀m σ H,W m σ H ->
 c σ H λb H1=>If b (∃N:St->Hp->Prop,(∀σ' H',N σ' H'->∃m',m' < m/\W m' σ' H')/\tb { D with nx:=N,ct:=N,bk:=D.nx } σ H1) (D.nx σ H1)
theorem vM{c:Expr}{body:List Stmt}{tc:TT}{tb:TS}(hp:PassesOwn (model X.prog X.w) X.A X.env X.xe)(hc:PT X c tc)(hb:PSs X body tb):PS X (.While c body [] pos) (K7 tc tb):=by
 intro pins s σ H D I h;obtain⟨W,⟨m0,w0⟩,turn⟩:=h;refine wpAny_While (codeAny_whileLoop (λn s'=>∃σ' H',Inv X pins σ' H' s'/\W n σ' H') ?_ m0 (cG σ H I w0));rintro n s1 ⟨σ1,H1,I1,w1⟩;refine wpAny_passesOwn hp (DI (hc pins s1 σ1 H1 _ I1 (turn n σ1 H1 w1)) λb s2 H2 I2 q2=>?_);cases b with
 |true =>
  obtain⟨N,hN,q2⟩:=q2.t rfl;rw[Yb rfl];refine wpAny_passesOwn hp (thn (hb pins s2 σ1 H2 _ I2 q2) λf s3 q3=>?_);cases f with
  |next =>
   obtain⟨σ3,H3,I3,n3⟩:=q3;obtain⟨m',hm,w3⟩:=hN σ3 H3 n3;exact(xN m' hm σ3 H3 I3 w3)
  |cont =>
   obtain⟨σ3,H3,I3,n3⟩:=q3;obtain⟨m',hm,w3⟩:=hN σ3 H3 n3;exact(xN m' hm σ3 H3 I3 w3)
  |brk=>exact q3
  |ret v=>exact q3
 |false =>
  rw[Ya YT];exact wpAny_execs_nil (cG σ1 H2 I2 (q2.f rfl))
end
structure It where
 go:Nat->Hp->Prop
 yld:Nat->Hp->V->Hp->Prop
 stop:Nat->Hp->Prop
def oX(X:Cx)(pins:List (Addr×Obj))(H:Hp)(b:Addr):Prop :=
 H b=none/\b≠X.env.locals/\b∉X.fs/\(b∈X.ex\/X.s₀.heap.objs.size<=b)/\(∀x c,X.env.cells.lookup x=some c->c≠b)/\∀p∈X.pn++pins,p.1≠b
theorem Inv.fpOk{X:Cx}{pins:List (Addr×Obj)}{σ:St}{H H':Hp}{s:Shared}{b:Addr}(I:Inv X pins σ H s)(hb:s.heap.objs.size<=b)(hn:H' b=none):oX X pins H' b:=by
 refine(gK hn (Nat.ne_of_gt (Xz I.lt hb)) (I.nofs hb) (.inr (YQ I.sz hb)) (λx c e z=>?_) (λp hp z=>?_))
 ·obtain⟨v,q⟩:=I.cell x c e;exact Yg (Xz q.lt (by rw[z];exact hb)) (YY _)
 ·exact Yg (Xz (YV (I.pin p hp).1) (by rw[z];exact hb)) (YY _)
structure Turn(P:Program)(w:World)(K:PySem.W.Frag)(tg:Expr)(J:It)(fp:List Addr)(it:Addr)(tn:Nat->Heap->Prop):Prop where
 mem:it∈fp
 obj:∀i h,tn i h->∀b∈fp,∃o,h.get? b=some o/\∀v,o.data≠.cell v
 keep:∀i h h',tn i h->(∀b∈fp,∀o,h.get? b=some o->h'.get? b=some o)->tn i h'
 item:∀(X:Cx),X.prog=P->X.w=w->X.K=K->X.calm=true->∀(i:Nat) (pins:List (Addr×Obj)) (s:Shared) (σ:St) (H:Hp) (E:Value->Shared->Prop),Inv X pins σ H s->(∀b∈fp,oX X pins H b)->tn i s.heap->J.go i H ->
  wpAny (model P w) X.A (pyNext (.ref it)) (λr s1=>∃u,r=some u /\
   wpAny (model P w) X.A (letOwnedTupleGo tg (.ref it) u) (λ_ s2=>∃x H',Inv X pins σ H' s2/\RelV x u/\J.yld i H x H'/\tn (i+1) s2.heap/\∀b∈fp,H' b=none) E s1) E s
 done:∀(X:Cx),X.prog=P->X.w=w->X.K=K->X.calm=true->∀(i:Nat) (pins:List (Addr×Obj)) (s:Shared) (σ:St) (H:Hp) (E:Value->Shared->Prop),Inv X pins σ H s->(∀b∈fp,oX X pins H b)->tn i s.heap->J.stop i H ->
  wpAny (model P w) X.A (pyNext (.ref it)) (λr s1=>r=none/\Inv X pins σ H s1) E s
 self:∀(A:Around) (i:Nat) (s:Shared) (Q:Value->Shared->Prop) (E:Value->Shared->Prop),tn i s.heap->Q (.ref it) s->wpAny (model P w) A (pyIter (.ref it)) Q E s
abbrev TI:=St->Hp->(It->Hp->Prop)->Prop
def PIE(X:Cx)(pins:List (Addr×Obj))(σ:St)(tg:Expr)(R:It->Hp->Prop)(itv:Value)(s2:Shared):Prop :=
 ∃(it:Addr) (fp:List Addr) (tn:Nat->Heap->Prop) (J:It) (H':Hp),itv=.ref it/\Inv X pins σ H' s2/\Turn X.prog X.w X.K tg J fp it tn/\tn 0 s2.heap/\(∀b∈fp,oX X pins H' b)/\R J H'
def PI(X:Cx)(tg iter:Expr)(wi:TI):Prop :=
 ∀(pins:List (Addr×Obj)) (s:Shared) (σ:St) (H:Hp) (R:It->Hp->Prop),Inv X pins σ H s->wi σ H R ->
  wpAny (model X.prog X.w) X.A (eval iter X.env) (λv s1=>wpAny (model X.prog X.w) X.A (pyIter v) (PIE X pins σ tg R) X.xe s1) X.xe s
theorem FZ{M:Model}{A:Around}{E:Value->Shared->Prop}{s:Shared}{tg:Expr}{it:Addr}{u:Value}{o:Obj}{n:String}{vs:Array Value}{Q:Unit->Shared->Prop}(ho:s.heap.get? it=some o)(hc:o.cls=.type n)(hd:o.data=.fields vs)
  (hn:["enumerate","zip","dict_itemiterator","dict_reverseitemiterator","odict_iterator","itertools.zip_longest","itertools.pairwise"].contains n=false) (hQ:Q () s):wpAny M A (letOwnedTupleGo tg (.ref it) u) Q E s:=by
 unfold letOwnedTupleGo;cases tg<;>first
  |exact ZY hQ
  |(cases u<;>first
    |exact ZY hQ
    |(refine ZZ (wpAny_load ho ?_);rw[hc,hd];show wpAny M A (if (["enumerate","zip","dict_itemiterator","dict_reverseitemiterator","odict_iterator","itertools.zip_longest","itertools.pairwise"].contains n&&vs[0]?==some (rawInt _))=true then _ else _) Q E s;rw[Ya (by intro h;rw[hn,Bool.false_and]at h;cases h)];exact ZY hQ))
def Itl(a:Addr):It :=
 ⟨λi H=>∃xs x,SqL H a xs/\xs[i]?=some x,λi H x H'=>H'=H/\∀xs,SqL H a xs->xs[i]?=some x,λi H=>∃xs,SqL H a xs/\xs.length<=i⟩
def Itr(lo:Int)(n:Nat):It:=⟨λi _=>i<n,λi H x H'=>H'=H/\x=.int (lo+i),λi _=>n<=i⟩
theorem BM{P:Program}{w:World}{K:PySem.W.Frag}{tg:Expr}(a it:Addr):Turn P w K tg (Itl a) [it] it (λi h=>h.IsListIter it a i) where
 mem:=by simp
 obj:=λi h st b hb=>by
  have e:b=it:=by simpa using hb
  subst e;obtain⟨o,e,c,d⟩:=st;exact(xWP o e (λv z=>by rw[d]at z;cases z))
 keep:=λi h h' st k=>st.at λo e=>k it (by simp) o e
 item:=by
  intro X hP hw hK hc i pins s σ H E I hf st hg;subst hP hw hK;obtain⟨xs,x,hq,hx⟩:=hg;obtain⟨its,rv,p,hz⟩:=I.list hq;obtain⟨u,hu,ru⟩:=rv.get hx;obtain⟨f0,f1,f2,f3,f4,f5⟩:=hf it (by simp);refine wpAny_pyNext_list_item st p.isList (x:=u) (by simpa using hu) λh' st' sb=>?_;have I1:Inv X pins σ H { s with heap:=h' }:=I.turned (t':=s.toks) (λb o hb e=>(sb.2 b hb).trans e) f0 f1 f3 f4 f5;obtain⟨o,e,c,d⟩:=id st';exact(xWP u rfl (FZ (s:={ s with heap:=h' }) e c d (by decide) (dI x H I1 ru ⟨rfl,λys hy=>by rw[I.list_inj hy hq];exact hx⟩ st' (λb hb=>(hf b hb).1))))
 done:=by
  intro X hP hw hK hc i pins s σ H E I hf st hg;subst hP hw hK;obtain⟨xs,hq,hx⟩:=hg;obtain⟨its,rv,p,hz⟩:=I.list hq;obtain⟨f0,f1,f2,f3,f4,f5⟩:=hf it (by simp);have hl:=rv.length;exact wpAny_pyNext_list_end (I.ok.hd hc) st p.isList (by simp;lia) λh' eb=>⟨rfl,I.turned (t':=s.toks) (λb o hb e=>eb b o hb e) f0 f1 f3 f4 f5⟩
 self:=λ_ _ _ _ _ st h=>wpAny_pyIter_listiter st h
theorem x6{P:Program}{w:World}{K:PySem.W.Frag}{tg:Expr}(it:Addr)(lo:Int)(n:Nat):Turn P w K tg (Itr lo n) [it] it (λi h=>IsRangeIter h it (lo+(i:Nat)*1) ((n:Int)-(i:Nat)) 1) where
 mem:=by simp
 obj:=λi h st b hb=>by
  have e:b=it:=by simpa using hb
  subst e;exact(xWP _ st (λv z=>by
   have z':Data.fields _=Data.cell v:=z;cases z'))
 keep:=λi h h' st k=>k it (by simp) _ st
 item:=by
  intro X hP hw hK hc i pins s σ H E I hf st hg;subst hP hw hK;obtain⟨f0,f1,f2,f3,f4,f5⟩:=hf it (by simp);have W:=Walks.range (prog:=X.prog) (w:=X.w) (I.ok.hd hc) it lo 1 n;refine W.item i s _ _ hg st λv h' tk hv st' kk=>?_;obtain⟨t,rfl⟩:=hv;have I1:Inv X pins σ H { s with heap:=h',toks:=tk }:=I.turned (λb o hb e=>kk b o (by simpa using hb) e) f0 f1 f3 f4 f5;refine(xWP _ rfl (FZ (s:={ s with heap:=h',toks:=tk }) (n:="range_iterator") st' rfl rfl (by decide) (dI (.int (lo+i)) H I1 ⟨t,?_⟩ ⟨rfl,rfl⟩ st' (λb hb=>(hf b hb).1))));rw[Int.mul_one]
 done:=by
  intro X hP hw hK hc i pins s σ H E I hf st hg;subst hP hw hK;obtain⟨f0,f1,f2,f3,f4,f5⟩:=hf it (by simp);exact wpAny_pyNext_range_end (I.ok.hd hc) st (by have:n<=i:=hg;lia) λh' eb=>⟨rfl,I.turned (t':=s.toks) (λb o hb e=>eb b o hb e) f0 f1 f3 f4 f5⟩
 self:=λ_ _ _ _ _ st h=>wpAny_pyIter_rangeiter st h
section
variable{X:Cx}{tg:Expr}
def OS(tl:TE):TI:=λσ H R=>tl σ H λx H1=>x.gr λa=>(∃xs,SqL H1 a xs)/\R (Itl a) H1
theorem a7{l:Expr}{tl:TE}(hl:PE X l tl):PI X tg l (OS tl):=by
 intro pins s σ H R I h;refine cW (hl pins s σ H _ I h) λv s1 x H1 I1 r1 q1=>?_;obtain⟨a,e,z1⟩:=bN q1;obtain⟨⟨xs,hq⟩,q⟩:=z1;subst e;cases r1;obtain⟨its,rv,p,hz⟩:=I1.list hq;refine wpAny_pyIter_list p.isList ?_;refine(bB s1.heap.objs.size ([s1.heap.objs.size]) _ _ H1 rfl (I1.kept (t':=s1.toks) λb o e=>YW _ e) (BM a _) (aQ _ (YU _ rfl) rfl rfl) ⟨ λb hb=>?_,q⟩);have e:b=s1.heap.objs.size:=by simpa using hb
 subst e;exact I1.fpOk (ZC _) (I1.hok.fresh (ZC _))
theorem EJ{pins:List (Addr×Obj)}{σ:St}{H:Hp}{s:Shared}{R:It->Hp->Prop}{E:Value->Shared->Prop}{lo hi:Int}{t u v:Tok}{tk:Nat}(I:Inv X pins σ H s)(h1 : -(2 ^ 62)<=lo)(h2:lo<2 ^ 62)(h3 : -(2 ^ 62)<=hi)(h4:hi<2 ^ 62)
  (q:R (Itr lo (hi-lo).toNat) H):wpAny (model X.prog X.w) X.A (pyIter (.ref s.heap.objs.size)) (PIE X pins σ tg R) E { s with heap:=s.heap.push { cls:=.type "range",data:=.fields #[.int lo t,.int hi u,.int 1 v] },toks:=tk }:=by
 refine wpAny_pyIter_range (IsRange.new ..) (small_one h1 h2 h3 h4) ?_;have I1:Inv X pins σ H { s with heap:=s.heap.push { cls:=.type "range",data:=.fields #[.int lo t,.int hi u,.int 1 v] },toks:=tk }:=I.kept λb o e=>YW _ e;refine(bB ((s.heap.push { cls:=.type "range",data:=.fields #[.int lo t,.int hi u,.int 1 v] }).objs.size) ([(s.heap.push { cls:=.type "range",data:=.fields #[.int lo t,.int hi u,.int 1 v] }).objs.size]) _ _ H rfl (I1.kept (t':=tk) λb o e=>YW _ e) (x6 _ lo (hi-lo).toNat) ?_ ⟨ λb hb=>?_,q⟩)
 ·have e1:lo+((0:Nat):Int)*1=lo:=by simp
  have e2:(((hi-lo).toNat:Nat):Int)-((0:Nat):Int)=Builtin.Range.rangeSize lo hi 1:=by rw[rangeSize_one];split<;>lia
  show IsRangeIter _ _ (lo+((0:Nat):Int)*1) ((((hi-lo).toNat:Nat):Int)-((0:Nat):Int)) 1;rw[e1,e2];exact YU _ rfl
 ·have e:b=(s.heap.push { cls:=.type "range",data:=.fields #[.int lo t,.int hi u,.int 1 v] }).objs.size:=by simpa using hb
  subst e;exact I1.fpOk (ZC _) (I1.hok.fresh (ZC _))
def OR(ta:TA):TI:=λσ H R=>ta σ H λvs H1=>∃j:Int,vs=[.int j]/\-(2 ^ 62)<=j/\j<2 ^ 62/\R (Itr 0 j.toNat) H1
theorem fR{a:Expr}{ta:TA}{p pos:Pos}(hg:Gl X "range")(hm:X.mg "range" = none)(ha:PA X [a] ta)(hs:starEach [a] X.env=[(false,eval a X.env)]:=by rfl):PI X tg (.Call (.Name "range" p) [a] [] pos) (OR ta):=by
 intro pins s σ H R I h;refine Call_ (jV I hg hm boot_range (PyProof.Rows.callWith_type1 (oT (ha pos pins s σ H _ I h) λus s1 vs H1 I1 r1 q1=>?_) hs rfl));obtain⟨j,e,q1,q2,q⟩:=q1;subst e;cases r1 with
 |cons r rr =>
  cases rr;obtain⟨t,rfl⟩:=r;exact call_range_1 (EJ I1 (by lia) (by lia) q1 q2 (by simpa using q))
def PP(wi:TI)(g:TG)(tb:TS):TS:=λD σ H=>wi σ H λJ H1=>∃W:Nat->Nat->St->Hp->Prop,(∃m,W 0 m σ H1)/\∀i m σ H,W i m σ H ->
 (J.stop i H/\D.nx σ H)\/(J.go i H/\∃N:St->Hp->Prop,(∀σ' H',N σ' H'->∃m',m' < m/\W (i+1) m' σ' H')/\∀x H',J.yld i H x H'->g x σ H' λσ2 H2=>tb { D with nx:=N,ct:=N,bk:=D.nx } σ2 H2)
def qK(fp:List Addr)(h:Heap):List (Addr×Obj):=fp.filterMap λb=>(h.get? b).map λo=>(b,o)
theorem i9{fp:List Addr}{h:Heap}{b:Addr}{o:Obj}(hb:b∈fp)(e:h.get? b=some o):(b,o)∈qK fp h:=List.mem_filterMap.mpr (xWP b hb (by rw[e];rfl))
theorem CC{fp:List Addr}{h:Heap}{p:Addr×Obj}(hp:p∈qK fp h):p.1∈fp/\h.get? p.1=some p.2:=by
 obtain⟨b,hb,e⟩:=List.mem_filterMap.mp hp;cases q:h.get? b with
 |none=>rw[q]at e;cases e
 |some o =>
  rw[q]at e;have e':(b,o)=p:=Option.some.inj e;subst e';exact⟨hb,q⟩
theorem Inv.pinned{pins:List (Addr×Obj)}{σ:St}{H:Hp}{s:Shared}{fp:List Addr}(I:Inv X pins σ H s)(hf:∀b∈fp,oX X pins H b)(ho:∀b∈fp,∃o,s.heap.get? b=some o/\∀v,o.data≠.cell v):Inv X (pins++qK fp s.heap) σ H s :=
 I.pins_of λp hp=>(Zf.mp hp).elim (λz=>I.pin p (ZN _ z)) λz=>by
  obtain⟨hb,e⟩:=CC z;obtain⟨f0,f1,f2,_⟩:=hf p.1 hb;obtain⟨o,e',d⟩:=ho p.1 hb;rw[e]at e';cases e';exact(bU e f0 f1 f2 d)
theorem Inv.unpinned{pins pl:List (Addr×Obj)}{σ:St}{H:Hp}{s:Shared}(I:Inv X (pins++pl) σ H s):Inv X pins σ H s:=I.pins_of λp hp=>I.pin p (ZN _ (ZO _ hp))
theorem i5{iter:Expr}{body:List Stmt}{wi:TI}{g:TG}{tb:TS}{pos:Pos}(hp:PassesOwn (model X.prog X.w) X.A X.env X.xe)(hc:X.calm=true)(hi:PI X tg iter wi)(hg:PG X tg g)(hb:PSs X body tb)
  (hs:∀x,foldedSetIterable iter X.env x=pure x:=by intro _;rfl):PS X (.For tg iter body [] pos) (PP wi g tb):=by
 intro pins s σ H D I h;refine wpAny_For (thn (hi pins s σ H _ I h) λv s1 h1=>thn h1 λitv s2 h2=>?_) hs;obtain⟨it,fp,tn,J,H2,e,I2,T,st2,f2,W,⟨m0,w0⟩,turn⟩:=h2;subst e;have stat:∀{H':Hp},(∀b∈fp,H' b=none)->∀b∈fp,oX X pins H' b:=λhn b hb=>⟨hn b hb,(f2 b hb).2⟩
 refine codeAny_forLoop_any (λn s'=>∃i σ' H',Inv X pins σ' H' s'/\tn i s'.heap/\(∀b∈fp,H' b=none)/\W i n σ' H') ?_ m0 (dO 0 σ H2 I2 st2 (λb hb=>(f2 b hb).1) w0);rintro n s3 ⟨i,σ3,H3,I3,st3,fr3,w3⟩;rcases turn i n σ3 H3 w3 with⟨stop,qn⟩ | ⟨go,N,hN,step⟩
 ·refine wpAny_passesOwn hp (thn (T.done X rfl rfl rfl hc i pins s3 σ3 H3 X.xe I3 (stat fr3) st3 stop) λr s4 ⟨hr,I4⟩=>?_);subst hr;exact wpAny_execs_nil (cG σ3 H3 I4 qn)
 ·refine wpAny_passesOwn hp (thn (T.item X rfl rfl rfl hc i pins s3 σ3 H3 X.xe I3 (stat fr3) st3 go) λr s4 ⟨u,hr,h4⟩=>?_);subst hr;refine wpAny_passesOwn hp (thn h4 λ_ s5 ⟨x,H5,I5,r5,y5,st5,fr5⟩=>?_);have I5':=I5.pinned (stat fr5) (T.obj _ _ st5);refine wpAny_passesOwn hp (thn (hg _ s5 σ3 H5 x u _ I5' r5 (step x H5 y5)) λ_ s6 ⟨σ6,H6,I6,q6⟩=>?_);refine wpAny_passesOwn hp (thn (hb _ s6 σ6 H6 _ I6 q6) λf s7 q7=>?_);have again:∀{σ7:St}{H7:Hp},Inv X (pins++qK fp s5.heap) σ7 H7 s7->N σ7 H7->∃m,m<n/\∃i σ' H',Inv X pins σ' H' s7/\tn i s7.heap/\(∀b∈fp,H' b=none)/\W i m σ' H':=λ{σ7 H7} I7 n7=>by
   obtain⟨m',hm,w7⟩:=hN σ7 H7 n7;refine(nH m' hm (i+1) σ7 H7 I7.unpinned (T.keep _ _ _ st5 λb hb o e=>(I7.pin (b,o) (ZN _ (ZN _ (i9 hb e)))).1) (λb hb=>?_) w7);obtain⟨o,e,d⟩:=T.obj _ _ st5 b hb;exact(I7.pin (b,o) (ZN _ (ZN _ (i9 hb e)))).2.1
  cases f with
  |next=>obtain⟨σ7,H7,I7,n7⟩:=q7;exact again I7 n7
  |cont=>obtain⟨σ7,H7,I7,n7⟩:=q7;exact again I7 n7
  |brk=>obtain⟨σ7,H7,I7,q7⟩:=q7;exact(cG σ7 H7 I7.unpinned q7)
  |ret v=>obtain⟨x7,σ7,H7,I7,r7,q7⟩:=q7;exact(iY x7 σ7 H7 I7.unpinned r7 q7)
end
theorem cR{a:Addr}{xs:List V}{g:TG}{tb:TS}{D:Ends}{σ:St}{H:Hp}(Pv:Nat->St->Hp->Prop)(h0:Pv 0 σ H)(hl:∀i σ H,i<=xs.length->Pv i σ H->SqL H a xs)
  (hs:∀i x σ H,xs[i]?=some x->Pv i σ H->g x σ H λσ2 H2=>tb { D with nx:=Pv (i+1),ct:=Pv (i+1),bk:=D.nx } σ2 H2) (hd:∀σ H,Pv xs.length σ H->D.nx σ H) :
  ∃W:Nat->Nat->St->Hp->Prop,(∃m,W 0 m σ H)/\∀i m σ H,W i m σ H ->
   ((Itl a).stop i H/\D.nx σ H)\/((Itl a).go i H/\∃N:St->Hp->Prop,(∀σ' H',N σ' H'->∃m',m' < m/\W (i+1) m' σ' H')/\∀x H',(Itl a).yld i H x H'->g x σ H' λσ2 H2=>tb { D with nx:=N,ct:=N,bk:=D.nx } σ2 H2):=by
 refine(xWP (λi m σ H=>m=xs.length-i/\i<=xs.length/\Pv i σ H) (aQ xs.length (by simp) (YZ _) h0) ?_);rintro i m σ H ⟨rfl,hi,p⟩;have q:=hl i σ H hi p;by_cases hlt:i<xs.length
 ·refine .inr (gJ (cG xs (xs[i]) q (by simp[hlt])) (Pv (i+1)) (λσ' H' p'=>(dA (xs.length-(i+1)) (by omega) rfl hlt p')) (λx H' y=>?_));obtain⟨e,y⟩:=y;subst e;exact hs i x σ _ (y xs q) p
 ·have e:i=xs.length:=by lia
  subst e;exact .inl ⟨(xWP xs q (ZC _)),hd σ H p⟩
theorem cZ{lo:Int}{n:Nat}{g:TG}{tb:TS}{D:Ends}{σ:St}{H:Hp}(Pv:Nat->St->Hp->Prop)(h0:Pv 0 σ H)
  (hs:∀i σ H,i<n->Pv i σ H->g (.int (lo+i)) σ H λσ2 H2=>tb { D with nx:=Pv (i+1),ct:=Pv (i+1),bk:=D.nx } σ2 H2) (hd:∀σ H,Pv n σ H->D.nx σ H) :
  ∃W:Nat->Nat->St->Hp->Prop,(∃m,W 0 m σ H)/\∀i m σ H,W i m σ H ->
   ((Itr lo n).stop i H/\D.nx σ H)\/((Itr lo n).go i H/\∃N:St->Hp->Prop,(∀σ' H',N σ' H'->∃m',m' < m/\W (i+1) m' σ' H')/\∀x H',(Itr lo n).yld i H x H'->g x σ H' λσ2 H2=>tb { D with nx:=N,ct:=N,bk:=D.nx } σ2 H2):=by
 refine(xWP (λi m σ H=>m=n-i/\i<=n/\Pv i σ H) (aQ n (by simp) (YZ _) h0) ?_);rintro i m σ H ⟨rfl,hi,p⟩;by_cases hlt:i<n
 ·refine .inr (gJ hlt (Pv (i+1)) (λσ' H' p'=>(dA (n-(i+1)) (by omega) rfl hlt p')) (λx H' y=>?_));obtain⟨e,y⟩:=y;subst e y;exact hs i σ _ hlt p
 ·have e:i=n:=by lia
  subst e;exact .inl ⟨ZC _,hd σ H p⟩
abbrev R2:=V->V->Hp->VK->Prop
def OpR(X:Cx)(f:Value->Value->Sem Value)(r:R2):Prop :=
 ∀(pins:List (Addr×Obj)) (s:Shared) (σ:St) (H:Hp) (x y:V) (v u:Value) (Q:VK),Inv X pins σ H s->RelV x v->RelV y u->r x y H Q ->
  wpAny (model X.prog X.w) X.A (f v u) (EP X pins σ Q) X.xe s
def UnR(X:Cx)(f:Value->Sem Value)(r:V->Hp->VK->Prop):Prop :=
 ∀(pins:List (Addr×Obj)) (s:Shared) (σ:St) (H:Hp) (x:V) (v:Value) (Q:VK),Inv X pins σ H s->RelV x v->r x H Q ->
  wpAny (model X.prog X.w) X.A (f v) (EP X pins σ Q) X.xe s
def fE(X:Cx)(f:Value)(r:List V->Hp->VK->Prop):Prop :=
 ∀(pins:List (Addr×Obj)) (s:Shared) (σ:St) (H:Hp) (xs:List V) (us:List Value) (Q:VK),Inv X pins σ H s->a8 xs us->r xs H Q ->
  wpAny (model X.prog X.w) X.A (call f us) (EP X pins σ Q) X.xe s
def QM(X:Cx)(r:V->Hp->(Bool->Hp->Prop)->Prop):Prop :=
 ∀(pins:List (Addr×Obj)) (s:Shared) (σ:St) (H:Hp) (x:V) (v:Value) (Q:Bool->Hp->Prop),Inv X pins σ H s->RelV x v->r x H Q ->
  wpAny (model X.prog X.w) X.A (truthy v) (TP X pins σ Q) X.xe s
def tOp(r:R2)(ta tb:TE):TE:=λσ H Q=>ta σ H λx H1=>tb σ H1 λy H2=>r x y H2 Q
def tUn(r:V->Hp->VK->Prop)(ta:TE):TE:=λσ H Q=>ta σ H λx H1=>r x H1 Q
def rI(C:Int->Int->Prop)(g:Int->Int->V):R2:=λx y H Q=>x.gi λi=>y.gi λj=>C i j/\Q (g i j) H
def rI0(g:Int->Int->V):R2:=λx y H Q=>x.gi λi=>y.gi λj=>Q (g i j) H
def rU(g:Int->V):V->Hp->VK->Prop:=λx H Q=>x.gi λi=>Q (g i) H
section
variable{X:Cx}{a b c:Expr}{ta tb tc:TE}{pos:Pos}
theorem M9(ha:PE X a ta)(hb:PE X b tb){pins:List (Addr×Obj)}{s:Shared}{σ:St}{H:Hp}{R:V->V->Hp->Prop}(I:Inv X pins σ H s)
  (h:ta σ H λx H1=>tb σ H1 λy H2=>R x y H2) {Q:Value->Shared->Prop}{f:Value->Value->Sem Value}
  (hf:∀v u s2 x y H2,Inv X pins σ H2 s2->RelV x v->RelV y u->R x y H2->wpAny (model X.prog X.w) X.A (f v u) Q X.xe s2) :
  wpAny (model X.prog X.w) X.A (eval a X.env) (λv s₁=>wpAny (model X.prog X.w) X.A (eval b X.env) (λu s₂=>wpAny (model X.prog X.w) X.A (f v u) Q X.xe s₂) X.xe s₁) X.xe s:=by
 refine cW (ha pins s σ H _ I h) λv s1 x H1 I1 r1 q1=>?_;refine cW (hb pins s1 σ H1 _ I1 q1) λu s2 y H2 I2 r2 q2=>?_;exact hf v u s2 x y H2 I2 r1 r2 q2
theorem bI{op:Operator}{r:R2}(ho:OpR X (binaryOp op) r)(ha:PE X a ta)(hb:PE X b tb):PE X (.BinOp a op b pos) (tOp r ta tb):=by
 intro pins s σ H Q I h;exact wpAny_BinOp (M9 ha hb I h λv u s2 x y H2 I2 rx ry q=>ho pins s2 σ H2 x y v u Q I2 rx ry q)
theorem OG{op:UnaryOp}{r:V->Hp->VK->Prop}(ho:UnR X (unaryOp op) r)(ha:PE X a ta):PE X (.UnaryOp op a pos) (tUn r ta):=by
 intro pins s σ H Q I h;exact UnaryOp_ (cW (ha pins s σ H _ I h) λv s1 x H1 I1 r1 q1=>ho pins s1 σ H1 x v Q I1 r1 q1)
theorem opI{f:Value->Value->Sem Value}{C:Int->Int->Prop}{g:Int->Int->Int}
  (rule:∀(i j:Int) (t u:Tok) (s:Shared) (Q:Value->Shared->Prop) (E:Value->Shared->Prop),C i j->Q (.int (g i j) s.toks) { s with toks:=s.toks+1 }->wpAny (model X.prog X.w) X.A (f (.int i t) (.int j u)) Q E s) :
  OpR X f (rI C λi j=>.int (g i j)):=by
 intro pins s σ H x y v u Q I rx ry h;obtain⟨i,rfl,z1⟩:=cU h;obtain⟨j,rfl,z2⟩:=cU z1;obtain⟨hc,q⟩:=z2;obtain⟨t,rfl⟩:=rx;obtain⟨t',rfl⟩:=ry;exact rule i j t t' s _ _ hc (aH (.int (g i j)) H (I.tok _) ⟨_,rfl⟩ q)
theorem MH{f:Value->Value->Sem Value}{g:Int->Int->Int}
  (rule:∀(i j:Int) (t u:Tok) (s:Shared) (Q:Value->Shared->Prop) (E:Value->Shared->Prop),Q (.int (g i j) s.toks) { s with toks:=s.toks+1 }->wpAny (model X.prog X.w) X.A (f (.int i t) (.int j u)) Q E s) :
  OpR X f (rI0 λi j=>.int (g i j)):=by
 intro pins s σ H x y v u Q I rx ry h;obtain⟨i,rfl,z1⟩:=cU h;obtain⟨j,rfl,z2⟩:=cU z1;have q:=z2;obtain⟨t,rfl⟩:=rx;obtain⟨t',rfl⟩:=ry;exact rule i j t t' s _ _ (aH (.int (g i j)) H (I.tok _) ⟨_,rfl⟩ q)
theorem IL{f:Value->Value->Sem Value}{g:Int->Int->Bool}
  (rule:∀(i j:Int) (t u:Tok) (s:Shared) (Q:Value->Shared->Prop) (E:Value->Shared->Prop),Q (.bool (g i j)) s->wpAny (model X.prog X.w) X.A (f (.int i t) (.int j u)) Q E s) :
  OpR X f (rI0 λi j=>.bl (g i j)):=by
 intro pins s σ H x y v u Q I rx ry h;obtain⟨i,rfl,z1⟩:=cU h;obtain⟨j,rfl,z2⟩:=cU z1;have q:=z2;obtain⟨t,rfl⟩:=rx;obtain⟨t',rfl⟩:=ry;exact rule i j t t' s _ _ (aH (.bl (g i j)) H I rfl q)
def QO(i j:Int):Prop:=0<j/\j<1073741824
def NF(i j:Int):Prop:=0<=j/\j<=1000000/\i.natAbs<2 ^ 64
def NG(i j:Int):Prop:=(-(2 ^ 64)<i/\i<2 ^ 64)\/(-(2 ^ 64)<j/\j<2 ^ 64)
theorem NG.ok{i j:Int}(h:NG i j):IntMulOk i j:=by
 rcases h with⟨h1,h2⟩ | ⟨h1,h2⟩
 ·exact .of_left (intBits_le_64 h1 h2)
 ·exact .of_right (intBits_le_64 h1 h2)
theorem aX:OpR X (binaryOp .Add) (rI0 λi j=>.int (i+j)):=MH λ_ _ _ _ _ _ _ q=>add_int q
theorem t8:OpR X (binaryOp .Sub) (rI0 λi j=>.int (i-j)):=MH λ_ _ _ _ _ _ _ q=>sub_int q
theorem lT:OpR X (binaryOp .Mult) (rI NG λi j=>.int (i*j)):=opI λ_ _ _ _ _ _ _ hc q=>mul_int q hc.ok
theorem bE:OpR X (binaryOp .FloorDiv) (rI QO λi j=>.int (i / j)):=opI λi j _ _ _ _ _ hc q=>by
 have h1:(0:Int)<j:=hc.1;have h2:j<1073741824:=hc.2;exact floordiv_int (by lia) (by rw[Int.fdiv_eq_ediv_of_nonneg i (by lia)];exact q) (.inl (PyProof.noPylong_small (by omega)))
theorem gL:OpR X (binaryOp .Mod) (rI (λ_ j=>0<j) λi j=>.int (i%j)):=opI λi j _ _ _ _ _ hc q=>by
 have h1:(0:Int)<j:=hc;exact mod_int' (by lia) (by rw[Int.fmod_eq_emod_of_nonneg i (by lia)];exact q)
theorem yM:OpR X (binaryOp .Pow) (rI NF λi j=>.int (i ^ j.toNat)):=opI λ_ _ _ _ _ _ _ hc q=>pow_int_small hc.1 hc.2.1 hc.2.2 q
theorem MF:OpR X (binaryOp .BitXor) (rI0 λi j=>.int (Builtin.bitXor i j)):=MH λ_ _ _ _ _ _ _ q=>xor_int q
theorem unI{f:Value->Sem Value}{g:Int->Int}
  (rule:∀(i:Int) (t:Tok) (s:Shared) (Q:Value->Shared->Prop) (E:Value->Shared->Prop),Q (.int (g i) s.toks) { s with toks:=s.toks+1 }->wpAny (model X.prog X.w) X.A (f (.int i t)) Q E s) :
  UnR X f (rU λi=>.int (g i)):=by
 intro pins s σ H x v Q I rx h;obtain⟨i,rfl,q⟩:=cU h;obtain⟨t,rfl⟩:=rx;exact rule i t s _ _ (aH (.int (g i)) H (I.tok _) ⟨_,rfl⟩ q)
theorem K3:UnR X (unaryOp .USub) (rU λi=>.int (-i)):=unI λ_ _ _ _ _ q=>neg_int q
end
def N7:V->V->Bool
 |.non,.non=>true | .non,.int _=>true | .int _,.non=>true | .non,.bl _=>true | .bl _,.non=>true | .non,.str _=>true | .str _,.non=>true
 |.int _,.int _=>true | .bl _,.bl _=>true | .str _,.str _=>true | .byt _,.byt _=>true
 |.int _,.str _=>true | .str _,.int _=>true | .bl _,.str _=>true | .str _,.bl _=>true
 |_,_=>false
def rEq:R2:=λx y H Q=>Sc (N7 x y) <| Q (.bl (decide (x=y))) H
def rNe:R2:=λx y H Q=>Sc (N7 x y) <| Q (.bl (!decide (x=y))) H
theorem A4{i j:Int}:decide (V.int i=V.int j)=(i==j):=by
 rw[Xh];simp
theorem GD{i j:Bool}:decide (V.bl i=V.bl j)=(i==j):=by
 rw[Xh];simp
theorem A3{i j:Str}:decide (V.str i=V.str j)=(i==j):=by
 rw[Xh];simp
theorem A5{i j:Array UInt8}:decide (V.byt i=V.byt j)=(i.toList==j.toList):=by
 rw[Xh];cases i;cases j;simp
section
variable{X:Cx}{a b c:Expr}{ta tb tc:TE}{pos:Pos}
theorem bP{pins:List (Addr×Obj)}{σ:St}{H:Hp}{s:Shared}{Q:VK}{k k':Bool}(I:Inv X pins σ H s)(q:Q (.bl k) H)(e:k=k'):EP X pins σ Q (.bool k') s:=by
 subst e;exact(aH (.bl k) H I rfl q)
theorem bY:OpR X (compareOp .Eq) rEq:=by
 intro pins s σ H x y v u Q I rx ry h;obtain⟨hs,q⟩:=KU h;cases x with
 |non =>
  cases rx;cases y with
  |non=>cases ry;exact PySem.EqNone.eq_none_none (bP I q (by simp))
  |bl j=>cases ry;exact PySem.EqNone.eq_none_bool (bP I q (by simp))
  |int j=>obtain⟨t',rfl⟩:=ry;exact PySem.EqNone.eq_none_int (bP I q (by simp))
  |str j=>obtain⟨t',rfl⟩:=ry;exact PySem.EqNone.eq_none_str (bP I q (by simp))
  |_=>exact Yg (show false=true from hs) YT
 |bl i =>
  cases rx;cases y with
  |non=>cases ry;exact PySem.EqNone.eq_bool_none (bP I q (by simp))
  |bl j=>cases ry;exact eq_bool (bP I q GD)
  |str j=>obtain⟨t',rfl⟩:=ry;exact PySem.EqMixed.eq_bool_str (bP I q (by simp))
  |_=>exact Yg (show false=true from hs) YT
 |int i =>
  obtain⟨t,rfl⟩:=rx;cases y with
  |non=>cases ry;exact PySem.EqNone.eq_int_none (bP I q (by simp))
  |int j=>obtain⟨t',rfl⟩:=ry;exact eq_int (bP I q A4)
  |str j=>obtain⟨t',rfl⟩:=ry;exact PySem.EqMixed.eq_int_str (bP I q (by simp))
  |_=>exact Yg (show false=true from hs) YT
 |str i =>
  obtain⟨t,rfl⟩:=rx;cases y with
  |non=>cases ry;exact PySem.EqNone.eq_str_none (bP I q (by simp))
  |bl j=>cases ry;exact PySem.EqMixed.eq_str_bool (bP I q (by simp))
  |int j=>obtain⟨t',rfl⟩:=ry;exact PySem.EqMixed.eq_str_int (bP I q (by simp))
  |str j=>obtain⟨t',rfl⟩:=ry;exact eq_str (bP I q A3)
  |_=>exact Yg (show false=true from hs) YT
 |byt i =>
  obtain⟨t,rfl⟩:=rx;cases y with
  |byt j=>obtain⟨t',rfl⟩:=ry;exact PySem.W.eq_bytes (bP I q A5)
  |_=>exact Yg (show false=true from hs) YT
 |_=>cases y<;>exact Yg (show false=true from hs) YT
theorem e9:OpR X (compareOp .NotEq) rNe:=by
 intro pins s σ H x y v u Q I rx ry h;obtain⟨hs,q⟩:=KU h;cases x with
 |non =>
  cases rx;cases y with
  |non=>cases ry;exact PySem.EqNone.ne_none_none (bP I q (by simp))
  |bl j=>cases ry;exact PySem.EqNone.ne_none_bool (bP I q (by simp))
  |int j=>obtain⟨t',rfl⟩:=ry;exact PySem.EqNone.ne_none_int (bP I q (by simp))
  |str j=>obtain⟨t',rfl⟩:=ry;exact PySem.EqNone.ne_none_str (bP I q (by simp))
  |_=>exact Yg (show false=true from hs) YT
 |bl i =>
  cases rx;cases y with
  |non=>cases ry;exact PySem.EqNone.ne_bool_none (bP I q (by simp))
  |bl j=>cases ry;exact ne_bool (bP I q (congrArg not GD))
  |str j=>obtain⟨t',rfl⟩:=ry;exact PySem.EqMixed.ne_bool_str (bP I q (by simp))
  |_=>exact Yg (show false=true from hs) YT
 |int i =>
  obtain⟨t,rfl⟩:=rx;cases y with
  |non=>cases ry;exact PySem.EqNone.ne_int_none (bP I q (by simp))
  |int j=>obtain⟨t',rfl⟩:=ry;exact ne_int (bP I q (congrArg not A4))
  |str j=>obtain⟨t',rfl⟩:=ry;exact PySem.EqMixed.ne_int_str (bP I q (by simp))
  |_=>exact Yg (show false=true from hs) YT
 |str i =>
  obtain⟨t,rfl⟩:=rx;cases y with
  |non=>cases ry;exact PySem.EqNone.ne_str_none (bP I q (by simp))
  |bl j=>cases ry;exact PySem.EqMixed.ne_str_bool (bP I q (by simp))
  |int j=>obtain⟨t',rfl⟩:=ry;exact PySem.EqMixed.ne_str_int (bP I q (by simp))
  |str j=>obtain⟨t',rfl⟩:=ry;exact ne_str (bP I q (congrArg not A3))
  |_=>exact Yg (show false=true from hs) YT
 |byt i =>
  obtain⟨t,rfl⟩:=rx;cases y with
  |byt j=>obtain⟨t',rfl⟩:=ry;exact PySem.W.ne_bytes (bP I q (congrArg not A5))
  |_=>exact Yg (show false=true from hs) YT
 |_=>cases y<;>exact Yg (show false=true from hs) YT
theorem jI:OpR X (compareOp .Lt) (rI0 λi j=>.bl (decide (i<j))):=IL λ_ _ _ _ _ _ _ q=>lt_int q
theorem k9:OpR X (compareOp .LtE) (rI0 λi j=>.bl (decide (i<=j))):=IL λ_ _ _ _ _ _ _ q=>le_int q
theorem E1:OpR X (compareOp .Gt) (rI0 λi j=>.bl (decide (j<i))):=IL λ_ _ _ _ _ _ _ q=>gt_int q
theorem AI:OpR X (compareOp .GtE) (rI0 λi j=>.bl (decide (j<=i))):=IL λ_ _ _ _ _ _ _ q=>ge_int q
theorem eX:OpR X (compareOp .Is) (λx y H Q=>y=.non/\Q (.bl (decide (x=.non))) H):=by
 intro pins s σ H x y v u Q I rx ry h;obtain⟨rfl,q⟩:=h;cases ry;refine is_none_gen (bP I q ?_);cases x<;>first
  |(cases rx;rfl)
  |(obtain⟨t,rfl⟩:=rx;rfl)
theorem fX:OpR X (compareOp .IsNot) (λx y H Q=>y=.non/\Q (.bl (!decide (x=.non))) H):=by
 intro pins s σ H x y v u Q I rx ry h;obtain⟨rfl,q⟩:=h;cases ry;refine isnot_none_gen (bP I q ?_);cases x<;>first
  |(cases rx;rfl)
  |(obtain⟨t,rfl⟩:=rx;rfl)
theorem dH(b:Expr){op:CmpOp}(h:op≠.In:=by decide)(h2:op≠.NotIn:=by decide):behindInMarks op b=false:=by
 have e1:(op==CmpOp.In)=false:=by cases op<;>first | rfl | exact Yg rfl h
 have e2:(op==CmpOp.NotIn)=false:=by cases op<;>first | rfl | exact Yg rfl h2
 cases b<;>simp[behindInMarks,e1,e2]
theorem mM{op:CmpOp}{r:R2}(ho:OpR X (compareOp op) r)(ha:PE X a ta)(hb:PE X b tb)(hm:behindInMarks op b=false):PE X (.Compare a [op] [b] pos) (tOp r ta tb):=by
 intro pins s σ H Q I h;exact wpAny_Compare1 (M9 ha hb I h λv u s2 x y H2 I2 rx ry q=>ho pins s2 σ H2 x y v u Q I2 rx ry q) hm
def vC(t:TE):TT:=λσ H Q=>t σ H λx H'=>x.gb λk=>Q k H'
theorem bL{op:CmpOp}{r:R2}(ho:OpR X (compareOp op) r)(ha:PE X a ta)(hb:PE X b tb)(hm:behindInMarks op b=false):PT X (.Compare a [op] [b] pos) (vC (tOp r ta tb)):=by
 intro pins s σ H Q I h;refine wpAny_isTrue_Compare1 (cW (ha pins s σ H _ I h) λv s1 x H1 I1 r1 q1=>cW (hb pins s1 σ H1 _ I1 q1) λu s2 y H2 I2 r2 q2 =>
  cW (ho pins s2 σ H2 x y v u _ I2 r1 r2 q2) λc s3 z H3 I3 r3 zz=>?_) hm
 obtain⟨k,e,q3⟩:=iI zz;subst e;cases r3;exact wpAny_truthy_bool (xWP H3 I3 q3)
def pZ(r r':R2)(ta tb tc:TE):TE:=λσ H Q=>ta σ H λx H1=>tb σ H1 λy H2=>r x y H2 λz H3=>z.gb λk =>
 If k (tc σ H3 λw' H4=>r' y w' H4 Q) (Q (.bl false) H3)
theorem vO{op op':CmpOp}{r r':R2}(ho:OpR X (compareOp op) r)(ho':OpR X (compareOp op') r')(ha:PE X a ta)(hb:PE X b tb)(hc:PE X c tc)
  (hm:lastMarks [op,op'] [b,c]=false:=by with_unfolding_all rfl):PE X (.Compare a [op,op'] [b,c] pos) (pZ r r' ta tb tc):=by
 intro pins s σ H Q I h;refine Compare_chain (cW (ha pins s σ H _ I h) λv s1 x H1 I1 r1 q1=>chain_link (cW (hb pins s1 σ H1 _ I1 q1) λu s2 y H2 I2 r2 q2 =>
  cW (ho pins s2 σ H2 x y v u _ I2 r1 r2 q2) λd s3 z H3 I3 r3 zz=>?_)) hm
 obtain⟨k,e,q3⟩:=iI zz;subst e;cases r3;refine wpAny_truthy_bool ?_;cases k with
 |false=>exact ite_ff (aH (.bl false) H3 I3 rfl (q3.f rfl))
 |true=>exact ite_tt (chain_last (thn (hc pins s3 σ H3 _ I3 (q3.t rfl)) λw' s4 ⟨z',H4,I4,r4,q4⟩=>ho' pins s4 σ H4 y z' u w' Q I4 r2 r4 q4))
theorem jM{op op':CmpOp}{r r':R2}(ho:OpR X (compareOp op) r)(ho':OpR X (compareOp op') r')(ha:PE X a ta)(hb:PE X b tb)(hc:PE X c tc)
  (hm:lastMarks [op,op'] [b,c]=false:=by with_unfolding_all rfl):PT X (.Compare a [op,op'] [b,c] pos) (vC (pZ r r' ta tb tc)):=by
 intro pins s σ H Q I h;refine isTrue_chain (cW (ha pins s σ H _ I h) λv s1 x H1 I1 r1 q1=>test_link (cW (hb pins s1 σ H1 _ I1 q1) λu s2 y H2 I2 r2 q2 =>
  cW (ho pins s2 σ H2 x y v u _ I2 r1 r2 q2) λd s3 z H3 I3 r3 zz=>?_)) hm
 obtain⟨k,e,q3⟩:=iI zz;subst e;cases r3;refine wpAny_truthy_bool ?_;cases k with
 |false =>
  obtain⟨k',e',z1⟩:=iI (q3.f rfl);have q':=z1;cases e';exact ite_ff (xWP H3 I3 q')
 |true =>
  refine ite_tt (test_last (thn (hc pins s3 σ H3 _ I3 (q3.t rfl)) λw' s4 ⟨z',H4,I4,r4,q4⟩=>thn (ho' pins s4 σ H4 y z' u w' _ I4 r2 r4 q4) λd' s5 ⟨z2,H5,I5,r5,zy⟩=>?_));obtain⟨k2,e2,q5⟩:=iI zy;subst e2;cases r5;exact wpAny_truthy_bool (xWP H5 I5 q5)
def O2(x:V)(H:Hp)(k:Bool):Prop :=
 match x with
 |.non=>k=false
 |.bl b=>k=b
 |.int i=>k=(i != 0)
 |.str y=>y.length<=ZW/\k=((y.length:Int) != 0)
 |.byt y=>y.size<=ZW/\k=((y.size:Int) != 0)
 |.ref p=>(∃xs,SqL H p xs/\k=!xs.isEmpty)\/(∃xs,SqT H p xs/\k=!xs.isEmpty)\/∃kvs,H p=some (.dK kvs)/\k=!kvs.isEmpty
 |_=>False
theorem zA{κ:Type}{kvs:List (κ×V)}{vs:List (κ×Value)}(r:KV kvs vs):(!vs.isEmpty)=!kvs.isEmpty:=by
 cases r<;>rfl
theorem rG{xs:List V}{its:List Value}(r:a8 xs its):(!its.toArray.isEmpty)=!xs.isEmpty:=by
 cases r<;>simp
theorem jA:(ZW:Nat)<2 ^ 63:=by rw[sizeLine_eq];decide
theorem K5:QM X (λx H Q=>∃k,O2 x H k/\Q k H):=by
 intro pins s σ H x v Q I rx h;obtain⟨k,e,q⟩:=h;have hl:=jA;have hs:ZW=16777216:=sizeLine_eq;cases x with
 |non =>
  cases rx;have e':k=false:=e;subst e';exact truthy_none (xWP H I q)
 |bl b =>
  cases rx;have e':k=b:=e;subst e';exact wpAny_truthy_bool (xWP H I q)
 |int i =>
  obtain⟨t,rfl⟩:=rx;have e':k=(i != 0):=e;subst e';exact PySem.P.truthy_int (xWP H I q)
 |str y =>
  obtain⟨t,rfl⟩:=rx;obtain⟨hy,e'⟩:y.length<=ZW/\k=((y.length:Int) != 0):=e;subst e';exact PySem.P.truthy_str (by lia) (xWP H (I.tok _) q)
 |byt y =>
  obtain⟨t,rfl⟩:=rx;obtain⟨hy,e'⟩:y.size<=ZW/\k=((y.size:Int) != 0):=e;subst e';exact PySem.W.truthy_bytes (by lia) (xWP H (I.tok _) q)
 |ref p =>
  cases rx;have e':(∃xs,SqL H p xs/\k=!xs.isEmpty)\/(∃xs,SqT H p xs/\k=!xs.isEmpty)\/∃kvs,H p=some (.dK kvs)/\k=!kvs.isEmpty:=e;rcases e' with⟨xs,hx,e'⟩ | ⟨xs,hx,e'⟩ | ⟨kvs,hx,e'⟩
  ·subst e';obtain⟨its,r,pl,hz⟩:=I.list hx;have hlen:=r.length;exact wpAny_truthy_list pl.isList (by simp only[ZE];lia) (xWP H (I.tok _) (by rw[rG r];exact q))
  ·subst e';obtain⟨its,r,pl,hz⟩:=I.tuple hx;have hlen:=r.length;exact truthy_tuple pl (by simp only[ZE];lia) (xWP H (I.tok _) (by rw[rG r];exact q))
  ·subst e';obtain⟨hz,hS,vs,r,m⟩:kvs.length<=ZW/\(p==sysModules)=false/\∃vs,KV kvs vs/\s.heap.DictOf (cN X.prog X.w) p vs:=I.hok p _ hx;have hlen:kvs.length=vs.length:=Paired.length r;exact wpAny_truthy_dict hS m (by lia) (xWP H (I.tok _) (by rw[zA r];exact q))
 |_=>exact(show False from e).elim
theorem bH(ha:PE X a ta)(he:∀whole,isTrue a X.env whole=(do let v <-whole;standAt a.pos;holding [v] (truthy v))) :
  PT X a (λσ H Q=>ta σ H λx H'=>∃k,O2 x H' k/\Q k H'):=by
 intro pins s σ H Q I h;exact isTrue_plain (cW (ha pins s σ H _ I h) λv s1 x H1 I1 r1 q1=>K5 pins s1 σ H1 x v Q I1 r1 q1) (he _)
theorem vals1{x:V}{us:List Value}(r:a8 [x] us):∃u,us=[u]/\RelV x u:=by
 cases r with
 |cons r1 r2=>cases r2;exact(xWP _ rfl r1)
theorem vals2{x y:V}{us:List Value}(r:a8 [x,y] us):∃u w',us=[u,w']/\RelV x u/\RelV y w':=by
 cases r with
 |cons r1 r2 =>
  cases r2 with
  |cons r3 r4=>cases r4;exact(aH _ _ rfl r1 r3)
theorem tK(hc:X.calm=true):fE X (.builtin "max") (λxs H Q=>∃i j,xs=[.int i,.int j]/\Q (.int (if j>i then j else i)) H):=by
 intro pins s σ H xs us Q I r h;obtain⟨i,j,rfl,q⟩:=h;obtain⟨u,w',rfl,⟨t,rfl⟩,⟨t',rfl⟩⟩:=vals2 r;refine max_two_ints (I.ok.hd hc) λh' tk k=>(aH _ H (I.kept k) ?_ q)
 by_cases hj:j>i
 ·rw[Yb hj,Yb hj];exact⟨_,rfl⟩
 ·rw[Ya hj,Ya hj];exact⟨_,rfl⟩
theorem nX(hc:X.calm=true):fE X (.builtin "min") (λxs H Q=>∃i j,xs=[.int i,.int j]/\Q (.int (if j<i then j else i)) H):=by
 intro pins s σ H xs us Q I r h;obtain⟨i,j,rfl,q⟩:=h;obtain⟨u,w',rfl,⟨t,rfl⟩,⟨t',rfl⟩⟩:=vals2 r;refine min_two_ints (I.ok.hd hc) λh' tk k=>(aH _ H (I.kept k) ?_ q)
 by_cases hj:j<i
 ·rw[Yb hj,Yb hj];exact⟨_,rfl⟩
 ·rw[Ya hj,Ya hj];exact⟨_,rfl⟩
theorem kU:fE X (.type "int") (λxs H Q=>(∃i,xs=[.int i]/\Q (.int i) H)\/∃k,xs=[.bl k]/\Q (.int (if k then 1 else 0)) H):=by
 intro pins s σ H xs us Q I r h;rcases h with⟨i,rfl,q⟩ | ⟨k,rfl,q⟩
 ·obtain⟨u,rfl,t,rfl⟩:=vals1 r;exact call_int_int (aH (.int i) H I ⟨_,rfl⟩ q)
 ·obtain⟨u,rfl,r1⟩:=vals1 r;cases r1;exact call_int_bool (aH (.int (if k then 1 else 0)) H (I.tok _) ⟨_,rfl⟩ q)
end
structure C2(h:Heap)(x dx C:Addr)(mA:Str->Option Value):Prop where
 obj:h.get? x=some (PySem.W.instObj C dx)
 ns:h.Ns1 dx mA
 ne:dx≠x
theorem CI{h:Heap}{dx:Addr}{mA:Str->Option Value}(n:h.Ns1 dx mA):∃od,h.get? dx=some od/\∀name,PySem.W.lookIn name od=some (mA name):=by
 obtain⟨o,es,ep,ho,hd,hk,_,hm⟩:=n;refine(xWP o ho (λname=>?_));have e:=hm name;unfold nsFind findBy at e;rw[<-Array.find?_toList]at e;unfold PySem.W.lookIn;rw[hd];dsimp only;split
 ·rename_i y q
  rw[q]at e;exact congrArg some e
 ·rename_i q
  rw[q]at e;have a:es.toList.any (·.refKey)=false:=by
   rw[List.any_eq_false];intro y hy;obtain⟨z,t,hkey⟩:=hk y (Array.mem_toList_iff.mp hy);simp[DictEntry.refKey,hkey]
  have a':¬es.toList.any (·.refKey)=true:=by rw[a];exact YT
  rw[Ya a'];exact congrArg some e
theorem C2.look{h:Heap}{x dx C:Addr}{mA:Str->Option Value}(I:C2 h x dx C mA):∃od,PySem.W.InstAt h x (PySem.W.instObj C dx) C (some od)/\∀name,PySem.W.lookIn name od=some (mA name) :=
 let⟨od,ho,hl⟩:=CI I.ns
 (xWP od ⟨I.obj,rfl,rfl,ho⟩ hl)
section
variable{prog:Program}{w:World}{A:Around}{E:Value->Shared->Prop}{s:Shared}{K:PySem.W.Frag}{x dx C f:Addr}{mA:Str->Option Value}{name:Str}{v:Value}
theorem get_map{expr:Bool}{Q:Value->Shared->Prop}(X:K.In s.heap)(I:C2 s.heap x dx C mA)(hg:PySem.W.plainGet K C name=true)(hh:PySem.W.hasDictIn K C=true)
  (ha:PySem.W.findIn K (.ref C) name=some none) (hv:mA name=some v) (hv':PySem.W.handedIn v=true) (h:Q v { s with toks:=s.toks+1 }) :
  wpAny (model prog w) A (getAttr (.ref x) name expr) Q E s:=by
 obtain⟨od,J,hl⟩:=I.look;exact PySem.W.get_value X J (PySem.W.plainGet_of hg).1 (PySem.W.findObj_own hh ha rfl (by rw[hl,hv])) hv' h
theorem HR{ns:List Str}{Q:Unit->Shared->Prop}(X:K.In s.heap)(I:C2 s.heap x dx C mA)
  (hs:PySem.W.findIn K (.ref C) "__setattr__" = some (some (.builtin "object.__setattr__"))) (hp:PySem.W.plainOver K C=true) (ht:PySem.W.takerIn K C name=some none) (hh:PySem.W.hasDictIn K C=true)
  (hw:PySem.Within mA ns) (hsz:ns.length<=ZW)
  (h:∀h',C2 h' x dx C (λy=>if y=name then some v else mA y)->Heap.SameBut dx s.heap h'->Q () { s with heap:=h',toks:=s.toks+2 }) :
  wpAny (model prog w) A (setAttr (.ref x) name v) Q E s:=by
 obtain⟨od,J,hl⟩:=I.look;refine PySem.W.set_plain X J hs (PySem.W.osa_open (s:={ s with toks:=s.toks+1 }) (r:=none) X J hp ht λb=>?_);obtain⟨cd,hc,hd'⟩:=PySem.W.any_some hh;have hx:s.heap.get? x=some ⟨.ref C,some dx,.plain,#[]⟩:=I.obj;refine ZZ (ZY (ZZ (ZZ (wpAny_loadPart hx (ZZ (PySem.W.Looks.here (s:={ s with toks:=s.toks+1 }) (PySem.W.looks_clsIn X hc) ?_))))));rw[hd'];refine ZY (a:=some dx) (ZZ (ZY (ZZ ?_)));refine wpAny_nsSet1 (s:={ s with toks:=s.toks+1 }) I.ns λh' hn2 hs2=>?_;obtain⟨oD,esD,epD,hoD,hdD,hcD⟩:=hn2.count (PySem.Within.cons name v hw);refine ZZ (wpAny_lookBehind hoD (by rw[hdD];exact pastItsLine_dict (YQ hcD (by rw[Yq];lia))) ?_);exact ZY (h _ ⟨(hs2.2 _ (Yh I.ne)).trans I.obj,hn2,I.ne⟩ hs2)
theorem FQ{R:Result->Shared->Prop}{vs:List Value}{kw:List (Str×Value)}(X:K.In s.heap)(hm:PySem.W.makesIn K C=true)
  (hi:PySem.W.findIn K (.ref C) "__init__" = some (some (.ref f))) (hf:PySem.W.typeIn K (.ref f)=some (.type "function"))
  (h:codeAny (model prog w) (A.under (.builtin "type.__call__" ⟨.ref C::vs,kw⟩)) (.call (.ref f) ⟨.ref (s.heap.objs.size+1)::vs,kw⟩) (PySem.W.InitBack (s.heap.objs.size+1) R)
   { s with heap:=(s.heap.push PySem.W.emptyDict).push (PySem.W.instObj C s.heap.objs.size) }) :
  codeAny (model prog w) A (.call (.ref C) ⟨vs,kw⟩) R s:=by
 obtain⟨hh,g,d,t,os⟩:=s;exact PySem.W.make_core (PySem.W.makes_of X hm) (PySem.W.looks_findIn X hi) (λself=>PySem.W.bind_fn X self hf) (.inl rfl) h
end
def bC(f:Str)(v:V):List (Str×V)->List (Str×V)
 |[]=>[(f,v)]
 |(g,x)::r=>if g=f then (g,v)::r else (g,x)::bC f v r
theorem a9(f g:Str)(v:V):∀fs:List (Str×V),(bC f v fs).lookup g=if g=f then some v else fs.lookup g
 |[]=>by
  show List.lookup g [(f,v)]=_;by_cases h:g=f
  ·have hb:(g==f)=true:=beq_iff_eq.mpr h;simp only[List.lookup,hb,Yb h]
  ·have hb:(g==f)=false:=beq_eq_false_iff_ne.mpr h;simp only[List.lookup,hb,Ya h]
 |(k,x)::r=>by
  have ih:=a9 f g v r;rw[show bC f v ((k,x)::r)=(if k=f then (k,v)::r else (k,x)::bC f v r) from rfl];by_cases hk:k=f
  ·rw[Yb hk];by_cases h:g=k
   ·have hb:(g==k)=true:=beq_iff_eq.mpr h;simp only[List.lookup,hb,Yb (h.trans hk)]
   ·have hb:(g==k)=false:=beq_eq_false_iff_ne.mpr h;simp only[List.lookup,hb,Ya (λe:g=f=>h (e.trans hk.symm))]
  ·rw[Ya hk];by_cases h:g=k
   ·have hb:(g==k)=true:=beq_iff_eq.mpr h;simp only[List.lookup,hb,Ya (λe:g=f=>hk (h.symm.trans e))]
   ·have hb:(g==k)=false:=beq_eq_false_iff_ne.mpr h;simp only[List.lookup,hb];exact ih
theorem nU(f:Str)(v:V):∀fs:List (Str×V),f∈(bC f v fs).map (·.1)/\∀g,g∈fs.map (·.1)->g∈(bC f v fs).map (·.1)
 |[]=>⟨by simp[bC],λg h=>by simp at h⟩
 |(k,x)::r=>by
  obtain⟨i1,i2⟩:=nU f v r;rw[show bC f v ((k,x)::r)=(if k=f then (k,v)::r else (k,x)::bC f v r) from rfl];by_cases hk:k=f
  ·rw[Yb hk];subst hk;exact⟨by simp,λg h=>by simpa using h⟩
  ·rw[Ya hk];refine⟨?_,λg h=>?_⟩
   ·rw[ZI];exact Zw _ i1
   ·rw[ZI]at h ⊢;rcases Zn.mp h with e | e
    ·exact Zn.mpr (.inl e)
    ·exact Zw _ (i2 g e)
theorem oM(f:Str)(v:V):∀fs:List (Str×V),(bC f v fs).length<=fs.length+1
 |[]=>by simp[bC]
 |(k,x)::r=>by
  have ih:=oM f v r;rw[show bC f v ((k,x)::r)=(if k=f then (k,v)::r else (k,x)::bC f v r) from rfl];by_cases hk:k=f
  ·rw[Yb hk,Yq,Yq];lia
  ·rw[Ya hk,Yq,Yq];lia
theorem jD{v:V}{o:Option Value}(r:uX (some v) o):∃u,o=some u/\RelV v u:=by
 cases o with
 |none=>exact(show False from r).elim
 |some u=>exact(xWP u rfl r)
theorem CQ{v:V}{u:Value}(r:RelV v u):PySem.W.handedIn u=true:=by
 cases v with
 |non=>cases (show u=Value.none from r);rfl
 |bl b=>cases (show u=Value.bool b from r);rfl
 |int i=>obtain⟨t,e⟩:=(show ∃t,u=Value.int i t from r);cases e;rfl
 |str x=>obtain⟨t,e⟩:=(show ∃t,u=Value.str x t from r);cases e;rfl
 |byt b=>obtain⟨t,e⟩:=(show ∃t,u=Value.bytes b t from r);cases e;rfl
 |flt b=>obtain⟨t,e⟩:=(show ∃t,u=Value.float b t from r);cases e;rfl
 |ref a=>cases (show u=Value.ref a from r);rfl
 |ty n=>cases (show u=Value.type n from r);rfl
section
variable{P:Program}{w:World}{H H':Hp}{h h':Heap}{a C dx:Addr}{fs fs':List (Str×V)}
theorem mV(hok:HOk P w H h)(e:H a=some (.ins C dx fs)):∃mA,C2 h a dx C mA/\(∀f,uX (fs.lookup f) (mA f))/\PySem.Within mA (fs.map (·.1))/\fs.length<=1000/\H dx=some (.own a):=by
 obtain⟨d,z,ne,ob,mA,n,r,q⟩:=(show cC P w H h a (.ins C dx fs) from hok a _ e)
 exact(iJ mA ⟨ob,n,ne⟩ r q z d)
end
structure Cls(K:PySem.W.Frag)(C:Addr):Prop where
 pg:PySem.W.plainGet K C Str.empty=true
 hd:PySem.W.hasDictIn K C=true
 po:PySem.W.plainOver K C=true
 sa:PySem.W.findIn K (.ref C) "__setattr__" = some (some (.builtin "object.__setattr__"))
theorem Cls.get{K:PySem.W.Frag}{C:Addr}(c:Cls K C)(f:Str):PySem.W.plainGet K C f=true:=c.pg
def h9(K:PySem.W.Frag)(C:Addr)(f:Str):Prop:=PySem.W.findIn K (.ref C) f=some none
theorem h9.taker{K:PySem.W.Frag}{C:Addr}{f:Str}(n:h9 K C f):PySem.W.takerIn K C f=some none:=by
 unfold PySem.W.takerIn;rw[show PySem.W.findIn K (.ref C) f=some none from n];rfl
section
variable{X:Cx}{pins:List (Addr×Obj)}{σ:St}{H:Hp}{s:Shared}{a C dx:Addr}{fs:List (Str×V)}{f:Str}{v:V}{A:Around}{E:Value->Shared->Prop}
theorem zC{b:Bool}{Q:Value->Shared->Prop}(I:Inv X pins σ H s)(e:H a=some (.ins C dx fs))(c:Cls X.K C)(n:h9 X.K C f)(l:fs.lookup f=some v)
  (h:∀u s',Inv X pins σ H s'->RelV v u->Q u s'):wpAny (model X.prog X.w) A (getAttr (.ref a) f b) Q E s:=by
 obtain⟨mA,O,r,_,_,_⟩:=mV I.hok e;obtain⟨u,hu,ru⟩:=jD (v:=v) (o:=mA f) (by rw[<-l];exact r f);exact get_map I.kIn O (c.get f) c.hd n hu (CQ ru) (h u _ (I.tok _) ru)
theorem yC{y:V}{u:Value}{Q:Unit->Shared->Prop}(I:Inv X pins σ H s)(e:H a=some (.ins C dx fs))(c:Cls X.K C)(n:h9 X.K C f)(hl:fs.length<1000)(ry:RelV y u)
  (h:∀s',Inv X pins σ (upd H a (.ins C dx (bC f y fs))) s'->Q () s'):wpAny (model X.prog X.w) A (setAttr (.ref a) f u) Q E s:=by
 obtain⟨mA,O,r,wi,_,ho⟩:=mV I.hok e;have hz:(fs.map (·.1)).length<=ZW:=by rw[Zq,sizeLine_eq];lia
 refine HR I.kIn O c.sa c.po n.taker c.hd wi hz λh' O' sb=>h _ ?_;have hd:∃o,h'.get? dx=some o:=let⟨o,_,_,e',_⟩:=O'.ns;⟨o,e'⟩;refine I.write (x:=a) (e:=dx) (by rw[e];exact True.intro) (.inr ho) (λb q hb z=>(sb.2 b hb).trans z) hd ?_;refine(u7 (by rw[aE O.ne];exact ho) ?_ O.ne O'.obj _ O'.ns (λg=>?_) (λg hg=>?_))
 ·have:=oM f y fs;lia
 ·show uX ((bC f y fs).lookup g) (if g=f then some u else mA g);rw[a9];by_cases q:g=f
  ·rw[Yb q,Yb q];exact ry
  ·rw[Ya q,Ya q];exact r g
 ·by_cases q:g=f
  ·rw[q];exact(nU f y fs).1
  ·refine(nU f y fs).2 g (wi g λz=>hg ?_);show(if g=f then some u else mA g)=none;rw[Ya q];exact z
theorem GT(I:Inv X pins σ H s):Inv X pins σ (upd (upd H s.heap.objs.size (.own (s.heap.objs.size+1))) (s.heap.objs.size+1) (.ins C s.heap.objs.size []))
  { s with heap:=(s.heap.push PySem.W.emptyDict).push (PySem.W.instObj C s.heap.objs.size) }:=by
 have e1:(s.heap.push PySem.W.emptyDict).get? s.heap.objs.size=some PySem.W.emptyDict:=YU s.heap rfl;have e2:((s.heap.push PySem.W.emptyDict).push (PySem.W.instObj C s.heap.objs.size)).get? (s.heap.objs.size+1)=some (PySem.W.instObj C s.heap.objs.size):=by
  have:=YU (s.heap.push PySem.W.emptyDict) (o:=PySem.W.instObj C s.heap.objs.size) rfl
  rwa [Heap.size_push]at this
 have e3:(s.heap.push PySem.W.emptyDict).Ns s.heap.objs.size (λ_=>none):=(dO PySem.W.emptyDict (#[]) _ e1 rfl (λe he=>Yg he (by simp)) (λ_=>rfl))
 have I1:=I.laid (a:=s.heap.objs.size) (o:=.own (s.heap.objs.size+1)) (h':=s.heap.push PySem.W.emptyDict) (t':=s.toks) (λb u q=>YW _ q) (ZC _) ⟨_,e1⟩;refine I1.laid (a:=s.heap.objs.size+1) (o:=.ins C s.heap.objs.size []) (t':=s.toks) (λb u q=>YW _ q) (Nat.le_of_eq (Heap.size_push _ _)) ?_;have ne:s.heap.objs.size≠s.heap.objs.size+1:=ZA (Nat.lt_succ_self _);refine(u7 (by rw[aE ne,aA]) (YZ _) ne e2 (λ_=>none) ((Heap.Ns1.of_empty e3).at λo q=>YW _ q) (λ_=>True.intro) (λy hy=>Yg rfl hy))
theorem JY{prog:Program}{w:World}{env:Env}{e:Expr}{f:Str}{pos:Pos}{s:Shared}{Q:Value->Shared->Prop}(hb:attributeBase e f env (eval e env)=eval e env)
  (h:wpAny (model prog w) A (eval e env) (λo s₁=>wpAny (model prog w) A (getAttr o f true) Q E s₁) E s):wpAny (model prog w) A (eval (.Attribute e f pos) env) Q E s :=
 Attribute_any_ h (by rw[arm_eval_Attribute,hb])
end
def PQ(K:PySem.W.Frag)(ta:TE)(f:Str):TE:=λσ H Q=>ta σ H λx H1=>x.gr λa=>∃C dx fs v,H1 a=some (.ins C dx fs)/\Cls K C/\h9 K C f/\fs.lookup f=some v/\Q v H1
def P3(K:PySem.W.Frag)(ta tv:TE)(f:Str):TS:=λD σ H=>tv σ H λy H1=>ta σ H1 λx H2=>x.gr λa=>∃C dx fs,H2 a=some (.ins C dx fs)/\Cls K C/\h9 K C f/\fs.length<1000 /\
 D.nx σ (upd H2 a (.ins C dx (bC f y fs)))
section
variable{X:Cx}{o e value:Expr}{f:Str}{pos pos' tpos:Pos}{ta tv:TE}
theorem dN(he:PE X e ta)(hb:attributeBase e f X.env (eval e X.env)=eval e X.env):PE X (.Attribute e f pos) (PQ X.K ta f):=by
 intro pins s σ H Q I h;refine JY hb (cW (he pins s σ H _ I h) λu s1 x H1 I1 rx zz=>?_);obtain⟨a,ex,C,dx,fs,v,ea,c,n,l,q⟩:=bN zz;subst ex;obtain rfl:u=Value.ref a:=rx;exact zC I1 ea c n l λu' s2 I2 ru=>(aH v H1 I2 ru q)
theorem qH(ha:PE X o ta)(hv:PE X value tv)(hs:swapsWith value (some (.Attribute o f pos')) pos.line X.env=pure false):PS X (.Assign [.Attribute o f pos'] value pos) (P3 X.K ta tv f):=by
 intro pins s σ H D I h;refine plainObj_wpAny_Assign_Attribute (cW (hv pins s σ H _ I h) λu s1 y H1 I1 ry q=>cW (ha pins s1 σ H1 _ I1 q) λov s2 x H2 I2 rx zz=>?_) hs;obtain⟨a,ex,C,dx,fs,ea,c,n,l,q2⟩:=bN zz;subst ex;obtain rfl:ov=Value.ref a:=rx;exact yC I2 ea c n l ry λs3 I3=>(cG σ _ I3 q2)
end
section
variable{X:Cx}{pins:List (Addr×Obj)}{σ:St}{H:Hp}{s:Shared}{A:Around}{E:Value->Shared->Prop}{Q:Value->Shared->Prop}{c:Value}{b:Bool}
inductive oF(K:PySem.W.Frag)(H:Hp):V->Value->Prop where
 |non:oF K H .non (.type "NoneType")
 |bl (x:Bool):oF K H (.bl x) (.type "bool")
 |int (i:Int):oF K H (.int i) (.type "int")
 |str (x:Str):oF K H (.str x) (.type "str")
 |flt (x:UInt64):oF K H (.flt x) (.type "float")
 |lst {a:Addr}{xs:List V}(e:H a=some (.lst xs)):oF K H (.ref a) (.type "list")
 |frz {a:Addr}{o:Obj}{xs:List V}(e:H a=some (.frz o (.lst xs))):oF K H (.ref a) (.type "list")
 |tup {a:Addr}{xs:List V}(e:H a=some (.tup xs)):oF K H (.ref a) (.type "tuple")
 |dK {a:Addr}{kvs:List (Key×V)}(e:H a=some (.dK kvs)):oF K H (.ref a) (.type "dict")
 |dT {a:Addr}{kvs:List (List Key×V)}(e:H a=some (.dT kvs)):oF K H (.ref a) (.type "dict")
 |ins {a C dx:Addr}{fs:List (Str×V)}(e:H a=some (.ins C dx fs)) (cl:Cls K C) (ha:PySem.W.findIn K (.ref C) "__class__" = some (some (.builtin "object.__class__")))
   (hn:PySem.W.specialIn K (.builtin "object.__class__") "__get__" = some (some (.builtin "getset_descriptor.__get__"))) (htk:PySem.W.takesIn K (.builtin "object.__class__")=some true)
   (hm:PySem.W.mroIn K C (.type "object")=some true):oF K H (.ref a) (.ref C)
theorem CM{x:V}{u t:Value}(I:Inv X pins σ H s)(rx:RelV x u)(ty:oF X.K H x t)(e:PySem.W.kitOne X.K t c=some b)(h:∀tk,Q (.bool b) { s with toks:=tk }) :
  wpAny (model X.prog X.w) A (call (.builtin "isinstance") [u,c]) Q E s:=by
 cases ty with
 |non=>cases (show u=Value.none from rx);exact PySem.W.kia_one PySem.W.kitx_none I.kIn True.intro e (λz=>nomatch z) h
 |bl y=>cases (show u=Value.bool y from rx);exact PySem.W.kia_one PySem.W.kitx_bool I.kIn True.intro e (λz=>nomatch z) h
 |int i=>obtain⟨t,q⟩:=(show ∃t,u=Value.int i t from rx);cases q;exact PySem.W.kia_one PySem.W.kitx_int I.kIn True.intro e (λz=>nomatch z) h
 |str y=>obtain⟨t,q⟩:=(show ∃t,u=Value.str y t from rx);cases q;exact PySem.W.kia_one PySem.W.kitx_str I.kIn True.intro e (λz=>nomatch z) h
 |flt y=>obtain⟨t,q⟩:=(show ∃t,u=Value.float y t from rx);cases q;exact PySem.W.kia_one PySem.W.kitx_float I.kIn True.intro e (λz=>nomatch z) h
 |@lst a xs ea =>
  cases (show u=Value.ref a from rx);obtain⟨_,_,n,_,h1⟩:=(show cC X.prog X.w H s.heap a (.lst xs) from I.hok a _ ea)
  exact PySem.W.kia_one PySem.W.kitx_list I.kIn (xWP _ h1 rfl) e (λz=>nomatch z) h
 |@frz a ob xs ea =>
  cases (show u=Value.ref a from rx);obtain⟨_,_,_,n,_,h1⟩:=(show cC X.prog X.w H s.heap a (.frz ob (.lst xs)) from I.hok a _ ea)
  exact PySem.W.kia_one PySem.W.kitx_list I.kIn (xWP _ h1 rfl) e (λz=>nomatch z) h
 |@tup a xs ea =>
  cases (show u=Value.ref a from rx);obtain⟨_,_,_,p⟩:=(show cC X.prog X.w H s.heap a (.tup xs) from I.hok a _ ea)
  obtain⟨o,h1,h2,_⟩:=p;exact PySem.W.kia_one PySem.W.kitx_tuple I.kIn (xWP o h1 h2) e (λz=>nomatch z) h
 |@dK a kvs ea =>
  cases (show u=Value.ref a from rx);obtain⟨_,_,vs,_,p⟩:=(show cC X.prog X.w H s.heap a (.dK kvs) from I.hok a _ ea)
  obtain⟨o,es,ep,h1,h2,_⟩:=p;exact PySem.W.kia_one PySem.W.kitx_dict I.kIn (xWP o h1 h2.1) e (λz=>nomatch z) h
 |@dT a kvs ea =>
  cases (show u=Value.ref a from rx);obtain⟨_,_,xs,_,o,es,ep,h1,h2,_⟩:=(show cC X.prog X.w H s.heap a (.dT kvs) from I.hok a _ ea)
  exact PySem.W.kia_one PySem.W.kitx_dict I.kIn (xWP o h1 h2.1) e (λz=>nomatch z) h
 |@ins a C dx fs ea cl ha hn htk hm =>
  cases (show u=Value.ref a from rx);obtain⟨mA,O,_⟩:=mV I.hok ea;obtain⟨od,J,_⟩:=O.look;exact PySem.W.kia_one (PySem.W.kitx_own (cl.get _) cl.hd ha hn htk hm) I.kIn J e (λz=>nomatch z) h
end
structure fM(k:Nat)(A:Around):Prop where
 hd:A.handled=none
 dp:A.depth+3*k+5<recursionLimit
 un:A.units+16*k+200<cLine
 gd:A.guards=some []
theorem fM.mono{j k:Nat}{A:Around}(r:fM k A)(h:j<=k):fM j A:=⟨r.hd,by have:=r.dp;lia,by have:=r.un;lia,r.gd⟩
theorem fM.deeper{k:Nat}{A:Around}(r:fM (k+1) A)(env:Env):fM k (A.deeper env) :=
 ⟨r.hd,by have:=r.dp;show A.depth+1+3*k+5<_;lia,by have:=r.un;show A.units+3+16*k+200<_;lia,r.gd⟩
theorem yY{A:Around}{C:Addr}{us:List Value}{kw:List (Str×Value)}:(A.under (.builtin "type.__call__" ⟨.ref C::us,kw⟩)).depth=A.depth+1:=by
 first | rfl | simp[Around.under,Code.weight,Code.isCreation,Code.isGuard,Code.isCaller,Code.frames,Code.isFrame,guardIds]
theorem yX{A:Around}{C:Addr}{us:List Value}{kw:List (Str×Value)}:(A.under (.builtin "type.__call__" ⟨.ref C::us,kw⟩)).units=A.units+1:=by
 first | rfl | simp[Around.under,Code.cUnits,Code.frames,Code.isFrame]
theorem fM.make{k:Nat}{A:Around}(r:fM (k+1) A)(C:Addr)(us:List Value)(kw:List (Str×Value)):fM k (A.under (.builtin "type.__call__" ⟨.ref C::us,kw⟩)) :=
 ⟨r.hd,by have:=r.dp;rw[yY];lia,by have:=r.un;rw[yX];lia,by first | exact r.gd | (have:=r.gd;simpa[Around.under,Code.weight,Code.isCreation,Code.isGuard,Code.isCaller,Code.frames,Code.isFrame,guardIds] using this)⟩
theorem fM.depth{k:Nat}{A:Around}(r:fM k A):A.depth<recursionLimit:=by have:=r.dp;lia
theorem fM.units{k:Nat}{A:Around}(r:fM k A):A.units+64<cLine:=by have:=r.un;lia
theorem fM.units0{k:Nat}{A:Around}(r:fM k A):A.units<cLine:=by have:=r.un;lia
def K9:TA:=λ_ H Q=>Q [] H
def J7(ta:TE)(tr:TA):TA:=λσ H Q=>ta σ H λx H1=>tr σ H1 λxs H2=>Q (x::xs) H2
section
variable{X:Cx}{e:Expr}{es:List Expr}{te:TE}{t:TA}{pos:Pos}
theorem aO:PA X [] K9:=λ_ _ _ _ H Q I h=>Calls.spliced_nil (aH ([]) H I .nil h)
theorem aK(ha:PE X e te)(hr:PA X es t)(hs:starEach (e::es) X.env=(false,eval e X.env)::starEach es X.env:=by rfl):PA X (e::es) (J7 te t):=by
 intro pos pins s σ H Q I h;rw[hs];show wpAny _ _ (spliced ((false,eval e X.env)::backTo pos (starEach es X.env))) _ _ s;refine Calls.spliced_cons (cW (ha pins s σ H _ I h) λu s1 x H1 I1 r1 q1=>?_);exact oT (hr pos pins s1 σ H1 _ I1 q1) λus s2 xs H2 I2 r2 q2=>(aH (x::xs) H2 I2 (.cons r1 r2) q2)
def PH(t:TA):TE:=λσ H Q=>t σ H λxs H1=>xs.length<=ZW/\∀p,H1 p=none->Q (.ref p) (upd H1 p (.tup xs))
def PN(t:TA):TE:=λσ H Q=>t σ H λxs H1=>xs.length<=ZW/\∀p,H1 p=none->Q (.ref p) (upd H1 p (.lst xs))
theorem nO{x1}(h:PA X es t):PE X (.Tuple es x1 pos) (PH t):=by
 intro pins s σ H Q I hq;refine wpAny_Tuple_spliced (thn (h pos pins s σ H _ I hq) λus s1 ⟨xs,H1,I1,r,z,q⟩=>⟨by rw[<-r.length];exact z,?_⟩);have hf:H1 s1.heap.objs.size=none:=I1.hok.fresh (ZC _);refine(aH (.ref s1.heap.objs.size) (upd H1 s1.heap.objs.size (.tup xs)) (I1.laid (t':=s1.toks) (λb u e=>YW _ e) (ZC _) ?_) rfl (q _ hf));exact(gJ z us r (aQ _ (YU _ rfl) rfl ⟨ _,rfl⟩))
theorem jP(h:PA X es t):PE X (.List es pos) (PN t):=by
 intro pins s σ H Q I hq;refine wpAny_List_spliced (thn (h pos pins s σ H _ I hq) λus s1 ⟨xs,H1,I1,r,z,q⟩=>⟨by rw[<-r.length];exact z,?_⟩);have hf:H1 s1.heap.objs.size=none:=I1.hok.fresh (ZC _);refine(aH (.ref s1.heap.objs.size) (upd H1 s1.heap.objs.size (.lst xs)) (I1.laid (t':=s1.toks) (λb u e=>YW _ e) (ZC _) ?_) rfl (q _ hf));exact(fF z us 0 r (YU _ rfl))
end
abbrev Sp:=List V->Hp->VK->XK->Prop
abbrev CXT:=List Env->Hp->Shared->XK->Value->Shared->Prop
structure zL(P:Program)(w:World)(K:PySem.W.Frag)(mg:Str->Option Value)(base:Heap)(A:Around)(outer:List Env)(s:Shared)(H:Hp):Prop where
 frames:A.frames=some outer
 mod:Mod K mg base
 bs:∀b o,base.get? b=some o->s.heap.get? b=some o/\H b=none
 bsz:base.objs.size<=s.heap.objs.size
 funs:s.heap.FunFrames base outer
 frf:∀b∈frs outer,H b=none
 hok:HOk P w H s.heap
 bare:AllBare s.gens
def CE(outer:List Env)(P:Program)(w:World)(H:Hp)(s:Shared)(Q:VK)(u:Value)(s':Shared):Prop :=
 ∃v H',s'.os=s.os/\AllBare s'.gens/\Un (frs outer) [] H H' s.heap s'.heap/\HOk P w H' s'.heap/\RelV v u/\Q v H'
def CR(CX:CXT)(outer:List Env)(P:Program)(w:World)(H:Hp)(s:Shared)(Q:VK)(E:XK)(r:Result)(s':Shared):Prop :=
 match r with
 |.ok (.ret u)=>CE outer P w H s Q u s'
 |.ok _=>False
 |.error e=>CX outer H s E e s'
structure jE(P:Program)(w:World)(K:PySem.W.Frag)(mg:Str->Option Value)(base:Heap)(CX:CXT)(k:Nat)(f:Addr)(fd:FuncData)(ps:List Str)(sp:Sp):Prop where
 len:∀vs H Q E,sp vs H Q E->vs.length=ps.length
 run:∀(A:Around) (outer:List Env) (s:Shared) (H:Hp) (args:Args) (us:List Value) (vs:List V) (Q:VK) (E:XK),fM k A->zL P w K mg base A outer s H->BindsTo s fd args (ps.zip us)->a8 vs us->sp vs H Q E ->
  codeAny (model P w) A (.call (.ref f) args) (CR CX outer P w H s Q E) s
theorem jE.imp{P:Program}{w:World}{K:PySem.W.Frag}{mg:Str->Option Value}{base:Heap}{CX:CXT}{k:Nat}{f:Addr}{fd:FuncData}{ps:List Str}{sp sp':Sp}(F:jE P w K mg base CX k f fd ps sp)
  (h:∀vs H Q E,sp' vs H Q E->sp vs H Q E):jE P w K mg base CX k f fd ps sp' :=
 ⟨λvs H Q E q=>F.len vs H Q E (h _ _ _ _ q),λA outer s H args us vs Q E hr he hb hv hs=>F.run A outer s H args us vs Q E hr he hb hv (h _ _ _ _ hs)⟩
theorem zL.make{P:Program}{w:World}{K:PySem.W.Frag}{mg:Str->Option Value}{base:Heap}{A:Around}{outer:List Env}{s:Shared}{H:Hp}(e:zL P w K mg base A outer s H)(C:Addr)(us:List Value)(kw:List (Str×Value)) :
  zL P w K mg base (A.under (.builtin "type.__call__" ⟨.ref C::us,kw⟩)) outer s H:=⟨by first | exact e.frames | (simpa[Around.under,Code.envs,Code.isFrame,pushEnvs] using e.frames),e.mod,e.bs,e.bsz,e.funs,e.frf,e.hok,e.bare⟩
section
variable{X:Cx}{pins:List (Addr×Obj)}{σ:St}{H:Hp}{s s':Shared}
theorem Inv.env0(I:Inv X pins σ H s):zL X.prog X.w X.K X.mg X.base X.A X.stack s H :=
 ⟨I.ok.frames,I.ok.mod,I.bs,YQ I.ok.bsz I.sz,I.stack,I.stkFree,I.hok,I.bare⟩
theorem Inv.after{Q:VK}{u:Value}(I:Inv X pins σ H s)(h:CE X.stack X.prog X.w H s Q u s'):EP X pins σ Q u s':=by
 obtain⟨v,H',os,bare,un,hok,r,q⟩:=h;obtain⟨hh,g,d,t,os'⟩:=s';obtain rfl:os'=s.os:=os;exact(aH v H' (I.call (h':=hh) (g':=g) (d':=d) (t':=t) (ch:=[]) un hok bare (λb z=>Yg z (by simp))) r q)
end
def J8(sp:Sp)(dvs:List V)(E:XK)(t:TA):TE:=λσ H Q=>t σ H λvs H1=>sp (vs++dvs) H1 Q E
def NN(C:Addr)(sp:Sp)(dvs:List V)(E:XK)(t:TA):TE:=λσ H Q=>t σ H λvs H1=>∀x dx,H1 x=none->H1 dx=none->dx≠x ->
 sp (.ref x::(vs++dvs)) (upd (upd H1 dx (.own x)) x (.ins C dx [])) (λv H2=>v=.non/\Q (.ref x) H2) E
def Binds(K:PySem.W.Frag)(fd:FuncData)(ps:List Str)(ds:List Value):Prop :=
 ∀(s:Shared) (us:List Value),K.In s.heap->(us++ds).length=ps.length->BindsTo s fd ⟨us,[]⟩ (ps.zip (us++ds))
theorem Binds.all{K:PySem.W.Frag}{fd:FuncData}{ps:List Str}(h:∀us:List Value,us.length=ps.length->bindArgs fd ⟨us,[]⟩=pure (ps.zip us)):Binds K fd ps []:=λs us _ hl=>by
 rw[List.append_nil]at hl ⊢;exact .of_eq (h us hl)
def oG(CX:CXT)(X:Cx)(E:XK):Prop:=∀(pins:List (Addr×Obj)) (σ:St) (H:Hp) (s:Shared) (e:Value) (s':Shared),Inv X pins σ H s->CX X.stack H s E e s'->X.xe e s'
section
variable{X:Cx}{CX:CXT}{k:Nat}{f C:Addr}{fd:FuncData}{ps:List Str}{sp:Sp}{dvs:List V}{ds:List Value}{E:XK}{x m:Str}{p pos apos:Pos}{e o:Expr}{es:List Expr}{ta:TE}{t:TA}
theorem LV{pins:List (Addr×Obj)}{σ:St}{H:Hp}{s:Shared}{Q:VK}{us:List Value}{vs:List V}(F:jE X.prog X.w X.K X.mg X.base CX k f fd ps sp)(hr:fM k X.A)(hb:Binds X.K fd ps ds)(hd:a8 dvs ds)(hx:oG CX X E)
  (I:Inv X pins σ H s) (r:a8 vs us) (h:sp (vs++dvs) H Q E):wpAny (model X.prog X.w) X.A (call (.ref f) us) (EP X pins σ Q) X.xe s:=by
 have r2:a8 (vs++dvs) (us++ds):=r.append hd;have hl:(us++ds).length=ps.length:=by rw[<-r2.length];exact F.len _ _ _ _ h
 refine wpAny_call (codeAny_mono (F.run X.A X.stack s H ⟨us,[]⟩ (us++ds) (vs++dvs) Q E hr I.env0 (hb s us I.kIn hl) r2 h) λr s' hq=>?_);cases r with
 |error e=>exact hx pins σ H s e s' I hq
 |ok fl =>
  cases fl with
  |ret u=>exact I.after hq
  |next=>exact False.elim hq
  |brk=>exact False.elim hq
  |cont=>exact False.elim hq
theorem IJ(F:jE X.prog X.w X.K X.mg X.base CX k f fd ps sp)(hr:fM k X.A)(hg:Gl X x)(hm:X.mg x=some (.ref f))(hk:PySem.W.keepIn X.K (.ref f)=true)(hb:Binds X.K fd ps ds)(hd:a8 dvs ds)(hx:oG CX X E)
  (ha:PA X (e::es) t) (hdb:(x==("__debug__" : Str))=false:=by decide) (he:starEach (e::es) X.env=(false,eval e X.env)::starEach es X.env:=by rfl) (hpl:(backTo pos (starEach es X.env)).any (·.1)=false:=by rfl) :
  PE X (.Call (.Name x p) (e::es) [] pos) (J8 sp dvs E t):=by
 intro pins s σ H Q I h;refine wpAny_Call_Name_kw (uK I hg hm ?_ hdb);refine PySem.W.callWith_K (h₀:=X.base) I.ok.mod.kin hk (oT (ha pos pins s σ H _ I h) λus s1 vs H1 I1 r q=>⟨I1.kIn,?_⟩) he hpl;exact LV F hr hb hd hx I1 r q
structure Mk(K:PySem.W.Frag)(C f:Addr):Prop where
 makes:PySem.W.makesIn K C=true
 init:PySem.W.findIn K (.ref C) "__init__" = some (some (.ref f))
 fn:PySem.W.isFn K (.ref f)=true
 kp:PySem.W.keepIn K (.ref C)=true
theorem EC{pins:List (Addr×Obj)}{σ:St}{H:Hp}{s:Shared}{Q:VK}{us:List Value}{vs:List V}(M:Mk X.K C f)(F:jE X.prog X.w X.K X.mg X.base CX k f fd ps sp)(hr:fM (k+1) X.A)(hb:Binds X.K fd ps ds)(hd:a8 dvs ds)
  (hx:oG CX X E) (I:Inv X pins σ H s) (r:a8 vs us)
  (h:∀x dx,H x=none->H dx=none->dx≠x->sp (.ref x::(vs++dvs)) (upd (upd H dx (.own x)) x (.ins C dx [])) (λv H2=>v=.non/\Q (.ref x) H2) E) :
  wpAny (model X.prog X.w) X.A (call (.ref C) us) (EP X pins σ Q) X.xe s:=by
 have hq:=h (s.heap.objs.size+1) s.heap.objs.size (I.hok.fresh (Nat.le_succ _)) (I.hok.fresh (ZC _)) (ZA (Nat.lt_succ_self _));have I2:=GT (C:=C) I;have r2:a8 (V.ref (s.heap.objs.size+1)::(vs++dvs)) (Value.ref (s.heap.objs.size+1)::(us++ds)):=.cons rfl (r.append hd);have hl:(Value.ref (s.heap.objs.size+1)::us++ds).length=ps.length:=by
  have e:=r2.length;rw[F.len _ _ _ _ hq]at e;exact e.symm
 refine wpAny_call (FQ (f:=f) I.kIn M.makes M.init (beq_iff_eq.mp M.fn) (codeAny_mono (F.run _ X.stack _ _ ⟨Value.ref (s.heap.objs.size+1)::us,[]⟩ (Value.ref (s.heap.objs.size+1)::(us++ds)) _ _ E (hr.make C us [])
  (I2.env0.make C us []) (hb _ (Value.ref (s.heap.objs.size+1)::us) I2.kIn hl) r2 hq) λr s' hq'=>?_))
 cases r with
 |error e=>exact hx pins σ _ _ e s' I2 hq'
 |ok fl =>
  cases fl with
  |ret u =>
   obtain⟨v,H',I3,rv,ev,q3⟩:=I2.after hq';subst ev;exact⟨rv,(aH (V.ref (s.heap.objs.size+1)) H' I3 rfl q3)⟩
  |next=>exact False.elim hq'
  |brk=>exact False.elim hq'
  |cont=>exact False.elim hq'
theorem IH(M:Mk X.K C f)(F:jE X.prog X.w X.K X.mg X.base CX k f fd ps sp)(hr:fM (k+1) X.A)(hg:Gl X x)(hm:X.mg x=some (.ref C))(hb:Binds X.K fd ps ds)(hd:a8 dvs ds)(hx:oG CX X E)
  (ha:PA X (e::es) t) (hdb:(x==("__debug__" : Str))=false:=by decide) (he:starEach (e::es) X.env=(false,eval e X.env)::starEach es X.env:=by rfl) (hpl:(backTo pos (starEach es X.env)).any (·.1)=false:=by rfl) :
  PE X (.Call (.Name x p) (e::es) [] pos) (NN C sp dvs E t):=by
 intro pins s σ H Q I h;refine wpAny_Call_Name_kw (uK I hg hm ?_ hdb);refine PySem.W.callWith_K (h₀:=X.base) I.ok.mod.kin M.kp (oT (ha pos pins s σ H _ I h) λus s1 vs H1 I1 r q=>⟨I1.kIn,?_⟩) he hpl;exact EC M F hr hb hd hx I1 r q
end
def PK(X:Cx)(kws:List Keyword)(t:TA):Prop :=
 ∀(pos:Pos) (pins:List (Addr×Obj)) (s:Shared) (σ:St) (H:Hp) (Q:List V->Hp->Prop),Inv X pins σ H s->t σ H Q->wpAny (model X.prog X.w) X.A (evalAll ((backToKw pos (keywordEach kws X.env)).map (·.2))) (AP X pins σ Q) X.xe s
section
variable{X:Cx}{CX:CXT}{k:Nat}{f C:Addr}{fd:FuncData}{ps ks:List Str}{sp:Sp}{E:XK}{x m:Str}{p pos apos kpos:Pos}{e o:Expr}{es:List Expr}{kws:List Keyword}{te ta:TE}{t tk:TA}{nm:Option Str}
theorem L4:PK X [] K9:=λ_ _ _ _ H Q I h=>wpAny_evalAll_nil (aH ([]) H I .nil h)
theorem IF(ha:PE X e te)(hr:PK X kws t):PK X (⟨nm,e,kpos⟩::kws) (J7 te t):=by
 intro pos pins s σ H Q I h;show wpAny _ _ (evalAll ((do let v <-eval e X.env;standAt pos;pure v)::(backToKw pos (keywordEach kws X.env)).map (·.2))) _ _ s;refine wpAny_evalAll_cons (ZZ (cW (ha pins s σ H _ I h) λu s1 x H1 I1 r1 q1=>ZZ (wpAny_standAt (ZY ?_))));exact oT (hr pos pins s1 σ H1 _ I1 q1) λus s2 xs H2 I2 r2 q2=>(aH (x::xs) H2 I2 (.cons r1 r2) q2)
variable{g:List Value->List Value->List Value}{gV:List V->List V->List V}
end
structure cV(N P:List Str)(sc:Scope):Prop where
 kind:sc.kind=.function
 co:sc.isCoroutine=false
 gen:sc.isGenerator=false
 nd:N.Nodup
 pre:N.take P.length=P
 par:∀x∈P,sc.names.lookup x=some .local\/sc.names.lookup x=some .cell
 nofree:∀y∈sc.names,y.2≠.free
theorem tL{kindOf:Str->Option NameKind}{x:Str}:∀{binds:List (Str×Value)}{m:Str->Option Value},(∀v,(x,v)∉binds)->bindL kindOf binds m x=m x
 |[],_,_=>rfl
 |(n,v)::r,m,h=>by
  unfold bindL;rw[tL λw hw=>h w (Zw _ hw)];split
  ·have:x≠n:=by rintro rfl;exact h v Zd
   simp[this]
  ·rfl
theorem tN{kindOf:Str->Option NameKind}{x:Str}:∀{binds:List (Str×Value)}{m:Str->Option Value},(∀v,(x,v)∉binds)->bindC kindOf binds m x=m x
 |[],_,_=>rfl
 |(n,v)::r,m,h=>by
  unfold bindC;rw[tN λw hw=>h w (Zw _ hw)];split
  ·rfl
  ·have:x≠n:=by rintro rfl;exact h v Zd
   simp[this]
theorem tM{kindOf:Str->Option NameKind}{x:Str}{v:Value}:∀{P:List Str}{vs:List Value}{i:Nat}{m:Str->Option Value},P.Nodup->P[i]?=some x->vs[i]?=some v->kindOf x=some .local ->
  bindL kindOf (P.zip vs) m x=some v
 |[],_,_,_,_,h,_,_=>by simp at h
 |_::_,[],_,_,_,_,h,_=>by simp at h
 |p::P,w::vs,0,m,nd,h1,h2,hk=>by
  simp at h1 h2;subst h1;subst h2;show bindL kindOf ((p,w)::P.zip vs) m p=_;unfold bindL;rw[tL λv hv=>(List.nodup_cons.mp nd).1 (List.of_mem_zip hv).1,Yb hk];simp
 |p::P,w::vs,i+1,m,nd,h1,h2,hk=>by
  show bindL kindOf ((p,w)::P.zip vs) m x=_;unfold bindL;exact tM (i:=i) (List.nodup_cons.mp nd).2 (by simpa using h1) (by simpa using h2) hk
theorem tO{kindOf:Str->Option NameKind}{x:Str}{v:Value}:∀{P:List Str}{vs:List Value}{i:Nat}{m:Str->Option Value},P.Nodup->P[i]?=some x->vs[i]?=some v->kindOf x≠some .local ->
  bindC kindOf (P.zip vs) m x=some v
 |[],_,_,_,_,h,_,_=>by simp at h
 |_::_,[],_,_,_,_,h,_=>by simp at h
 |p::P,w::vs,0,m,nd,h1,h2,hk=>by
  simp at h1 h2;subst h1;subst h2;show bindC kindOf ((p,w)::P.zip vs) m p=_;unfold bindC;rw[tN λv hv=>(List.nodup_cons.mp nd).1 (List.of_mem_zip hv).1,Ya hk];simp
 |p::P,w::vs,i+1,m,nd,h1,h2,hk=>by
  show bindC kindOf ((p,w)::P.zip vs) m x=_;unfold bindC;exact tO (i:=i) (List.nodup_cons.mp nd).2 (by simpa using h1) (by simpa using h2) hk
def start(N:List Str)(vs:List V):St:=vs.map some++ZF (N.length-vs.length) none
def wU(CX:CXT)(P:Program)(w:World)(K:PySem.W.Frag)(mg:Str->Option Value)(base:Heap)(N:List Str)(qual:Str)(scope:Scope)(f:Addr)(cd:Value)(A:Around)(outer:List Env)(s:Shared)(H:Hp)(E:XK):Cx where
 prog:=P
 w:=w
 K:=K
 mg:=mg
 base:=base
 A:=A.deeper (envOfC qual scope s.heap.objs.size f cd)
 N:=N
 s₀:=s
 H₀:=H
 env:=envOfC qual scope s.heap.objs.size f cd
 outer:=outer
 stack:=envOfC qual scope s.heap.objs.size f cd::outer
 ex:=[]
 calm:=true
 fn:=λ_=>true
 pn:=[]
 xe:=λe s'=>wpAny (model P w) (A.deeper (envOfC qual scope s.heap.objs.size f cd)) (leaving (envOfC qual scope s.heap.objs.size f cd) e) (λ_ s''=>CX outer H s E e s'') (λe' s''=>CX outer H s E e' s'') s'
theorem w8{sc:Scope}{n:Nat}{x:Str}(h:sc.names.lookup x=some .cell):∃c,(cellsFrom n sc.names []).lookup x=some c:=by
 have q:=PySem.W.cellsFrom_some sc.names n [] (.inl h);exact Option.isSome_iff_exists.mp q
theorem CN{CX:CXT}{P:Program}{w:World}{K:PySem.W.Frag}{mg:Str->Option Value}{base:Heap}{N ps:List Str}{qual:Str}{scope:Scope}{f:Addr}{cd:Value}{A:Around}{outer:List Env}{s s1:Shared}{H:Hp}{E:XK}{us:List Value}{vs:List V}
  (S:cV N ps scope) (hd:A.handled=none) (e0:zL P w K mg base A outer s H) (hl:vs.length=ps.length) (r:a8 vs us)
  (x:InCallC s s.heap.objs.size (bindL (envOfC qual scope s.heap.objs.size f cd).kindOf (ps.zip us) λ_=>none) (cellsFrom (s.heap.objs.size+1) scope.names []) (bindC (envOfC qual scope s.heap.objs.size f cd).kindOf (ps.zip us) λ_=>none) s1) :
  Inv (wU CX P w K mg base N qual scope f cd A outer s H E) [] (start N vs) H s1:=by
 have hpl:ps.length<=N.length:=by have:=congrArg List.length S.pre;rw[Yw]at this;lia
 obtain⟨h1,tk,rfl,hk⟩:=x.done;have noA:∀b:Addr,b∉(wU CX P w K mg base N qual scope f cd A outer s H E).ex:=λb z=>Yg (show b∈([]:List Addr) from z) (by simp);refine⟨⟨e0.mod,S.kind,rfl,rfl,ZC _,λy z c h1 h2=>?_,λy hy=>?_,λy c _ h=>?_,λ_=>hd,Around.frames_deeper e0.frames,.inr ⟨rfl,rfl⟩,λb z=>Yg z (noA b),e0.bs,e0.bsz,λb _ _=>noA b,λb z=>Yg z (noA b),e0.funs,e0.frf⟩,
  rfl,e0.bare,Un.kept hk,(xWP _ x.toInCall.ns (λi y v h1 h2 h3=>?_)),λy c h=>⟨_,x.cell y c h⟩,e0.hok.fresh (ZC _),λy c h=>?_,λp hp=>Yg (show p∈([]:List (Addr×Obj)) from hp) (by simp),e0.hok.kept hk,?_⟩
 ·exact name_of_addr x.apart (PySem.mem_of_lookup h1) (PySem.mem_of_lookup h2)
 ·have hy:scope.names.lookup y=some .cell\/scope.names.lookup y=some .free:=hy;rcases hy with hy | hy
  ·exact w8 hy
  ·exact Yg rfl (S.nofree _ (PySem.mem_of_lookup hy))
 ·exact YX (x.above y c (PySem.mem_of_lookup h))
 ·have hi:i<vs.length:=by
   unfold start at h2;by_cases hi:i<vs.length
   ·exact hi
   ·rw[Zy (by simpa using hi)]at h2;rw[List.getElem?_replicate]at h2;split at h2<;>cases h2
  have ha:vs[i]?=some v:=by
   unfold start at h2;rw[Zx (by simpa using hi),Zk]at h2;cases e:vs[i]? with
   |none=>rw[e]at h2;cases h2
   |some a=>rw[e]at h2;cases h2;rfl
  obtain⟨u,hu,rv⟩:=r.get ha;have hp:ps[i]?=some y:=by
   rw[<-S.pre,List.getElem?_take_of_lt (by lia)];exact h1
  have ndP:ps.Nodup:=by rw[<-S.pre];exact S.nd.sublist (List.take_sublist _ _)
  refine(xWP u rv ?_);rcases S.par y (Zg hp) with k | k
  ·exact .inl ⟨k,tM ndP hp hu k⟩
  ·obtain⟨c,e⟩:=w8 (n:=s.heap.objs.size+1) k;refine .inr (gJ (.inl k) c e ?_);have q:=x.cell y c e;rw[tO ndP hp hu (by show scope.names.lookup y≠_;rw[k];decide)]at q;exact q
 ·exact e0.hok.fresh (YX (x.above y c (PySem.mem_of_lookup h)))
 ·unfold start;show _=N.length;rw[Zm,Zq,List.length_replicate]
  lia
theorem OU{CX:CXT}{P:Program}{w:World}{K:PySem.W.Frag}{mg:Str->Option Value}{base:Heap}{k:Nat}{f:Addr}{name qual:Str}{params:Arguments}{body:List Stmt}{scope:Scope}{dV kV doc pm cdv ct oc:Value}{an od:Option Addr}
  {osl:Array (Option Value)}{N ps:List Str}{sp:Sp}(lk:K.lookup f=some ⟨oc,od,.func (PySem.W.fnOf name qual params body scope dV kV doc pm an cdv ct),osl⟩) (hcd:PySem.W.codeIn K cdv qual=true) (S:cV N ps scope)
  (len:∀vs H Q E,sp vs H Q E->vs.length=ps.length)
  (hbody:∀(A:Around) (outer:List Env) (s:Shared) (H:Hp) (vs:List V) (Q:VK) (E:XK),fM k (A.deeper (envOfC qual scope s.heap.objs.size f cdv))->sp vs H Q E ->
   ∃t,PSs (wU CX P w K mg base N qual scope f cdv A outer s H E) body t/\t { nx:=λ_ H'=>Q .non H',rt:=Q } (start N vs) H) :
  jE P w K mg base CX (k+1) f (PySem.W.fnOf name qual params body scope dV kV doc pm an cdv ct) ps sp:=by
 refine⟨len,λA outer s H args us vs Q E hr e0 hb r hsp=>?_⟩;have hl:=len _ _ _ _ hsp;have KX:K.In s.heap:=e0.mod.kin.keeps λb o e=>(e0.bs b o e).1;have lim:s.heap.NoLimit:=e0.mod.nolimit.keeps λb o e=>(e0.bs b o e).1;have hkind:∀y∈ps.zip us,scope.names.lookup y.1=some .local\/(scope.names.lookup y.1=some .cell/\((cellsFrom (s.heap.objs.size+1) scope.names []).lookup y.1).isSome=true):=λ⟨n,v⟩ hy=>by
  rcases S.par n (List.of_mem_zip hy).1 with q | q
  ·exact .inl q
  ·exact .inr ⟨q,PySem.W.cellsFrom_some _ _ _ (.inl q)⟩
 refine codeAny_call_function hr.depth (KX _ _ lk) rfl S.co S.gen rfl (PySem.W.codeRec_of KX hcd) (hb _ _ _ _ ?_);refine wpAny_newFunctionEnv_cells S.kind hkind λenv he s1 x=>?_;subst he;refine⟨lim.keeps x.toInCall.keep,codeAny_func ?_⟩;obtain⟨t,ht,hq⟩:=hbody A outer s H vs Q E (hr.deeper _) hsp;have I:Inv (wU CX P w K mg base N qual scope f cdv A outer s H E) [] (start N vs) H s1:=CN S hr.hd e0 hl r x;refine ZX (ht [] s1 (start N vs) H _ I hq) (λfl s' hs=>?_) λe s' hs=>hs;have fin:∀{σ':St}{H':Hp}{v:V}{u:Value},Inv (wU CX P w K mg base N qual scope f cdv A outer s H E) [] σ' H' s'->RelV v u->Q v H'->CE outer P w H s Q u s' :=
  λ{σ' H' v u} J rv q=>(hJ v H' J.os J.bare J.base J.hok rv q)
 cases fl with
 |ret u =>
  obtain⟨v,σ',H',J,rv,q⟩:=hs;exact fin J rv q
 |next =>
  obtain⟨σ',H',J,q⟩:=hs;exact fin (v:=V.non) (u:=Value.none) J rfl q
 |brk =>
  obtain⟨_,_,_,q⟩:=hs;exact False.elim q
 |cont =>
  obtain⟨_,_,_,q⟩:=hs;exact False.elim q
section
variable{X:Cx}{x:Str}{p pos:Pos}{e:Expr}{es:List Expr}{t:TA}{id T:String}{r:List V->Hp->VK->Prop}
def tCB(r:List V->Hp->VK->Prop)(t:TA):TE:=λσ H Q=>t σ H λvs H1=>r vs H1 Q
theorem aN(hc:fE X (.builtin id) r)(hg:Gl X x)(hm:X.mg x=none)(hv:bootBuiltins x=some (.builtin id))(ha:PA X (e::es) t)(hn:x≠"__name__":=by decide)(hdb:(x==("__debug__" : Str))=false:=by decide)
  (he:starEach (e::es) X.env=(false,eval e X.env)::starEach es X.env:=by rfl) (hpl:(backTo pos (starEach es X.env)).any (·.1)=false:=by rfl):PE X (.Call (.Name x p) (e::es) [] pos) (tCB r t):=by
 intro pins s σ H Q I h;refine wpAny_Call_Name_kw (jV I hg hm hv ?_ hn hdb);exact PyProof.Rows.callWith_builtin1 (oT (ha pos pins s σ H _ I h) λus s1 vs H1 I1 r1 q1=>hc pins s1 σ H1 vs us Q I1 r1 q1) he hpl
theorem bS(hc:fE X (.type T) r)(hg:Gl X x)(hm:X.mg x=none)(hv:bootBuiltins x=some (.type T))(ha:PA X (e::es) t)(hn:x≠"__name__":=by decide)(hdb:(x==("__debug__" : Str))=false:=by decide)
  (he:starEach (e::es) X.env=(false,eval e X.env)::starEach es X.env:=by rfl) (hpl:(backTo pos (starEach es X.env)).any (·.1)=false:=by rfl):PE X (.Call (.Name x p) (e::es) [] pos) (tCB r t):=by
 intro pins s σ H Q I h;refine wpAny_Call_Name_kw (jV I hg hm hv ?_ hn hdb);exact PyProof.Rows.callWith_type1 (oT (ha pos pins s σ H _ I h) λus s1 vs H1 I1 r1 q1=>hc pins s1 σ H1 vs us Q I1 r1 q1) he hpl
end
end L2
namespace HT
open PySem PyProof.Rows
section
open PySem.SeqAt
open PySem.AutoSeq1 (wpAny_loadPart')
open PySem.MeetsSeq PySem.MeetsSeq2 PySem.MeetsSeq3
end
section
variable{prog:Program}{w:World}{A:Around}{E:Value->Shared->Prop}{s:Shared}
def sIx(n d:Nat):Option Int->Nat
 |none=>d
 |some v=>if v<0 then (v+(n:Int)).toNat else min v.toNat n
theorem l9(n d:Nat):sIx n d none=d:=rfl
theorem pE(n d k:Nat):sIx n d (some (k:Int))=min k n:=by
 show(if (k:Int)<0 then ((k:Int)+(n:Int)).toNat else min (k:Int).toNat n)=min k n;rw[Ya (by lia),Int.toNat_natCast]
end
end HT
namespace L2
open PySem PySem.Spec PyProof.Rows
abbrev TO:=St->Hp->(Option Int->Hp->Prop)->Prop
def PO(X:Cx)(e:Option Expr)(t:TO):Prop :=
 ∀(pins:List (Addr×Obj)) (s:Shared) (σ:St) (H:Hp) (Q:Option Int->Hp->Prop),Inv X pins σ H s->t σ H Q ->
  wpAny (model X.prog X.w) X.A (evalPart e X.env) (λu s'=>∃o H',Inv X pins σ H' s'/\IsPart u o/\Q o H') X.xe s
def G9:TO:=λ_ H Q=>Q none H
def NL(t:TE):TO:=λσ H Q=>t σ H λx H1=>x.gi λi=>Q (some i) H1
theorem intsAre_of{ns:List Int}:∀{us:List Value},a8 (ns.map V.int) us->IntsAre us ns:=by
 induction ns with
 |nil=>intro us r;rw[List.map_nil]at r;cases r;exact .nil
 |cons n ns ih =>
  intro us r;rw[ZI]at r;cases r with
  |cons r1 r2 =>
   obtain⟨t,e⟩:=r1;subst e;exact .cons n t (ih r2)
section
variable{X:Cx}{e:Expr}{te:TE}{lo hi:Option Expr}{tl th:TO}{pos p2:Pos}
theorem pH:PO X none G9:=by
 intro pins s σ H Q I h;rw[evalPart_none];exact ZY (aH none H I .none h)
theorem pG(h:PE X e te):PO X (some e) (NL te):=by
 intro pins s σ H Q I hw;rw[evalPart_some];refine cW (h pins s σ H _ I hw) λu s1 x H1 I1 r1 q1=>?_;obtain⟨i,rfl,z1⟩:=cU q1;have q:=z1;obtain⟨t,rfl⟩:=r1;exact(aH (some i) H1 I1 (.int i t) q)
def SlR(X:Cx)(r:V->Option Int->Option Int->Hp->VK->Prop):Prop :=
 ∀(pins:List (Addr×Obj)) (s:Shared) (σ:St) (H:Hp) (x:V) (v vl vu:Value) (lo hi:Option Int) (sl:Addr) (Q:VK),Inv X pins σ H s->RelV x v->s.heap.IsSliceOf sl vl vu .none->IsPart vl lo->IsPart vu hi->r x lo hi H Q ->
  ∃T id,typeLookup (.type T) "__getitem__" = pure (some (.builtin id))/\s.TypeIs v T/\wpAny (model X.prog X.w) X.A (getItem v (.ref sl)) (EP X pins σ Q) X.xe s
def tSl(r:V->Option Int->Option Int->Hp->VK->Prop)(te:TE)(tl th:TO):TE:=λσ H Q=>te σ H λx H1=>tl σ H1 λl H2=>th σ H2 λu H3=>r x l u H3 Q
theorem mJ{r:V->Option Int->Option Int->Hp->VK->Prop}(hr:SlR X r)(he:PE X e te)(hl:PO X lo tl)(hu:PO X hi th):PE X (.Subscript e (.Slice lo hi none p2) pos) (tSl r te tl th):=by
 intro pins s σ H Q I h;refine Subscript_ (cW (he pins s σ H _ I h) λv s1 x H1 I1 r1 q1=>?_);refine wpAny_Slice (thn (hl pins s1 σ H1 _ I1 q1) λvl s2 ⟨l,H2,I2,pl,q2⟩=>thn (hu pins s2 σ H2 _ I2 q2) λvu s3 ⟨u,H3,I3,pu,q3⟩=>?_);rw[evalPart_none];refine ZY ?_;have I4:Inv X pins σ H3 { s3 with heap:=s3.heap.push { cls:=.type "slice",data:=.fields #[vl,vu,.none] } }:=I3.kept (t':=s3.toks) λb ob q=>YW _ q;obtain⟨T,id,hT,ht,hg⟩:=hr pins { s3 with heap:=s3.heap.push { cls:=.type "slice",data:=.fields #[vl,vu,.none] } } σ H3 x v vl vu l u s3.heap.objs.size Q I4 r1 (Heap.IsSliceOf.new ..) pl pu q3;show wpAny (model X.prog X.w) X.A (subscriptTail e (.Slice lo hi none p2) v (.ref s3.heap.objs.size)) (EP X pins σ Q) X.xe { s3 with heap:=s3.heap.push { cls:=.type "slice",data:=.fields #[vl,vu,.none] } };exact tail_any (ops:=[.ref s3.heap.objs.size,v]) ht hT hg (by with_unfolding_all rfl)
def oV(xs:List V)(lo hi:Option Int):List V:=(xs.drop (HT.sIx xs.length 0 lo)).take (HT.sIx xs.length xs.length hi-HT.sIx xs.length 0 lo)
theorem wV(xs:List V)(lo hi:Option Int):(oV xs lo hi).length<=xs.length:=by
 unfold oV;rw[Yw,Yp]
 lia
end
def ixN(n:Nat)(i:Int):Option Nat:=if 0<=i then (if i<n then some i.toNat else none) else if -(n:Int)<=i then some (i+n).toNat else none
def atI{α:Type}(xs:List α)(i:Int):Option α:=(ixN xs.length i).bind λj=>xs[j]?
theorem pL{n:Nat}{i:Int}{j:Nat}(h:ixN n i=some j):seqIndex? i n=some j/\j<n/\-(n:Int)<=i/\i<n:=by
 unfold ixN at h;by_cases h0:0<=i
 ·rw[Yb h0]at h;by_cases h1:i<n
  ·rw[Yb h1]at h;have e:i.toNat=j:=Option.some.inj h;exact(cH (by rw[seqIndex_of h0 h1,e]) (by lia) (by lia) h1)
  ·rw[Ya h1]at h;cases h
 ·rw[Ya h0]at h;by_cases h1 : -(n:Int)<=i
  ·rw[Yb h1]at h;have e:(i+n).toNat=j:=Option.some.inj h;exact(cH (by rw[seqIndex_neg (by lia) h1,e]) (by lia) h1 (by lia))
  ·rw[Ya h1]at h;cases h
theorem pN{α:Type}{xs:List α}{i:Int}{v:α}(h:atI xs i=some v):∃j,seqIndex? i xs.length=some j/\xs[j]?=some v/\j<xs.length/\-(xs.length:Int)<=i/\i<xs.length:=by
 unfold atI at h;cases e:ixN xs.length i with
 |none=>rw[e]at h;cases h
 |some j =>
  rw[e]at h;obtain⟨h1,h2,h3,h4⟩:=pL e;exact(iJ j h1 h h2 h3 h4)
theorem bM{α:Type}{xs:List α}{j:Nat}{v:α}(h:xs[j]?=some v):atI xs (j:Int)=some v:=by
 have hj:j<xs.length:=(Zj.mp h).1;have e:ixN xs.length (j:Int)=some j:=by
  unfold ixN;rw[Yb (by lia),Yb (by lia)];simp
 unfold atI;rw[e];exact h
def BF(b:Expr):Prop:=∀o i,subscripted b false o i=operate [o,i] (getItem o i)
def IxR(X:Cx)(r:R2):Prop :=
 ∀(value slice:Expr) (pins:List (Addr×Obj)) (s:Shared) (σ:St) (H:Hp) (x y:V) (v u:Value) (Q:VK),Inv X pins σ H s->RelV x v->RelV y u->r x y H Q ->
  subscripted slice false v u=operate [v,u] (getItem v u)->wpAny (model X.prog X.w) X.A (subscriptTail value slice v u) (EP X pins σ Q) X.xe s
def MtR(X:Cx)(id:String)(r:V->List V->Hp->VK->Prop):Prop :=
 ∀(pins:List (Addr×Obj)) (s:Shared) (σ:St) (H:Hp) (x:V) (xs:List V) (v:Value) (us:List Value) (Q:VK),Inv X pins σ H s->RelV x v->a8 xs us->r x xs H Q ->
  wpAny (model X.prog X.w) X.A (call (.builtin id) (v::us)) (EP X pins σ Q) X.xe s
section
variable{X:Cx}{a b:Expr}{ta tb:TE}{pos:Pos}
theorem IxR.or{r r':R2}(h:IxR X r)(h':IxR X r'):IxR X (λx y H Q=>r x y H Q\/r' x y H Q):=by
 intro value slice pins s σ H x y v u Q I rx ry q hs;rcases q with q | q
 ·exact h value slice pins s σ H x y v u Q I rx ry q hs
 ·exact h' value slice pins s σ H x y v u Q I rx ry q hs
theorem cP{r:R2}(hr:IxR X r)(ha:PE X a ta)(hb:PE X b tb)(hs:BF b):PE X (.Subscript a b pos) (tOp r ta tb):=by
 intro pins s σ H Q I h;exact Subscript_ (M9 ha hb I h λv u s2 x y H2 I2 rx ry q=>hr a b pins s2 σ H2 x y v u Q I2 rx ry q (hs _ _))
def OE:R2:=λx y H Q=>x.gr λp=>y.gi λi=>∃xs v,SqL H p xs/\atI xs i=some v/\Q v H
def OC:R2:=λx y H Q=>x.gr λp=>y.gi λi=>∃xs v,SqT H p xs/\atI xs i=some v/\Q v H
def OD:R2:=λx y H Q=>x.gs λz=>y.gi λi=>∃c,z.length<=ZW/\atI z.cps.toList i=some c/\Q (.str ⟨#[c]⟩) H
theorem aI:IxR X (OE):=by
 intro value slice pins s σ H x y v u Q I rx ry h hs;obtain⟨p,rfl,z1⟩:=bN h;obtain⟨i,rfl,z2⟩:=cU z1;obtain⟨xs,z,hq,he,q⟩:=z2;cases rx;obtain⟨t,rfl⟩:=ry;obtain⟨its,r,pl,hz⟩:=I.list hq;obtain⟨j,h1,h2,h3,h4,h5⟩:=pN he;obtain⟨w,ew,rw'⟩:=r.get h2;have hl:=r.length;have hn:=jA;have fin:EP X pins σ Q w s:=(aH z H I rw' q)
 by_cases h0:0<=i
 ·have hj:i.toNat=j:=by
   rw[seqIndex_of h0 h5]at h1;exact Option.some.inj h1
  exact item_listR pl.isList h0 (by lia) (by rw[hj];simpa using ew) fin hs
 ·have hj:(i+(its.toArray.size:Int)).toNat=j:=by
   rw[seqIndex_neg (by lia) h4]at h1;rw[ZE,<-hl];exact Option.some.inj h1
  exact subscriptTail_builtinR (x:=w) pl.isList.typeIs slot_list_getitem.lookup
   (wpAny_getItem_list_neg (Q:=λr s'=>r=w/\EP X pins σ Q r s') pl.isList (by lia) (by rw[ZE]<;>lia) (by lia) (by rw[hj];simpa using ew) ⟨rfl,fin⟩) hs
theorem aG:IxR X (OC):=by
 intro value slice pins s σ H x y v u Q I rx ry h hs;obtain⟨p,rfl,z1⟩:=bN h;obtain⟨i,rfl,z2⟩:=cU z1;obtain⟨xs,z,hq,he,q⟩:=z2;cases rx;obtain⟨t,rfl⟩:=ry;obtain⟨its,r,pl,hz⟩:=I.tuple hq;obtain⟨j,h1,h2,h3,h4,h5⟩:=pN he;obtain⟨w,ew,rw'⟩:=r.get h2;have hl:=r.length;have hn:=jA;have fin:EP X pins σ Q w s:=(aH z H I rw' q)
 exact subscriptTail_builtinR (x:=w) pl.typeIs slot_tuple_getitem.lookup
  (getItem_tuple (j:=j) (Q:=λr s'=>r=w/\EP X pins σ Q r s') pl (by lia) (by lia) (by rw[ZE,<-hl];exact h1) (by simpa using ew) ⟨rfl,fin⟩) hs
theorem MZ:IxR X OD:=by
 intro value slice pins s σ H x y v u Q I rx ry h hs;obtain⟨z,rfl,z1⟩:=J2 h;obtain⟨i,rfl,z2⟩:=cU z1;obtain⟨c,hz,he,q⟩:=z2;obtain⟨t,rfl⟩:=rx;obtain⟨t',rfl⟩:=ry;obtain⟨j,h1,h2,h3,h4,h5⟩:=pN he;have hl:z.cps.toList.length=z.length:=by simp[Str.length]
 rw[hl]at h1 h4 h5;have hn:=jA;exact tail_any (typeIs_str s z t) slot_str_getitem.lookup (getItem_str (c:=c) (by
  have e1:decide (i < -(2 ^ 63:Int))=false:=Yc (by lia);have e2:decide (i>=2 ^ 63)=false:=Yc (by lia);rw[e1,e2,Bool.or_false]) (by rw[h1];simpa using h2) (aH (.str ⟨#[c]⟩) H (I.tok _) ⟨_,rfl⟩ q)) hs
def rIx:R2:=λx y H Q=>OE x y H Q\/OC x y H Q\/OD x y H Q
theorem lX:IxR X (rIx):=aI.or (aG.or MZ)
theorem yW(its:List Value)(n j:Nat)(u:Value):Obj.mapSeq (·.setIfInBounds j u) { cls:=.type "list",data:=.seq its.toArray n }={ cls:=.type "list",data:=.seq (its.set j u).toArray n }:=by
 simp[Obj.mapSeq]
theorem Inv.lst{pins:List (Addr×Obj)}{σ:St}{H:Hp}{s:Shared}{p:Addr}{xs:List V}(I:Inv X pins σ H s)(h:H p=some (.lst xs)) :
  ∃(its:List Value) (n:Nat),a8 xs its/\s.heap.get? p=some { cls:=.type "list",data:=.seq its.toArray n }/\xs.length<=ZW:=by
 obtain⟨z,its,n,r,e⟩:=I.hok p _ h;exact(aH its n r e z)
theorem Inv.lstUpd{pins:List (Addr×Obj)}{σ:St}{H:Hp}{s:Shared}{p:Addr}{xs ys:List V}{its its':List Value}{n n':Nat}{f:Obj->Obj}(I:Inv X pins σ H s)(h:H p=some (.lst xs))
  (ho:s.heap.get? p=some { cls:=.type "list",data:=.seq its.toArray n }) (hf:f { cls:=.type "list",data:=.seq its.toArray n }={ cls:=.type "list",data:=.seq its'.toArray n' }) (r:a8 ys its') (hz:ys.length<=ZW) (t:Nat) :
  Inv X pins σ (upd H p (.lst ys)) { s with heap:=s.heap.update p f,toks:=t }:=by
 have e:(s.heap.update p f).get? p=some { cls:=.type "list",data:=.seq its'.toArray n' }:=by
  rw[Heap.get?_update_self f ho (by rw[hf]<;>rfl),hf]
 refine I.write (x:=p) (e:=p) (by rw[h];trivial) (.inl rfl) (λb u hb q=>(Heap.get?_update_other _ _ (Yh hb)).trans q) ⟨_,e⟩ ?_;exact(fF hz its' n' r e)
def OB:V->V->V->Hp->(Hp->Prop)->Prop:=λo i v H Q=>o.gr λp=>i.gi λk=>∃xs j,H p=some (.lst xs)/\ixN xs.length k=some j/\Q (upd H p (.lst (xs.set j v)))
theorem set_list:NC X OB:=by
 intro pins s σ H o i v ov iv u Q I ro ri rv h;obtain⟨p,rfl,z1⟩:=bN h;obtain⟨k,rfl,z2⟩:=cU z1;obtain⟨xs,j,hp,hj,q⟩:=z2;cases ro;obtain⟨t,rfl⟩:=ri;obtain⟨its,n,r,ho,hz⟩:=I.lst hp;obtain⟨h1,h2,h3,h4⟩:=pL hj;have hl:=r.length;have hn:=jA;have I':Inv X pins σ (upd H p (.lst (xs.set j v))) { s with heap:=s.heap.update p (Obj.mapSeq (·.setIfInBounds j u)) } :=
  I.lstUpd hp ho (yW its n j u) (r.set rv j) (by rw[ZP];exact hz) s.toks
 by_cases h0:0<=k
 ·have hk:k.toNat=j:=by
   rw[seqIndex_of h0 h4]at h1;exact Option.some.inj h1
  exact PySem.W.ki_setAt ho h0 (by lia) (by rw[ZE,<-hl];exact h4) (by rw[hk];exact(xWP _ I' q))
 ·have hk:(k+(its.toArray.size:Int)).toNat=j:=by
   rw[seqIndex_neg (by lia) h3]at h1;rw[ZE,<-hl];exact Option.some.inj h1
  exact PySem.W.ki_setBack ho (by lia) (by rw[ZE,<-hl];exact h3) (by lia) (by rw[hk];exact(xWP _ I' q))
theorem tV(lo hi:Option Int)(n:Nat):(sliceBounds lo hi none n).1=((HT.sIx n 0 lo:Nat):Int)/\(sliceBounds lo hi none n).2.1=((HT.sIx n n hi:Nat):Int)/\(sliceBounds lo hi none n).2.2=1:=by
 refine(xPP ?_ ?_ rfl)
 ·cases lo with
  |none=>simp[sliceBounds,HT.sIx]
  |some i =>
   simp only[sliceBounds,HT.sIx,Option.getD_none,show(1:Int)>0 by decide,if_true];by_cases h:i<0
   ·simp only[h,if_true]<;>lia
   ·simp only[h,if_false]<;>lia
 ·cases hi with
  |none=>simp[sliceBounds,HT.sIx]
  |some i =>
   simp only[sliceBounds,HT.sIx,Option.getD_none,show(1:Int)>0 by decide,if_true];by_cases h:i<0
   ·simp only[h,if_true]<;>lia
   ·simp only[h,if_false]<;>lia
theorem rS(its:List Value)(lo hi:Option Int):slicePick its.toArray lo hi none=((its.drop (HT.sIx its.length 0 lo)).take (HT.sIx its.length its.length hi-HT.sIx its.length 0 lo)).toArray:=by
 obtain⟨h1,h2,h3⟩:=tV lo hi its.toArray.size;unfold slicePick;rw[h1,h2,h3];simp only[sliceRange_one,pick_run,ZE]<;>rfl
def P5:V->Option Int->Option Int->Hp->VK->Prop:=λx lo hi H Q=>x.gr λa=>∃xs,SqL H a xs/\∀p,H p=none->Q (.ref p) (upd H p (.lst (oV xs lo hi)))
theorem pD:SlR X (P5):=by
 intro pins s σ H x v vl vu lo hi sl Q I rx hs pl pu h;obtain⟨a,rfl,z1⟩:=bN h;obtain⟨xs,hx,q⟩:=z1;cases rx;obtain⟨its,r,ht,hz⟩:=I.list hx;have hlen:=r.length;refine(aH ("list") _ slot_list_getitem.lookup ht.isList.typeIs ?_);refine wpAny_getItem_list_slice ht.isList hs pl pu .none (by simp) ?_ (by rw[ZE]<;>lia);rw[rS,<-hlen];refine(aH (.ref s.heap.objs.size) _ (I.laid (t':=s.toks) (o:=.lst (oV xs lo hi)) (λb ob q=>YW _ q) (ZC _) ?_) rfl (q _ (I.hok.fresh (ZC _))));exact(fF (YQ (wV xs lo hi) hz) _ 0 ((r.drop (HT.sIx xs.length 0 lo)).take (HT.sIx xs.length xs.length hi-HT.sIx xs.length 0 lo)) (YU _ rfl))
def j3:V->Bool
 |.non=>true
 |.bl _=>true
 |.int _=>true
 |.str _=>true
 |_=>false
def eqV:V->V->Bool
 |.non,.non=>true
 |.bl a,.bl b=>a==b
 |.bl a,.int b=>(if a then 1 else 0)==b
 |.int a,.bl b=>a==(if b then 1 else 0)
 |.int a,.int b=>a==b
 |.str a,.str b=>a==b
 |_,_=>false
theorem M5{A:Around}{s:Shared}{y x:V}{u v:Value}(ry:RelV y u)(rx:RelV x v)(fy:j3 y=true)(fx:j3 x=true):SeqAt.EqAt A s u v (eqV y x):=by
 cases y with
 |non =>
  cases ry;cases x with
  |non=>cases rx;exact SeqAt.EqAt.same _
  |bl b=>cases rx;exact SeqAt.EqAt.none_bool b
  |int b=>obtain⟨t,rfl⟩:=rx;exact SeqAt.EqAt.none_int b t
  |str b=>obtain⟨t,rfl⟩:=rx;exact SeqAt.EqAt.none_str b t
  |_=>exact Yg (show false=true from fx) YT
 |bl a =>
  cases ry;cases x with
  |non=>cases rx;exact SeqAt.EqAt.bool_none a
  |bl b=>cases rx;exact SeqAt.EqAt.bool_bool a b
  |int b=>obtain⟨t,rfl⟩:=rx;exact SeqAt.EqAt.bool_int a b t
  |str b=>obtain⟨t,rfl⟩:=rx;exact SeqAt.EqAt.bool_str a b t
  |_=>exact Yg (show false=true from fx) YT
 |int a =>
  obtain⟨t',rfl⟩:=ry;cases x with
  |non=>cases rx;exact SeqAt.EqAt.int_none a t'
  |bl b=>cases rx;exact SeqAt.EqAt.int_bool a t' b
  |int b=>obtain⟨t,rfl⟩:=rx;exact SeqAt.EqAt.int_int a t' b t
  |str b=>obtain⟨t,rfl⟩:=rx;exact SeqAt.EqAt.int_str a t' b t
  |_=>exact Yg (show false=true from fx) YT
 |str a =>
  obtain⟨t',rfl⟩:=ry;cases x with
  |non=>cases rx;exact SeqAt.EqAt.str_none a t'
  |bl b=>cases rx;exact SeqAt.EqAt.str_bool a t' b
  |int b=>obtain⟨t,rfl⟩:=rx;exact SeqAt.EqAt.str_int a t' b t
  |str b=>obtain⟨t,rfl⟩:=rx;exact SeqAt.EqAt.str_str a t' b t
  |_=>exact Yg (show false=true from fx) YT
 |_=>exact Yg (show false=true from fy) YT
def eqU(x:V)(u:Value):Bool:=match u with
 |.none=>eqV .non x
 |.bool b=>eqV (.bl b) x
 |.int i _=>eqV (.int i) x
 |.str z _=>eqV (.str z) x
 |_=>false
theorem zG{x y:V}{u:Value}(r:RelV y u)(f:j3 y=true):eqU x u=eqV y x:=by
 cases y with
 |non=>cases r;rfl
 |bl b=>cases r;rfl
 |int i=>obtain⟨t,rfl⟩:=r;rfl
 |str z=>obtain⟨t,rfl⟩:=r;rfl
 |_=>exact Yg (show false=true from f) YT
theorem m9{x:V}:∀{xs:List V}{us:List Value},a8 xs us->xs.all j3=true->us.any (eqU x)=xs.any λy=>eqV y x
 |_,_,.nil,_=>rfl
 |y::xs,u::us,.cons r t,f=>by
  rw[List.all_cons,Xg]at f;rw[List.any_cons,List.any_cons,zG r f.1,m9 t f.2]
theorem iV{A:Around}{s:Shared}{x:V}{v:Value}(rx:RelV x v)(fx:j3 x=true):∀{xs:List V}{us:List Value},a8 xs us->xs.all j3=true->∀u∈us,SeqAt.EqAt A s u v (eqU x u)
 |_,_,.nil,_=>λu hu=>by cases hu
 |y::xs,u::us,.cons r t,f=>λu' hu=>by
  rw[List.all_cons,Xg]at f;rcases Zn.mp hu with rfl | hu
  ·rw[zG r f.1];exact M5 r rx f.1 fx
  ·exact iV rx fx t f.2 u' hu
def inV(x:V)(xs:List V):Bool:=xs.any λy=>eqV y x
def rIn(neg:Bool):R2:=λx y H Q=>y.gr λp=>∃xs,(SqL H p xs\/SqT H p xs)/\j3 x=true/\xs.all j3=true/\Q (.bl (if neg then !inV x xs else inV x xs)) H
theorem sR:OpR X (compareOp .In) (rIn false):=by
 intro pins s σ H x y v u Q I rx ry h;obtain⟨p,rfl,z1⟩:=bN h;obtain⟨xs,hq,fx,fs,q⟩:=z1;cases ry;rcases hq with hq | hq
 ·obtain⟨its,r,pl,hz⟩:=I.list hq;refine SeqAt.in_listAt (eqU x) pl.isList (λw hw=>iV rx fx r fs w (by simpa using hw)) (aH (.bl _) H I rfl ?_);rw[show its.toArray.any (eqU x)=its.any (eqU x) by simp,m9 r fs];exact q
 ·obtain⟨its,r,pl,hz⟩:=I.tuple hq;refine SeqAt.in_tupleAt (eqU x) pl (λw hw=>iV rx fx r fs w (by simpa using hw)) (aH (.bl _) H I rfl ?_);rw[show its.toArray.any (eqU x)=its.any (eqU x) by simp,m9 r fs];exact q
theorem gR:OpR X (compareOp .NotIn) (rIn true):=by
 intro pins s σ H x y v u Q I rx ry h;obtain⟨p,rfl,z1⟩:=bN h;obtain⟨xs,hq,fx,fs,q⟩:=z1;cases ry;rcases hq with hq | hq
 ·obtain⟨its,r,pl,hz⟩:=I.list hq;refine SeqAt.notIn_listAt (eqU x) pl.isList (λw hw=>iV rx fx r fs w (by simpa using hw)) (aH (.bl _) H I rfl ?_);rw[show its.toArray.any (eqU x)=its.any (eqU x) by simp,m9 r fs];exact q
 ·obtain⟨its,r,pl,hz⟩:=I.tuple hq;refine SeqAt.notIn_tupleAt (eqU x) pl (λw hw=>iV rx fx r fs w (by simpa using hw)) (aH (.bl _) H I rfl ?_);rw[show its.toArray.any (eqU x)=its.any (eqU x) by simp,m9 r fs];exact q
theorem bK:fE X (.builtin "len") (λxs H Q=>∃p ys,xs=[.ref p]/\(SqL H p ys\/SqT H p ys)/\Q (.int ys.length) H):=by
 intro pins s σ H xs us Q I r h;obtain⟨p,ys,rfl,hq,q⟩:=h;obtain⟨u,rfl,rx⟩:=vals1 r;cases rx;have hn:=jA;rcases hq with hq | hq
 ·obtain⟨its,r',pl,hz⟩:=I.list hq;have hlen:=r'.length;exact Calls.call_len_list pl.isList (by simp only[ZE]<;>lia) (aH (.int ys.length) H (I.tok _) ⟨s.toks+1,by rw[ZE,hlen]⟩ q)
 ·obtain⟨its,r',pl,hz⟩:=I.tuple hq;have hlen:=r'.length;exact len_tuple pl (by simp only[ZE]<;>lia) (aH (.int ys.length) H (I.tok _) ⟨s.toks+1,by rw[ZE,hlen]⟩ q)
theorem dE:fE X (.type "list") (λxs H Q=>∃p ys,xs=[.ref p]/\(SqL H p ys\/SqT H p ys)/\∀l,H l=none->Q (.ref l) (upd H l (.lst ys))):=by
 intro pins s σ H xs us Q I r h;obtain⟨p,ys,rfl,hq,q⟩:=h;obtain⟨u,rfl,rx⟩:=vals1 r;cases rx;have fin:∀(its:List Value),a8 ys its->ys.length<=ZW->∀(h':Heap) (c':Nat),(∀b o',s.heap.get? b=some o'->h'.get? b=some o') ->
   h'.get? s.heap.objs.size=some { cls:=.type "list",dict:=none,data:=.seq its.toArray c',slots:=#[] }->EP X pins σ Q (.ref s.heap.objs.size) { s with heap:=h' }:=λits r' hz h' c' kp e =>
  (aH (.ref s.heap.objs.size) _ (I.laid (t':=s.toks) kp (ZC _) (show cC X.prog X.w _ h' _ (.lst ys) from(fF hz its c' r' e))) rfl (q _ (I.hok.fresh (ZC _))))
 rcases hq with hq | hq
 ·obtain⟨its,r',pl,hz⟩:=I.list hq;have hlen:=r'.length;obtain⟨o,ho,hc,n,hd⟩:=pl.isList;exact call_list_seq p (.inl rfl) ho hc hd (λh' c' kp e=>fin its r' hz h' c' kp e) (by simp only[ZE]<;>lia)
 ·obtain⟨its,r',pl,hz⟩:=I.tuple hq;have hlen:=r'.length;obtain⟨o,ho,hc,n,hd⟩:=pl;exact call_list_seq p (.inr rfl) ho hc hd (λh' c' kp e=>fin its r' hz h' c' kp e) (by simp only[ZE]<;>lia)
def tyV(T:String)(x:V)(H:Hp):Prop:=match x with
 |.str _=>T="str"
 |.int _=>T="int"
 |.ref p=>(T="list"/\∃xs,SqL H p xs) \/       (T="dict"/\((∃kvs,H p=some (.dK kvs))\/∃kvs,H p=some (.dT kvs)))\/(T="set"/\∃S n,H p=some (.set S n))
 |_=>False
theorem xZ{pins:List (Addr×Obj)}{σ:St}{H:Hp}{s:Shared}{T:String}{x:V}{v:Value}(I:Inv X pins σ H s)(r:RelV x v)(ty:tyV T x H) :
  s.TypeIs v T/\∀a,v=.ref a->∃ob,s.heap.get? a=some ob/\ob.dict=none:=by
 cases x with
 |str z =>
  obtain⟨t,rfl⟩:=r;cases (show T="str" from ty);exact⟨typeIs_str s z t,λ_ e=>nomatch e⟩
 |int i =>
  obtain⟨t,rfl⟩:=r;cases (show T="int" from ty);exact⟨typeIs_int s i t,λ_ e=>nomatch e⟩
 |ref p =>
  cases r;rcases ty with⟨rfl,xs,hq⟩ | ⟨rfl,hk⟩ | ⟨rfl,S,n,hk⟩
  ·obtain⟨its,_,pl,_⟩:=I.list hq;refine⟨pl.isList.typeIs,λa e=>?_⟩;cases e;obtain⟨o,n,e,c,hd,_⟩:=pl;exact(xWP o e hd)
  ·have z:∃o,s.heap.get? p=some o/\o.ExactDict:=by
    rcases hk with⟨kvs,hk⟩ | ⟨kvs,hk⟩
    ·obtain⟨_,_,_,_,o,_,_,e,ex,_⟩:=I.hok p _ hk;exact(xWP o e ex)
    ·obtain⟨_,_,_,_,o,_,_,e,ex,_⟩:=I.hok p _ hk;exact(xWP o e ex)
   obtain⟨o,e,ex⟩:=z;refine⟨(xWP o e ex.1),λa e2=>?_⟩;cases e2;exact(xWP o e ex.2.1)
  ·obtain⟨o,_,_,_,e,ex,_⟩:=I.hok p _ hk;refine⟨(xWP o e ex.1),λa e2=>?_⟩;cases e2;exact(xWP o e ex.2.1)
 |_=>exact False.elim ty
def PU(T:String)(r:V->List V->Hp->VK->Prop)(to:TE):TE:=λσ H Q=>to σ H λx H1=>tyV T x H1/\r x [] H1 Q
def tBM(T:String)(r:V->List V->Hp->VK->Prop)(to:TE)(t:TA):TE:=λσ H Q=>to σ H λx H1=>tyV T x H1/\t σ H1 λxs H2=>r x xs H2 Q
variable{o e:Expr}{es:List Expr}{to:TE}{t:TA}{name:Str}{apos cpos:Pos}{T id:String}{r:V->List V->Hp->VK->Prop}
theorem EY(pa:PlainAttrs T)(slot:Slot T name id)(hty:typeOf (.builtin id)=pure (.type "method_descriptor"))(hm:MtR X id r)(ho:PE X o to)
  (hbase:attributeBase o name X.env (eval o X.env)=eval o X.env:=by rfl) (hline:(apos.endLine==cpos.line)=true:=by rfl):PE X (.Call (.Attribute o name apos) [] [] cpos) (PU T r to):=by
 intro pins s σ H Q I h;refine wpAny_Call_method0_late hbase hline (thn (ho pins s σ H _ I h) λv s1 ⟨x,H1,I1,r1,ty,q1⟩=>?_);obtain⟨h1,h2⟩:=xZ I1 r1 ty;exact(hJ T id pa slot hty h1 h2 (Calls.callWith_builtin rfl (PySem.evalArgs_none (hm pins s1 σ H1 x [] v [] Q I1 r1 .nil q1))))
theorem iE(pa:PlainAttrs T)(slot:Slot T name id)(hty:typeOf (.builtin id)=pure (.type "method_descriptor"))(hm:MtR X id r)(ho:PE X o to)(ha:PA X (e::es) t)
  (hbase:attributeBase o name X.env (eval o X.env)=eval o X.env:=by rfl)
  (hfew:((backTo cpos (starEach (e::es) X.env)).all (λx=>!x.1)&&(backToKw cpos (keywordEach [] X.env)).all (λx=>x.1.isSome)
   && decide ((e::es).length+([]:List Keyword).length+(if ([]:List Keyword).isEmpty then 0 else 1)<30))=true:=by rfl)
  (hline:(apos.endLine==cpos.line)=true:=by rfl) (hs:starEach (e::es) X.env=(false,eval e X.env)::starEach es X.env:=by rfl) (hplain:(backTo cpos (starEach es X.env)).any (·.1)=false:=by rfl) :
  PE X (.Call (.Attribute o name apos) (e::es) [] cpos) (tBM T r to t):=by
 intro pins s σ H Q I h;refine wpAny_Call_method_late hbase hfew hline rfl (thn (ho pins s σ H _ I h) λv s1 ⟨x,H1,I1,r1,ty,q1⟩=>?_);obtain⟨h1,h2⟩:=xZ I1 r1 ty;refine(hJ T id pa slot hty h1 h2 ?_);have hA:=ha cpos pins s1 σ H1 _ I1 q1;rw[hs]at hA ⊢;refine Calls.callWith_builtin (by show(false||(backTo cpos (starEach es X.env)).any (·.1))=false;rw[hplain]<;>rfl) (Calls.evalArgs_plain ?_);exact oT hA λus s2 vs H2 I2 r2 q2=>hm pins s2 σ H2 x vs v us Q I2 r1 r2 q2
end
def MtM(X:Cx)(id:String)(r:V->List V->Hp->VK->Prop):Prop :=
 ∀(pins:List (Addr×Obj)) (s:Shared) (σ:St) (H:Hp) (x:V) (xs:List V) (v:Value) (us:List Value) (Q:VK),Inv X pins σ H s->RelV x v->a8 xs us->r x xs H Q ->
  wpAny (model X.prog X.w) X.A (call (.builtin id) (v::us)) (EP X pins σ Q) X.xe s
theorem a8.one:∀{x:V}{us:List Value},a8 [x] us->∃u,us=[u]/\RelV x u:=by
 intro x us h;cases h with
 |cons r h=>cases h;exact(xWP _ rfl r)
theorem a8.two:∀{x y:V}{us:List Value},a8 [x,y] us->∃u v,us=[u,v]/\RelV x u/\RelV y v:=by
 intro x y us h;cases h with
 |cons r h=>cases h with
  |cons q h=>cases h;exact(aH _ _ rfl r q)
theorem a8.zero:∀{us:List Value},a8 [] us->us=[]
 |_,.nil=>rfl
theorem a8.dropLast{xs:List V}{us:List Value}(h:a8 xs us):a8 xs.dropLast us.dropLast:=by
 induction h with
 |nil=>exact .nil
 |cons r t ih =>
  cases t with
  |nil=>exact .nil
  |cons q t'=>exact .cons r ih
theorem a8.eraseIdx:∀{xs:List V}{us:List Value}(i:Nat),a8 xs us->a8 (xs.eraseIdx i) (us.eraseIdx i)
 |_,_,_,.nil=>.nil
 |_,_,0,.cons _ t=>t
 |_,_,i+1,.cons r t=>.cons r (a8.eraseIdx i t)
theorem a8.rep{xs:List V}{us:List Value}(h:a8 xs us):∀k:Nat,a8 (ZF k xs).flatten (ZF k us).flatten
 |0=>.nil
 |k+1=>by
  rw[List.replicate_succ,List.replicate_succ,List.flatten_cons,List.flatten_cons];exact a8.append h (a8.rep h k)
theorem zF{α:Type}(l:List α):l.eraseIdx (l.length-1)=l.dropLast:=by
 induction l with
 |nil=>rfl
 |cons a r ih =>
  cases r with
  |nil=>rfl
  |cons b r =>
   have e:(a::b::r).length-1=((b::r).length-1)+1:=by
    have h1:(a::b::r).length=r.length+2:=rfl;have h2:(b::r).length=r.length+1:=rfl
    lia
   rw[e,List.eraseIdx_cons_succ,ih]
   all_goals rfl
theorem sX{α:Type}:∀(l:List α) (i:Nat),(l.eraseIdx i).length<=l.length
 |[],_=>ZC _
 |_::_,0=>Nat.le_succ _
 |_::r,i+1=>Nat.succ_le_succ (sX r i)
theorem foldl_rep(its:List Value):∀(k:Nat) (acc:List Value),
  List.foldl (λx1 x2=>x1++x2) acc.toArray (ZF k its.toArray)=(acc++(ZF k its).flatten).toArray
 |0,acc=>by simp
 |k+1,acc=>by
  have e:acc.toArray++its.toArray=(acc++its).toArray:=by simp
  have e2:(acc++its)++(ZF k its).flatten=acc++(ZF (k+1) its).flatten:=by
   rw[List.replicate_succ,List.flatten_cons,Yn]
  rw[<-e2,<-foldl_rep its k (acc++its),<-e,List.replicate_succ,List.foldl_cons]
section
variable{X:Cx}{pins:List (Addr×Obj)}{σ:St}{H:Hp}{s:Shared}{l b:Addr}{xs ys zs:List V}
theorem Inv.lset{its its':List Value}{n:Nat}{f:Array Value->Array Value}{t':Nat}(I:Inv X pins σ H s)(hH:H l=some (.lst xs))
  (e:s.heap.get? l=some { cls:=.type "list",data:=.seq its.toArray n }) (hf:f its.toArray=its'.toArray) (hv:a8 ys its') (hz:ys.length<=ZW) :
  Inv X pins σ (upd H l (.lst ys)) { s with heap:=s.heap.update l (Obj.mapSeq f),toks:=t' }:=by
 have q:=PySem.IsL.update e f;rw[hf]at q;refine I.write (x:=l) (e:=l) (by rw[hH];exact trivial) (.inl rfl) (λb' u hb hu=>(Heap.get?_update_other s.heap (Obj.mapSeq f) (Yh hb)).trans hu) ⟨_,q⟩ ?_;exact(fF hz its' _ hv q)
theorem Inv.lnew{its:List Value}{t':Nat}(I:Inv X pins σ H s)(hv:a8 ys its)(hz:ys.length<=ZW) :
  Inv X pins σ (upd H s.heap.objs.size (.lst ys)) { s with heap:=s.heap.push { cls:=.type "list",data:=.seq its.toArray },toks:=t' } :=
 I.laid (λ_ _ q=>YW _ q) (ZC _) (fF hz its 0 hv (YU _ rfl))
theorem Inv.fresh(I:Inv X pins σ H s):H s.heap.objs.size=none:=I.hok.fresh (ZC _)
theorem Inv.lstM(I:Inv X pins σ H s)(hH:H l=some (.lst xs)):xs.length<=ZW/\∃(its:List Value) (n:Nat),a8 xs its/\xs.length=its.length/\s.heap.get? l=some { cls:=.type "list",data:=.seq its.toArray n }:=by
 obtain⟨z,its,n,r,e⟩:=I.hok l _ hH;exact(i3 z its n r r.length e)
theorem vV{n:Nat}(h:n<=ZW):Builtin.List.listTooLong n=false:=by
 unfold Builtin.List.listTooLong;exact Yc (by lia)
end
section
variable{X:Cx}
def IB:V->List V->Hp->VK->Prop:=λx vs H Q=>x.gr λl=>LC vs λy y_r=>L0 y_r <| ∃xs,H l=some (.lst xs)/\xs.length<ZW/\Q .non (upd H l (.lst (xs++[y])))
theorem kP:MtM X "list.append" IB:=by
 intro pins s σ H x vs v us Q I rx rv h;obtain⟨l,rfl,z1⟩:=bN h;obtain⟨y,rfl,z2⟩:=KW z1;obtain⟨xs,hH,hz,q⟩:=z2;cases rx;obtain⟨u,rfl,ru⟩:=rv.one;obtain⟨z,its,n,r,hl,e⟩:=I.lstM hH;refine call_meets F.slot_list_append (xWP _ e rfl) F.entry_list_append (F.args_list_append_2 _ _) (PySem.list_append l its.toArray n u (by rw[ZE];lia)) ⟨e,?_⟩;refine(aH .non _ (I.lset (its':=its++[u]) hH e (by simp) (r.append (.cons ru .nil)) ?_) rfl q);rw[Zm,ZQ]
 lia
def IA:V->List V->Hp->VK->Prop:=λx vs H Q=>x.gr λl=>∃b xs zs,vs=[.ref b]/\H l=some (.lst xs)/\H b=some (.lst zs)/\xs.length+zs.length<=ZW/\Q .non (upd H l (.lst (xs++zs)))
theorem NH:MtM X "list.extend" IA:=by
 intro pins s σ H x vs v us Q I rx rv h;obtain⟨l,rfl,z1⟩:=bN h;obtain⟨b,xs,zs,rfl,hH,hB,hz,q⟩:=z1;cases rx;obtain⟨u,rfl,ru⟩:=rv.one;cases ru;obtain⟨z,its,n,r,hl,e⟩:=I.lstM hH;obtain⟨z2,its2,n2,r2,hl2,e2⟩:=I.lstM hB;have hsz:its.toArray.size+its2.toArray.size<=ZW:=by rw[ZE,ZE];lia
 have hlong:¬(!its.toArray.isEmpty&&Builtin.List.listTooLong (its.toArray.size+its2.toArray.size))=true:=by
  rw[vV hsz,Bool.and_false];exact YT
 refine call_meets F.slot_list_extend (xWP _ e rfl) F.entry_list_extend (F.args_list_extend_2 _ _)
  (AutoSeq1.list_extend_list_list_0 l its.toArray n b its2.toArray n2 hlong (by rw[ZE];lia) (by lia)) (xPP e e2 ?_)
 refine(aH .non _ (I.lset (its':=its++its2) hH e (by simp) (r.append r2) ?_) rfl q);rw[Zm]
 lia
def P8:V->List V->Hp->VK->Prop:=λx vs H Q=>x.gr λl=>L0 vs <| ∃xs y,H l=some (.lst xs)/\xs[xs.length-1]?=some y/\Q y (upd H l (.lst xs.dropLast))
theorem FP:MtM X "list.pop" P8:=by
 intro pins s σ H x vs v us Q I rx rv h;obtain⟨l,rfl,z1⟩:=bN h;obtain⟨rfl,z2⟩:=GR z1;obtain⟨xs,y,hH,hy,q⟩:=z2;cases rx;have hus:=rv.zero;subst hus;obtain⟨z,its,n,r,hl,e⟩:=I.lstM hH;obtain⟨u,hu,ru⟩:=r.get hy;have hy':its.toArray[its.toArray.size-1]?=some u:=by
  show its.toArray[its.length-1]?=some u;rw[<-Array.getElem?_toList,<-hl];exact hu
 refine call_meets F.slot_list_pop (xWP _ e rfl) F.entry_list_pop (F.args_list_pop_1 _) (MeetsSeq.list_pop_last l its.toArray n u hy' (by rw[ZE];lia)) ⟨e,?_⟩;refine(aH y _ (I.lset (its':=its.dropLast) hH e ?_ r.dropLast ?_) ru q)
 ·show its.toArray.eraseIdxIfInBounds (its.toArray.size-1)=its.dropLast.toArray;rw[ZE,List.eraseIdxIfInBounds_toArray,zF]
 ·rw[List.length_dropLast]
  lia
def LX:V->List V->Hp->VK->Prop:=λx vs H Q=>x.gr λl=>∃xs i k y,vs=[.int i]/\H l=some (.lst xs)/\-(2 ^ 63)<=i/\i<2 ^ 63/\seqIndex? i xs.length=some k/\xs[k]?=some y/\Q y (upd H l (.lst (xs.eraseIdx k)))
theorem vX:MtM X "list.pop" LX:=by
 intro pins s σ H x vs v us Q I rx rv h;obtain⟨l,rfl,z1⟩:=bN h;obtain⟨xs,i,k,y,rfl,hH,h1,h2,hk,hy,q⟩:=z1;cases rx;obtain⟨u,rfl,ru⟩:=rv.one;obtain⟨t,rfl⟩:=ru;obtain⟨z,its,n,r,hl,e⟩:=I.lstM hH;obtain⟨w,hw,rw'⟩:=r.get hy;refine call_meets F.slot_list_pop (xWP _ e rfl) F.entry_list_pop (F.args_list_pop_2 _ _)
  (MeetsSeq.list_pop_at l its.toArray n i t k w (fitsIndex_both h1 h2) (by rw[ZE,<-hl];exact hk) (by rw[<-Array.getElem?_toList];exact hw) (by rw[ZE];lia)) ⟨e,?_⟩
 refine(aH y _ (I.lset (its':=its.eraseIdx k) hH e ?_ (r.eraseIdx k) ?_) rw' q)
 ·show its.toArray.eraseIdxIfInBounds k=(its.eraseIdx k).toArray;rw[List.eraseIdxIfInBounds_toArray]
 ·have:=sX xs k
  lia
def QA:R2:=λx y H Q=>x.gr λl=>y.gr λb=>∃xs zs,H l=some (.lst xs)/\H b=some (.lst zs)/\xs.length+zs.length<=ZW/\∀p,H p=none->Q (.ref p) (upd H p (.lst (xs++zs)))
theorem qN:OpR X (binaryOp .Add) QA:=by
 intro pins s σ H x y v u Q I rx ry h;obtain⟨l,rfl,z1⟩:=bN h;obtain⟨b,rfl,z2⟩:=bN z1;obtain⟨xs,zs,hH,hB,hz,q⟩:=z2;cases rx;cases ry;obtain⟨z,its,n,r,hl,e⟩:=I.lstM hH;obtain⟨z2,its2,n2,r2,hl2,e2⟩:=I.lstM hB;refine PySem.P.add_list e e2 ?_ (by rw[ZE,ZE];lia);have ea:its.toArray++its2.toArray=(its++its2).toArray:=by simp
 rw[ea];exact(aH (.ref _) _ (I.lnew (t':=s.toks) (r.append r2) (by rw[Zm];lia)) rfl (q _ I.fresh))
def P7:R2:=λx y H Q=>x.gr λl=>y.gi λk=>∃xs,H l=some (.lst xs)/\-(2 ^ 63)<=k/\k<2 ^ 63/\xs.length*k.toNat<=ZW /\
 ∀p,H p=none->Q (.ref p) (upd H p (.lst (ZF k.toNat xs).flatten))
theorem len_rep{α:Type}(xs:List α)(k:Nat):(ZF k xs).flatten.length=k*xs.length:=by
 induction k with
 |zero=>simp
 |succ k ih=>rw[List.replicate_succ,List.flatten_cons,Zm,ih,Nat.succ_mul,Nat.add_comm]
theorem t9:OpR X (binaryOp .Mult) P7:=by
 intro pins s σ H x y v u Q I rx ry h;obtain⟨l,rfl,z1⟩:=bN h;obtain⟨k,rfl,z2⟩:=cU z1;obtain⟨xs,hH,h1,h2,hz,q⟩:=z2;cases rx;obtain⟨t,rfl⟩:=ry;obtain⟨z,its,n,r,hl,e⟩:=I.lstM hH;have hlen:its.toArray.size*k.toNat<=ZW:=by rw[ZE,<-hl];exact hz
 have hcap:¬its.toArray.size*k.toNat>(2 ^ 63-1) / 8:=by
  have:(ZW:Nat)<=(2 ^ 63-1) / 8:=by decide
  lia
 have hfit:¬(!Builtin.List.listFitsIndex k)=true:=by
  rw[fitsIndex_both h1 h2];exact YT
 have hlong:¬Builtin.List.listTooLong (its.toArray.size*k.toNat)=true:=by
  rw[vV hlen];exact YT
 have hnew:List.foldl (λx1 x2=>x1++x2) #[] (ZF (if its.toArray.isEmpty=true then 0 else k.toNat) its.toArray)=(ZF k.toNat its).flatten.toArray:=by
  have f0:∀m:Nat,List.foldl (λx1 x2=>x1++x2) #[] (ZF m its.toArray)=(ZF m its).flatten.toArray:=λm=>by
   have:=foldl_rep its m [];rw[List.nil_append]at this;exact this
  rw[f0];cases its with
  |nil=>simp
  |cons a r'=>rw[Ya (by simp)]
 refine wpAny_binaryOp_repeat_ref (T:="list") (U:="int") (by decide) (xWP _ e rfl) (λs'=>typeIs_int s' k t) noFill_list_mul F.fills_int_mul F.slot_int_rmul repeat_list F.slot_int_index.lookup
  (call_meets F.slot_int_rmul (typeIs_int s k t) F.entry_int_rmul (F.args_int_rmul_2 _ _) (int___rmul___int_list k t l its.toArray n)
   (cH e rfl (xWP _ e rfl) (call_meets F.slot_list_mul (xWP _ e rfl) F.entry_list_mul (F.args_list_mul_2 _ _) (AutoListH.list___mul___list_int_3 l its.toArray n k t hfit hcap hlong) ⟨e,?_⟩)))
 rw[hnew];exact(aH (.ref _) _ (I.lnew (t':=s.toks) (r.rep k.toNat) (by rw[len_rep,Nat.mul_comm];exact hz)) rfl (q _ I.fresh))
end
section
variable{prog:Program}{w:World}{A:Around}{E:Value->Shared->Prop}{s:Shared}
end
section
variable{X:Cx}
end
end L2
namespace Att
open PySem PySem.W PySem.Calls PyProof.Rows
theorem oU{P:Params}{h:Heap}:∀(ns:List Int) (vs:List Value),WellAll P h vs (ns.map WData.int)->IntsAre vs ns:=by
 intro ns;induction ns with
 |nil =>
  intro vs w;rw[List.map_nil]at w;cases w;exact .nil
 |cons n ns ih =>
  intro vs w;rw[ZI]at w;cases w with
  |cons a b =>
   cases a;exact .cons _ _ (ih _ b)
theorem BY{l:OpenLaw}{n:Nat}(hn:l.most=some n){P:Params}{h:Heap}{args:List WData}{vals:List Value}
  (hpre:l.row.toRowW.claim.pre args=true) (hwl:WellAll P h vals args) :
  ∃a vs ns,vals=[Value.ref a]/\args=[WData.list (ns.map WData.int)]/\h.get? a=some { cls:=.type "list",data:=.seq vs.toArray }/\IntsAre vs ns/\ns.length<=n:=by
 have hsh:WShape.hasAll [] args [.list .int]=true:=(pre_splitW hpre).1;have hc:l.pre.holds [] { args:=args }=true:=(pre_splitW hpre).2;obtain⟨d,r,rfl,h1,h2⟩:=hasAllW_cons hsh;obtain rfl:=hasAllW_nil h2;obtain⟨xs,rfl,h3⟩:=hasW_list h1;obtain⟨ns,rfl⟩:=items_int h3;have hlen:ns.length<=n:=by
  unfold OpenLaw.pre at hc;have h4:(WTm.not (.lt (.lit (.int (n:Int))) (.len (.arg 0)))).holds [] { args:=[.list (ns.map .int)] }=true:=by
   have h4:=(holds_andW hc).1;rw[hn]at h4;exact h4
  have h5:=condW_of h4 (w_not (w_lt w_lit (w_len_list (w_arg rfl))));rw[Zq]at h5;refine Nat.le_of_not_lt λq=>?_;have q':(n:Int)<((ns.length:Nat):Int):=by omega
  first
   |(rw[Ye q']at h5;exact Yg h5 (by decide))
   |(simp at h5;omega)
 cases hwl with
 |cons w1 w2 =>
  cases w2;cases w1 with
  |list ho hall=>exact(dY _ _ ns rfl rfl ho (oU ns _ hall) hlen)
theorem B1(l:OpenLaw)(args:List WData):l.row.toRowW.claim.post args (.bool true) args=true :=
 postW_of (r:=l.row.toRowW) (X:=(true==true))
  (show WShape.has [] (.bool true) .bool=true by first | rfl | decide | simp[WShape.has,WShape.arms,WShape.armsAll])
  (show(WTm.eq .res (.lit (.bool true))).value [] { args:=args,res:=some (.bool true),after:=args }=some (.bool (true==true)) from w_eq_bool (w_res rfl) w_lit) rfl
theorem xC{l:OpenLaw}{n:Nat}{q:Program}{loose:List Str}{XP:(Str->Option Value)->Heap->Prop}{YP:World->Heap->Prop}{d:DefRec}
  (hn:l.most=some n) (hdf:d.params.defaults=[])
  (call:∀(w:World) (s₀ s₁:Shared) (mg mb:Str->Option Value) (fa:Addr) (o:Obj) (pm cd doc:Value) (a:Addr) (vs:List Value) (ns:List Int),
   Ground q loose [] XP w s₀ mg mb s₁.heap->YP w s₁.heap ->
   s₁.heap.get? fa=some o->o.data=.func (docDef d.name d.params d.body d.scope pm cd doc)->s₁.heap.CodeRec cd d.name->mg d.name=some (.ref fa) ->
   s₁.heap.get? a=some { cls:=.type "list",data:=.seq vs.toArray }->IntsAre vs ns->ns.length<=n->s₁.gens=#[] ->
   codeAny (model l.prog w) callerA (.call (.ref fa) ⟨[.ref a],[]⟩) (λr s'=>r=.ok (.ret (.bool true))/\OldK s₁.heap s'.heap/\s'.os=s₁.os/\AllBare s'.gens) s₁) :
  WalkO q loose XP YP l.row.toRowW d [] (λf vs=>PySem.call f vs):=by
 intro w s₀ s₁ mg mb G Y fa o pm cd doc dV kV ho hd hcd hD hmg hg args vals as hpre hlay hrd hwl hlo;obtain rfl:dV=.none:=Dflts.none hD hdf;obtain rfl:kV=.none:=Dflts.noKw hD;obtain⟨a,vs,ns,rfl,rfl,hobj,hints,hlen⟩:=BY hn hpre hwl;refine enter_call (codeAny_mono (call w s₀ s₁ mg mb fa o pm cd doc a vs ns G Y ho (fd_plain hd) hcd hmg hobj hints hlen hg) λr s' hq=>?_);obtain⟨rfl,h2,h3,h4⟩:=hq;exact(cH (.inl (dY (.bool true) (.bool true) ([]) rfl (λ_=>rfl) (.bool true) (B1 l _) (λ_=>⟨List.Pairwise.nil,λ_ hm=>(nomatch hm)⟩))) h2 h3 h4)
section
variable{prog:Program}{w:World}{A:Around}{E:Value->Shared->Prop}{s:Shared}{K:Frag}
end
end Att
namespace L2
open PySem PySem.Spec PyProof.Rows
theorem kJ:∀{vs:List Value}{ns:List Int},IntsAre vs ns->a8 (ns.map V.int) vs
 |_,_,.nil=>.nil
 |_,_,.cons n t h=>.cons ⟨t,rfl⟩ (kJ h)
def J4(H:Hp):Prop:=∀b,H b=none\/∃o xs,H b=some (.frz o (.lst xs))
theorem FS{P:Program}{w:World}{K:PySem.W.Frag}{mg mb:Str->Option Value}{CX:CXT}{k:Nat}{fa a:Addr}{fd:FuncData}{x:Str}{sp:Sp}{s₁:Shared}{vs:List Value}{ns:List Int}
  (KX:K.In s₁.heap) (hns:s₁.heap.Ns ZV mg) (hb:s₁.heap.Ns builtinsNs mb) (hbb:∀x:Str,x≠"__name__"->mb x=bootBuiltins x) (hlim:s₁.heap.NoLimit) (hg:s₁.gens=#[])
  (ha:s₁.heap.get? a=some { cls:=.type "list",data:=.seq vs.toArray }) (hi:IntsAre vs ns) (hl:ns.length<=ZW) (hr:fM k callerA)
  (F:∀base:Heap,K.In base->base.Ns ZV mg->jE P w K mg base CX k fa fd [x] sp) (hbind:∀(s:Shared) (u:Value),BindsTo s fd ⟨[u],[]⟩ [(x,u)])
  (hkl:∀o,K.lookup a=some o->o.cls≠.type "list") (hsp:∀H:Hp,J4 H->SqL H a (ns.map V.int)->sp [.ref a] H (λv _=>v=.bl true) λ_ _ _=>False)
  (hCX:∀H e s',CX [] H s₁ (λ_ _ _=>False) e s'->False) :
  codeAny (model P w) callerA (.call (.ref fa) ⟨[.ref a],[]⟩) (λr s'=>r=.ok (.ret (.bool true))/\OldK s₁.heap s'.heap/\s'.os=s₁.os/\AllBare s'.gens) s₁:=by
 have rv:=kJ hi;have lenV:=hi.length;have core:∀H:Hp,J4 H->SqL H a (ns.map V.int)->HOk P w H s₁.heap->(∀b,H b≠none->b=a)->(H a≠none->K.lookup a=none) ->
   codeAny (model P w) callerA (.call (.ref fa) ⟨[.ref a],[]⟩) (λr s'=>r=.ok (.ret (.bool true))/\OldK s₁.heap s'.heap/\s'.os=s₁.os/\AllBare s'.gens) s₁:=by
  intro H hO hS hok hA hK;have base_of:∀{b:Addr}{o:Obj},s₁.heap.get? b=some o->H b=none->(uQ s₁.heap H).get? b=some o:=λe n=>FY e n;have noA:∀{b:Addr}{o:Obj}{es:Array DictEntry}{ep:Nat},s₁.heap.get? b=some o->o.data=.dict es ep->H b=none:=λ{b o es ep} e d=>by
   cases q:H b with
   |none=>rfl
   |some u =>
    have e':b=a:=hA b (by rw[q];simp);subst e';rw[ha]at e;cases e;have d':Data.seq vs.toArray _=Data.dict es ep:=d;cases d'
  have nsK:∀{b:Addr}{m:Str->Option Value},s₁.heap.Ns b m->(uQ s₁.heap H).Ns b m:=λ{b m} ⟨o,es,ep,e,d,r⟩=>(iY o es ep (base_of e (noA e d)) d r)
  have hKb:K.In (uQ s₁.heap H):=λb o e=>base_of (KX b o e) (by
   cases q:H b with
   |none=>rfl
   |some u =>
    have e':b=a:=hA b (by rw[q];simp);subst e';rw[hK (by rw[q];simp)]at e;cases e)
  have hM:Mod K mg (uQ s₁.heap H):=⟨hKb,nsK hns,(xWP mb (nsK hb) hbb),let⟨mc,h1,h2⟩:=hlim;(xWP mc (nsK h1) h2)⟩
  have e0:zL P w K mg (uQ s₁.heap H) callerA [] s₁ H:=⟨rfl,hM,λb o e=>JD e,Nat.le_of_eq (CO _ _),trivial,λb hb=>Yg (show b∈([]:List Addr) from hb) (by simp),hok,.of_eq hg⟩
  refine codeAny_mono ((F _ hKb (nsK hns)).run callerA [] s₁ H ⟨[.ref a],[]⟩ [.ref a] [.ref a] _ _ hr e0 (hbind s₁ (.ref a)) (.cons rfl .nil) (hsp H hO hS)) λr s' h=>?_;cases r with
  |error e=>exact(hCX H e s' h).elim
  |ok fl =>
   cases fl with
   |next=>exact False.elim h
   |brk=>exact False.elim h
   |cont=>exact False.elim h
   |ret u =>
    obtain⟨v,H',os,bare,un,hok',r',q⟩:=h;have q':v=.bl true:=q;subst q';obtain rfl:u=Value.bool true:=r';refine(cH rfl (OldK.of_keep λb o e=>?_) os bare);cases q:H b with
    |none=>exact un.keep b o e q (by intro z;exact Yg (show b∈([]:List Addr) from z) (by simp)) (by simp)
    |some u =>
     rcases hO b with z | ⟨ob,xs,z⟩
     ·rw[q]at z;cases z
     ·have z2:=un.frzs b ob _ z;obtain⟨e1,_⟩:=hok b _ z;obtain⟨e2,_⟩:=hok' b _ z2;rw[e]at e1;cases e1;exact e2
 cases hk:K.lookup a with
 |some o =>
  exact Yg (by have e:=KX a o hk;rw[ha]at e;cases e;rfl) (hkl o hk)
 |none =>
  refine core (λb=>if b=a then some (.frz { cls:=.type "list",data:=.seq vs.toArray } (.lst (ns.map V.int))) else none) (λb=>?_) (.inr ⟨{ cls:=.type "list",data:=.seq vs.toArray },Yb rfl⟩) (λb u z=>?_) (λb z=>?_) λ_=>hk
  ·by_cases hb:b=a
   ·exact .inr (xWW _ _ (Yb hb))
   ·exact .inl (Ya hb)
  ·by_cases hb:b=a
   ·have z':=(Yb hb).symm.trans z;cases z';subst hb;exact(C7 ha (by rw[Zq];exact hl) vs _ rv ha)
   ·have z':=(Ya hb).symm.trans z;cases z'
  ·by_cases hb:b=a
   ·exact hb
   ·exact Yg (Ya hb) z
theorem G1{l:PySem.W.OpenLaw}{n k:Nat}{q:Program}{loose:List Str}{XP:(Str->Option Value)->Heap->Prop}{YP:World->Heap->Prop}{d:DefRec}{K:Params->PySem.W.Frag}{CX:World->CXT}{sp:World->Sp}{x:Str}
  (hn:l.most=some n) (hn2:n<=ZW) (hdf:d.params.defaults=[]) (hr:fM k callerA)
  (hY:∀(w:World) (h:Heap),YP w h->(K w.params).In h)
  (F:∀(w:World) (mg:Str->Option Value) (fa:Addr) (h:Heap),(K w.params).In h->h.Ns ZV mg->mg d.name=some (.ref fa) ->
   ∃fd:FuncData,(∀(s:Shared) (u:Value),BindsTo s fd ⟨[u],[]⟩ [(x,u)]) /\
    ∀base:Heap,(K w.params).In base->base.Ns ZV mg->jE l.prog w (K w.params) mg base (CX w) k fa fd [x] (sp w))
  (hkl:∀(w:World) a o,(K w.params).lookup a=some o->o.cls≠.type "list") (hsp:∀(w:World) (H:Hp) (a:Addr) (ns:List Int),ns.length<=n->J4 H->SqL H a (ns.map V.int)->sp w [.ref a] H (λv _=>v=.bl true) λ_ _ _=>False)
  (hCX:∀(w:World) (H:Hp) (s:Shared) (e:Value) (s':Shared),CX w [] H s (λ_ _ _=>False) e s'->False) :
  PySem.W.WalkO q loose XP YP l.row.toRowW d [] (λf vs=>PySem.call f vs):=by
 refine Att.xC hn hdf λw s₀ s₁ mg mb fa o pm cd doc a vs ns G Y ho hd hcd hmg hobj hints hlen hg=>?_;have KX:=hY w _ Y;obtain⟨fd,hb,hF⟩:=F w mg fa _ KX G.T.g hmg;exact FS KX G.T.g G.T.b G.T.builtins G.T.nolimit hg hobj hints (YQ hlen hn2) hr hF hb (hkl w a) (λH hO hS=>hsp w H a ns hlen hO hS) λH e s'=>hCX w H s₁ e s'
def inClass(s:Stmt)(j:Nat):Stmt:=match s with
 |.ClassDef _ _ _ body _ _ _ _ _ _ _=>body.getD j (.Pass ⟨0,0,0,0⟩)
 |_=>.Pass ⟨0,0,0,0⟩
def fK(s:Stmt):Arguments:=match s with
 |.FunctionDef _ a _ _ _ _ _ _ _ _=>a
 |_=>{ posonlyargs:=[],args:=[],vararg:=none,kwonlyargs:=[],kw_defaults:=[],kwarg:=none,defaults:=[] }
def dU(s:Stmt):List Stmt:=match s with
 |.FunctionDef _ _ b _ _ _ _ _ _ _=>b
 |_=>[]
def bJ(s:Stmt):Scope:=match s with
 |.FunctionDef _ _ _ _ _ _ sc _ _ _=>sc
 |_=>{ kind:=.function,names:=[],isGenerator:=false,isCoroutine:=false }
abbrev CX0:CXT:=λ_ _ _ _ _ _=>False
abbrev E0:XK:=λ_ _ _=>False
theorem aZ{X:Cx}:oG CX0 X E0:=λ_ _ _ _ _ _ _ h=>h.elim
structure Fun(K:PySem.W.Frag)(x qual:Str)(st:Stmt)(f:Addr)(fd:FuncData):Prop where
 ex:∃(oc:Value) (od:Option Addr) (kV doc pm:Value) (an:Option Addr) (cdv ct:Value) (osl:Array (Option Value)),
  fd=PySem.W.fnOf x qual (fK st) (dU st) (bJ st) .none kV doc pm an cdv ct/\K.lookup f=some ⟨oc,od,.func fd,osl⟩/\PySem.W.codeIn K cdv qual=true
 kp:PySem.W.keepIn K (.ref f)=true
section
variable{P:Program}{w:World}{K:PySem.W.Frag}{mg:Str->Option Value}{base:Heap}
theorem Fun.ok{x qual:Str}{st:Stmt}{f:Addr}{fd:FuncData}{N ps:List Str}{k:Nat}{sp:Sp}(F:Fun K x qual st f fd)(S:cV N ps (bJ st))(len:∀vs H Q E,sp vs H Q E->vs.length=ps.length)
  (hbody:∀(cdv:Value) (A:Around) (outer:List Env) (s:Shared) (H:Hp) (vs:List V) (Q:VK) (E:XK),fM k (A.deeper (envOfC qual (bJ st) s.heap.objs.size f cdv))->sp vs H Q E ->
   ∃t,PSs (wU CX0 P w K mg base N qual (bJ st) f cdv A outer s H E).nox (dU st) t/\t { nx:=λ_ H'=>Q .non H',rt:=Q } (start N vs) H):jE P w K mg base CX0 (k+1) f fd ps sp:=by
 obtain⟨oc,od,kV,doc,pm,an,cdv,ct,osl,rfl,lk,hcd⟩:=F.ex;refine OU lk hcd S len λA outer s H vs Q E hr hsp=>?_;obtain⟨t,h,q⟩:=hbody cdv A outer s H vs Q E hr hsp;exact(xWP t h.nox q)
theorem Fun.binds{x qual:Str}{st:Stmt}{f:Addr}{fd:FuncData}{ps:List Str}(F:Fun K x qual st f fd)
  (h:∀(kV doc pm:Value) (an:Option Addr) (cdv ct:Value) (us:List Value),us.length=ps.length->bindArgs (PySem.W.fnOf x qual (fK st) (dU st) (bJ st) .none kV doc pm an cdv ct) ⟨us,[]⟩=pure (ps.zip us)):Binds K fd ps []:=by
 obtain⟨oc,od,kV,doc,pm,an,cdv,ct,osl,rfl,lk,hcd⟩:=F.ex;exact .all (h kV doc pm an cdv ct)
theorem zD{x qual:Str}{st:Stmt}{f:Addr}{oc:Value}{od an:Option Addr}{osl:Array (Option Value)}{kV doc pm cdv ct:Value}(l:K.lookup f=some ⟨oc,od,.func (PySem.W.fnOf x qual (fK st) (dU st) (bJ st) .none kV doc pm an cdv ct),osl⟩)
  (c:PySem.W.codeIn K cdv qual=true) (k:PySem.W.keepIn K (.ref f)=true):Fun K x qual st f (PySem.W.fnOf x qual (fK st) (dU st) (bJ st) .none kV doc pm an cdv ct):=⟨(b8 oc od kV doc pm an cdv ct osl (xPP rfl l c)),k⟩
end
theorem AV{A:Around}{k:Nat}(hr:fM k A):A.units+1<cLine:=Xq (Nat.add_le_add_left (by decide:1<=64) _) hr.units
section
variable{X:Cx}
theorem pv(i:Nat){x:Str}{pos:Pos}(hN:X.N[i]?=some x:=by rfl)(hv:Vis X.env.scope x:=by first | exact Or.inl rfl | exact Or.inr (Or.inl rfl) | exact Or.inr (Or.inr rfl))(hd:(x==("__debug__" : Str))=false:=by decide)
  (hcd:(x==("__classdict__" : Str))=false:=by decide):PE X (.Name x pos) (G7 i):=L6 hN hv hd hcd
end
theorem i2{c:Bool}{A B:Prop}(h1:c=true->A)(h2:¬c=true->B):If c A B:=⟨h1,λz=>h2 (by rw[z];decide)⟩
theorem iFb{c:Bool}{A B:Prop}(hc:c=false)(h:B):If c A B:=by subst hc;exact iF h
theorem iTb{c:Bool}{A B:Prop}(hc:c=true)(h:A):If c A B:=by subst hc;exact iT h
theorem iNS{c A B:Prop}[Decidable c](hc:c)(h:B):If (!decide c) A B:=by rw[Ye hc];exact iF h
def aJ(H H':Hp):Prop:=∀b o,H b=some o->H' b=some o
theorem aJ.refl(H:Hp):aJ H H:=λ_ _ h=>h
theorem aJ.trans{H H1 H2:Hp}(a:aJ H H1)(b:aJ H1 H2):aJ H H2:=λc o h=>b c o (a c o h)
theorem aJ.free{H H':Hp}(e:aJ H H'){l:Addr}(h:H' l=Option.none):H l=Option.none:=by
 cases q:H l with
 |none=>rfl
 |some o =>
  rw[e l o q]at h;cases h
theorem aJ.seq{H H':Hp}{a:Addr}{xs:List V}(e:aJ H H')(h:SqL H a xs):SqL H' a xs:=by
 rcases h with h | ⟨o,h⟩
 ·exact .inl (e _ _ h)
 ·exact .inr ⟨o,e _ _ h⟩
end L2
set_option Elab.async false
set_option linter.all false
set_option maxRecDepth 100000
set_option maxHeartbeats 4000000
namespace L2
open PySem PySem.Spec PyProof.Rows
def iW(cells:List (Str×Addr)):List (Str×NameKind)->List (Str×Addr)->List (Str×Addr)
 |[],cs=>cs
 |x::r,cs=>iW cells r (if x.2=.free then ((cells.lookup x.1).map λc=>(x.1,c)).toList++cs else cs)
theorem lC{scope:Scope}{env:Env}(h:∀x∈scope.names,x.2=.free->∃c,env.cells.lookup x.1=some c) :
  closureFor scope env=pure (iW env.cells scope.names []):=by
 have key:∀(l:List (Str×NameKind)) (cs:List (Str×Addr)) (f:Str×NameKind->List (Str×Addr)->Sem (ForInStep (List (Str×Addr)))),
   (∀x∈l,x.2=.free->∃c,env.cells.lookup x.1=some c) ->
   (∀x cs,f x cs=if (x.2==NameKind.free)=true then (cellOf env x.1 >>= λa=>pure (ForInStep.yield ((x.1,a)::cs))) else pure (ForInStep.yield cs)) ->
   forIn l cs f=pure (iW env.cells l cs):=by
  intro l;induction l with
  |nil=>intro cs f _ _;rfl
  |cons x r ih =>
   intro cs f hx hf;rw[List.forIn_cons,hf];by_cases hk:x.2=.free
   ·obtain⟨c,hc⟩:=hx x Zd hk;rw[Yb (by simp[hk])];have e:cellOf env x.1=pure c:=by unfold cellOf;rw[hc]
    rw[e];simp only[pure_bind];rw[ih _ f (λy hy=>hx y (Zw _ hy)) hf];show _=pure (iW env.cells r (if x.2=.free then ((env.cells.lookup x.1).map λc=>(x.1,c)).toList++cs else cs));rw[Yb hk,hc];rfl
   ·rw[Ya (by simp[hk])];simp only[pure_bind];rw[ih _ f (λy hy=>hx y (Zw _ hy)) hf];show _=pure (iW env.cells r (if x.2=.free then ((env.cells.lookup x.1).map λc=>(x.1,c)).toList++cs else cs));rw[Ya hk]
 simp only[closureFor];rw[key scope.names [] _ h (λx cs=>by obtain⟨n,k⟩:=x;rfl)]
 first | rfl | simp only[pure_bind]
theorem uT{cells:List (Str×Addr)}:∀(l:List (Str×NameKind)) (cs:List (Str×Addr)) {x:Str}{c:Addr},(iW cells l cs).lookup x=some c->cs.lookup x=some c\/cells.lookup x=some c
 |[],_,_,_,h=>.inl h
 |y::r,cs,x,c,h=>by
  have h':(iW cells r (if y.2=.free then ((cells.lookup y.1).map λc=>(y.1,c)).toList++cs else cs)).lookup x=some c:=h;rcases uT r _ h' with q | q
  ·by_cases hk:y.2=.free
   ·rw[Yb hk]at q;cases hl:cells.lookup y.1 with
    |none=>rw[hl]at q;exact .inl q
    |some d =>
     rw[hl]at q;have q':(((y.1,d)::cs).lookup x)=some c:=q;rw[List.lookup_cons]at q';cases hb:x==y.1 with
     |true =>
      rw[hb]at q';have e:=Yi hb;subst e
      right
      rw[hl];exact q'
     |false=>rw[hb]at q';exact .inl q'
   ·rw[Ya hk]at q;exact .inl q
  ·exact .inr q
theorem wZ{cells:List (Str×Addr)}:∀(l:List (Str×NameKind)) (cs:List (Str×Addr)) (x:Str),((x,NameKind.free)∈l/\∃c,cells.lookup x=some c)\/(∃c,cs.lookup x=some c)->∃c,(iW cells l cs).lookup x=some c
 |[],cs,x,h=>by
  rcases h with⟨q,_⟩ | q
  ·cases q
  ·exact q
 |y::r,cs,x,h=>by
  show ∃c,(iW cells r (if y.2=.free then ((cells.lookup y.1).map λc=>(y.1,c)).toList++cs else cs)).lookup x=some c;apply wZ r;rcases h with⟨q,c,hc⟩ | ⟨c,hc⟩
  ·rcases Zn.mp q with q | q
   ·right
    subst q;rw[Yb rfl,hc];refine⟨c,?_⟩;show((x,c)::cs).lookup x=some c;rw[List.lookup_cons];simp
   ·exact .inl ⟨q,c,hc⟩
  ·right
   by_cases hk:y.2=.free
   ·rw[Yb hk];cases hl:cells.lookup y.1 with
    |none=>exact⟨c,hc⟩
    |some d =>
     show ∃c,((y.1,d)::cs).lookup x=some c;rw[List.lookup_cons];cases hb:x==y.1 with
     |true=>exact⟨d,rfl⟩
     |false=>exact⟨c,hc⟩
   ·rw[Ya hk];exact⟨c,hc⟩
theorem lN{env:Env}:∀{names:List (Str×NameKind)}{x:Str}{k':NameKind},
  (names.map λ(n,k)=>if (k==NameKind.free&&env.scope.kind==.function&&env.kindOf n==some .cell) then (n,NameKind.cell) else (n,k)).lookup x=some k' ->
  ∃k,(x,k)∈names/\(k=k'\/(k=.free/\k'=.cell))
 |[],_,_,h=>by simp at h
 |(n,k)::r,x,k',h=>by
  have ih:=@lN env r x k';have h':List.lookup x ((if (k==NameKind.free&&env.scope.kind==.function&&env.kindOf n==some .cell)=true then (n,NameKind.cell) else (n,k))::_)=some k':=h;by_cases hc:(k==NameKind.free&&env.scope.kind==.function&&env.kindOf n==some .cell)=true
  ·rw[Yb hc,List.lookup_cons]at h';cases hb:x==n with
   |true =>
    rw[hb]at h';have e:=Yi hb;subst e;cases h';refine(xWP k Zd (.inr ⟨?_,rfl⟩));simp only[Xg]at hc;exact Yi hc.1.1
   |false =>
    rw[hb]at h';obtain⟨k2,q,z⟩:=ih h';exact(xWP k2 (Zw _ q) z)
  ·rw[Ya hc,List.lookup_cons]at h';cases hb:x==n with
   |true =>
    rw[hb]at h';have e:=Yi hb;subst e;cases h';exact(xWP k Zd (.inl rfl))
   |false =>
    rw[hb]at h';obtain⟨k2,q,z⟩:=ih h';exact(xWP k2 (Zw _ q) z)
theorem mE{env:Env}:∀{names:List (Str×NameKind)}{x:Str},names.lookup x=some .free ->
  (names.map λ(n,k)=>if (k==NameKind.free&&env.scope.kind==.function&&env.kindOf n==some .cell) then (n,NameKind.cell) else (n,k)).lookup x=some .cell \/
  (names.map λ(n,k)=>if (k==NameKind.free&&env.scope.kind==.function&&env.kindOf n==some .cell) then (n,NameKind.cell) else (n,k)).lookup x=some .free
 |[],_,h=>by simp at h
 |(n,k)::r,x,h=>by
  have ih:=@mE env r x;show List.lookup x ((if (k==NameKind.free&&env.scope.kind==.function&&env.kindOf n==some .cell)=true then (n,NameKind.cell) else (n,k))::_)=some .cell \/
   List.lookup x ((if (k==NameKind.free&&env.scope.kind==.function&&env.kindOf n==some .cell)=true then (n,NameKind.cell) else (n,k))::_)=some .free
  rw[List.lookup_cons]at h;by_cases hc:(k==NameKind.free&&env.scope.kind==.function&&env.kindOf n==some .cell)=true
  ·rw[Yb hc];simp only[List.lookup_cons];cases hb:x==n with
   |true=>exact .inl rfl
   |false=>rw[hb]at h;exact ih h
  ·rw[Ya hc];simp only[List.lookup_cons];cases hb:x==n with
   |true=>rw[hb]at h;exact .inr h
   |false=>rw[hb]at h;exact ih h
def Cx.comp(X:Cx)(N:List Str)(scope:Scope)(cl:List (Str×Addr))(C:Addr)(fp:List Addr)(s:Shared)(H:Hp):Cx :=
 { prog:=X.prog,w:=X.w,K:=X.K,mg:=X.mg,base:=X.base,A:=X.A,N:=N,s₀:=s,H₀:=H,env:=compEnvC scope cl C X.env,outer:=X.stack,stack:=X.stack,ex:=fp,fn:=λ_=>false,calm:=X.calm,pn:=[],xe:=λ_ _=>False }
def inner(js:List (Option Nat))(σ:St):St:=js.map λo=>match o with
 |none=>none
 |some j=>(σ[j]?).getD none
def uP(N:List Str)(scope:Scope):List Str->List (Option Nat)->Bool
 |[],[]=>true
 |x::r,o::q=>(match o with | none=>true | some j=>N[j]?==some x&&scope.names.lookup x==some .free)&&uP N scope r q
 |_,_=>false
theorem wI{N:List Str}{scope:Scope}:∀{N':List Str}{js:List (Option Nat)},uP N scope N' js=true->js.length=N'.length
 |[],[],_=>rfl
 |_::r,_::q,h=>by
  have h':=(Bool.and_eq_true_iff.mp h).2;rw[Yq,Yq,wI h']
theorem AU{N:List Str}{scope:Scope}:∀{N':List Str}{js:List (Option Nat)}{i:Nat}{x:Str}{j:Nat},uP N scope N' js=true->N'[i]?=some x->js[i]?=some (some j)->N[j]?=some x/\scope.names.lookup x=some .free
 |[],[],_,_,_,_,h,_=>by simp at h
 |y::r,o::q,0,x,j,h,h1,h2=>by
  have h':=(Bool.and_eq_true_iff.mp h).1;simp at h1 h2;subst h1 h2;have h'':=Bool.and_eq_true_iff.mp h';exact⟨Yi h''.1,Yi h''.2⟩
 |y::r,o::q,i+1,x,j,h,h1,h2=>by
  have h':=(Bool.and_eq_true_iff.mp h).2;exact AU (i:=i) h' (by simpa using h1) (by simpa using h2)
theorem FV{js:List (Option Nat)}{σ:St}{i:Nat}{v:V}(h:(inner js σ)[i]?=some (some v)):∃j,js[i]?=some (some j)/\σ[j]?=some (some v):=by
 unfold inner at h;rw[Zk]at h;cases e:js[i]? with
 |none=>rw[e]at h;cases h
 |some o =>
  rw[e]at h;cases o with
  |none=>cases h
  |some j =>
   refine(xWP j rfl ?_);have h':(σ[j]?).getD none=some v:=by simpa using h
   cases q:σ[j]? with
   |none=>rw[q]at h';cases h'
   |some z=>rw[q]at h';simp at h';rw[h']
structure Fills(σ σ':St):Prop where
 len:σ.length=σ'.length
 at_:∀(i:Nat) v,σ[i]?=some (some v)->σ'[i]?=some (some v)
theorem Fills.refl(σ:St):Fills σ σ:=⟨rfl,λ_ _ h=>h⟩
theorem Fills.set{σ σ':St}(f:Fills σ σ'){i:Nat}(x:V)(h:σ[i]?=some none):Fills σ (σ'.set i (some x)):=by
 refine⟨by rw[ZP];exact f.len,λj v q=>?_⟩;by_cases e:i=j
 ·subst e;rw[h]at q;cases q
 ·rw[ZJ e];exact f.at_ j v q
section
variable{X:Cx}{pins:List (Addr×Obj)}{σ:St}{H:Hp}{s:Shared}
theorem GG{N':List Str}{js:List (Option Nat)}{scope:Scope}{fp:List Addr}{m:Str->Option Value}{h1:Heap}{tk:Nat}(I:Inv X pins σ H s)
  (hk:scope.kind=.function) (hcell:∀y∈scope.names,y.2≠.cell) (hfree:∀y∈scope.names,y.2=.free->X.env.kindOf y.1=some .cell\/X.env.kindOf y.1=some .free) (hjs:uP X.N scope N' js=true)
  (fpok:∀b∈fp,oX X pins H b) (fpl:∀b∈fp,b<s.heap.objs.size) (hns:h1.Ns s.heap.objs.size m) (hsb:∀b o,s.heap.get? b=some o->h1.get? b=some o) :
  Inv (X.comp N' scope (iW X.env.cells scope.names []) s.heap.objs.size fp s H) [] (inner js σ) H { s with heap:=h1,toks:=tk }:=by
 have incl:∀{x c},(iW X.env.cells scope.names []).lookup x=some c->X.env.cells.lookup x=some c:=λ{x c} q=>by
  rcases uT _ _ q with z | z
  ·simp at z
  ·exact z
 have inn:∀{x:Str},(x,NameKind.free)∈scope.names->∃c,(iW X.env.cells scope.names []).lookup x=some c:=λ{x} q=>wZ _ _ _ (.inl ⟨q,I.ok.has x (hfree _ q rfl)⟩);have fnot:∀b∈fp,b∉frs X.stack:=λb hb z=>(Zn.mp (I.stkSub b z)).elim (fpok b hb).2.1 (fpok b hb).2.2.1;refine⟨⟨I.ok.mod,?_,I.ok.glob,I.ok.blt,ZC _,?_,?_,?_,I.ok.hd,I.ok.frames,.inl rfl,?_,I.bs,YQ I.ok.bsz I.sz,?_,fnot,I.stack,I.stkFree⟩,rfl,I.bare,Un.kept hsb,(xWP m hns ?_),?_,I.fresh,?_,?_,I.hok.kept hsb,?_⟩
 ·exact hk
 ·intro x y c e1 e2;exact I.ok.inj x y c (incl e1) (incl e2)
 ·intro x h;have q:∃k,(x,k)∈scope.names/\k=.free:=by
   rcases h with h | h
   ·obtain⟨k,q1,q2⟩:=lN (env:=X.env) h;rcases q2 with rfl | ⟨q2,_⟩
    ·exact Yg rfl (hcell _ q1)
    ·exact(xWP k q1 q2)
   ·obtain⟨k,q1,q2⟩:=lN (env:=X.env) h;rcases q2 with rfl | ⟨_,q2⟩
    ·exact(xWP _ q1 rfl)
    ·cases q2
  obtain⟨k,q1,rfl⟩:=q;exact inn q1
 ·intro x c h _;cases h
 ·intro b hb;exact⟨ZA (fpl b hb),λx c e=>(fpok b hb).2.2.2.2.1 x c (incl e)⟩
 ·intro b o e hb;rcases(fpok b hb).2.2.2.1 with z | z
  ·exact I.ok.noex b o e z
  ·exact Yg (Xz (YV e) (YQ I.ok.bsz z)) (YY _)
 ·intro i x v e1 e2 _;obtain⟨j,q1,q2⟩:=FV e2;obtain⟨q3,q4⟩:=AU hjs e1 q1;have q5:(x,NameKind.free)∈scope.names:=by
   have:∀{l:List (Str×NameKind)},l.lookup x=some .free->(x,NameKind.free)∈l:=by
    intro l;induction l with
    |nil=>intro z;simp at z
    |cons y r ih =>
     intro z;obtain⟨n,k⟩:=y;rw[List.lookup_cons]at z;cases hb:x==n with
     |true=>rw[hb]at z;have e:=Yi hb;subst e;cases z;exact Zd
     |false=>rw[hb]at z;exact Zw _ (ih z)
   exact this q4
  have kf:=hfree _ q5 rfl;obtain⟨m0,hn0,hl0⟩:=id I.loc;obtain⟨u,r,lk⟩:=hl0 j x v q3 q2 (kf.elim (λz=>.inr (.inl z)) λz=>.inr (.inr z));refine(xWP u r ?_);rcases lk with⟨z,_⟩ | ⟨_,c,hc,o,ho,hd⟩
  ·rcases kf with k | k
   ·rw[k]at z;cases z
   ·rw[k]at z;cases z
  ·obtain⟨c',hc'⟩:=inn q5;have e:=incl hc';rw[hc]at e;cases e;exact .inr (C6 (mE q4) c hc' o (hsb _ _ ho) hd)
 ·intro x c e;obtain⟨v,o,ho,hd⟩:=I.cell x c (incl e);exact(cG v o (hsb _ _ ho) hd)
 ·intro x c e;exact I.freeC x c (incl e)
 ·intro p hp;cases hp
 ·show(inner js σ).length=N'.length;unfold inner;rw[Zq];exact wI hjs
def PF(X:Cx)(ifs:List Expr)(t:TT):Prop :=
 ∀(pins:List (Addr×Obj)) (s:Shared) (σ:St) (H:Hp) (Q:Bool->Hp->Prop),Inv X pins σ H s->t σ H Q ->
  wpAny (model X.prog X.w) X.A (forIn ifs true λc r=>if r=true then do let ok <-isTrue c X.env (eval c X.env);pure (ForInStep.yield ok) else pure (ForInStep.yield r)) (TP X pins σ Q) X.xe s
def sG:TT:=λ_ H Q=>Q true H
theorem tY:PF X [] sG:=λ_ _ _ H _ I h=>wpAny_tests_nil (xWP H I h)
theorem qL{c:Expr}{t:TT}(h:PT X c t):PF X [c] t:=λpins s σ H Q I hw=>wpAny_tests_one (h pins s σ H Q I hw)
end
section
variable{prog:Program}{w:World}{A:Around}{E:Value->Shared->Prop}{R:Result->Shared->Prop}{s:Shared}
theorem wY{elt target iter:Expr}{ifs:List Expr}{scope:Scope}{pos:Pos}{it acc:Value}{env:Env}(I:Nat->Shared->Prop)
  (turn:∀n s,I n s->wpAny (model prog w) A (pyNext it) (λr s₁=>match r with
   |none=>R (.ok .next) s₁
   |some v=>wpAny (model prog w) A (letOwnedTupleGo target it v) (λ_ s₀=>wpAny (model prog w) A (assign target env v) (λ_ s₂ =>
     wpAny (model prog w) A (forIn ifs true λc r=>if r=true then do let ok <-isTrue c env (eval c env);pure (ForInStep.yield ok) else pure (ForInStep.yield r)) (λok s₃ =>
      if ok=true then wpAny (model prog w) A (eval elt env) (λx s₄ =>
       wpAny (model prog w) A (call (.builtin "list.append") [acc,x]) (λ_ s₅=>∃m,m<n/\I m s₅) (λ_ _=>False) s₄) (λ_ _=>False) s₃
      else ∃m,m<n/\I m s₃) (λ_ _=>False) s₂) (λ_ _=>False) s₀) (λ_ _=>False) s₁) (λ_ _=>False) s)
  (n:Nat) (h:I n s) :
  codeAny (model prog w) A (.compLoop (.ListComp elt [⟨target,iter,ifs,0⟩] scope pos) 0 it acc env) R s:=by
 refine codeAny_loop rfl I (λn s hI=>?_) n h;show wpAny _ A ((compTurn (.ListComp elt [⟨target,iter,ifs,0⟩] scope pos) 0 it acc env).onRaise (λx=>do noteFrame x env;theTreesLotGoes x)) _ _ s;refine wpAny_noted ?_;rw[compTurn_list];refine ZZ (wpAny_standAt (ZZ (ZX (turn n s hI) (λr s₁ h₁=>?_) λ_ _ h'=>h'.elim)));cases r with
 |none=>exact ZY h₁
 |some v =>
  refine ZZ (ZX h₁ (λ_ s₀ h₀=>?_) λ_ _ h'=>h'.elim);refine ZZ (ZX h₀ (λ_ s₂ h₂=>ZZ (ZX h₂ (λok s₃ h₃=>?_) λ_ _ h'=>h'.elim)) λ_ _ h'=>h'.elim);cases ok with
  |false=>exact ZY ⟨rfl,h₃⟩
  |true =>
   exact ZZ (ZZ (ZX h₃ (λx s₄ h₄=>ZZ (ZX h₄ (λ_ s₅ h₅=>ZY (ZY ⟨rfl,h₅⟩)) λ_ _ h'=>h'.elim)) λ_ _ h'=>h'.elim))
end
section
variable{X:Cx}
def zU(js:List (Option Nat))(wi:TI)(g:TG)(tc:TT)(te:TE):TE:=λσ H Q=>wi σ H λJ H1=>∀D,H1 D=none->∃W:Nat->Nat->List V->Hp->Prop,(∃m,W 0 m [] (upd H1 D (.lst []))) /\
 ∀i m ys H,W i m ys H->(J.stop i H/\Q (.ref D) H)\/(J.go i H/\∃N:List V->Hp->Prop,(∀ys' H',N ys' H'->∃m',m' < m/\W (i+1) m' ys' H')/\∀x H',J.yld i H x H'->g x (inner js σ) H' λσ2 H2=>Fills (inner js σ) σ2/\tc σ2 H2 λb H3 =>
  If b (te σ2 H3 λy H4=>H4 D=some (.lst ys)/\ys.length<ZW/\N (ys++[y]) (upd H4 D (.lst (ys++[y])))) (N ys H3))
theorem rK{N':List Str}{js:List (Option Nat)}{scope:Scope}{target iter elt:Expr}{ifs:List Expr}{pos:Pos}{g:TG}{tc:TT}{te:TE}{pins:List (Addr×Obj)}{σ:St}{H:Hp}{s:Shared}{Q:VK}{E:Value->Shared->Prop}
  {RR:Value->Addr->Result->Shared->Prop}{it:Addr}{fp:List Addr}{tn:Nat->Heap->Prop}{J:It}(I:Inv X pins σ H s) (T:Turn X.prog X.w X.K target J fp it tn) (st:tn 0 s.heap) (f:∀b∈fp,oX X pins H b) (hc:X.calm=true)
  (q:∀D,H D=none->∃W:Nat->Nat->List V->Hp->Prop,(∃m,W 0 m [] (upd H D (.lst []))) /\
   ∀i m ys H,W i m ys H->(J.stop i H/\Q (.ref D) H)\/(J.go i H/\∃N:List V->Hp->Prop,(∀ys' H',N ys' H'->∃m',m' < m/\W (i+1) m' ys' H')/\∀x H',J.yld i H x H'->g x (inner js σ) H' λσ2 H2=>Fills (inner js σ) σ2/\tc σ2 H2 λb H3 =>
  If b (te σ2 H3 λy H4=>H4 D=some (.lst ys)/\ys.length<ZW/\N (ys++[y]) (upd H4 D (.lst (ys++[y])))) (N ys H3)))
  (hg:∀cl C fp s H,PG (X.comp N' scope cl C fp s H) target g) (hf:∀cl C fp s H,PF (X.comp N' scope cl C fp s H) ifs tc) (he:∀cl C fp s H,PE (X.comp N' scope cl C fp s H) elt te)
  (hk:scope.kind=.function) (hcell:∀y∈scope.names,y.2≠.cell) (hfree:∀y∈scope.names,y.2=.free->X.env.kindOf y.1=some .cell\/X.env.kindOf y.1=some .free) (hjs:uP X.N scope N' js=true)
  (hRR:∀D C H' s',Inv X pins σ H' s'->Q (.ref D) H'->(∃m,s'.heap.Ns C m)->H' C=none->C≠X.env.locals->X.s₀.heap.objs.size<=C->C∉X.fs->(∀x c,X.env.cells.lookup x=some c->c≠C)->(∀p∈X.pn++pins,p.1≠C) ->
   RR (.ref D) C (.ok .next) s') :
  wpAny (model X.prog X.w) X.A (newList []) (λacc s₃=>wpAny (model X.prog X.w) X.A (newFunctionEnv scope X.env.globals (iW X.env.cells scope.names []) [] X.env.qual none .none (some X.env)) (λcenv s₄ =>
   codeAny (model X.prog X.w) X.A (.compStart (.ListComp elt [⟨target,iter,ifs,0⟩] scope pos) 0 (.ref it) acc { cenv with scope:=relabel scope X.env }) (RR acc cenv.locals) s₄) E s₃) E s:=by
 refine wpAny_newObj_type (wpAny_newFunctionEnv hcell (by intro y hy;simp at hy) (λh₁ hns₁ hsb₁=>?_) hk);dsimp only at hns₁ hsb₁ ⊢;have I3:Inv X pins σ (upd H s.heap.objs.size (.lst [])) { s with heap:=s.heap.push { cls:=.type "list",dict:=none,data:=.seq ([]:List Value).toArray } }:=I.lnew (its:=[]) (ys:=[]) (t':=s.toks) .nil (YZ _);obtain⟨W,⟨m0,w0⟩,turn⟩:=q s.heap.objs.size I.fresh;generalize hD:s.heap.objs.size=D at I3 turn w0 ⊢;have hsz:(s.heap.push { cls:=.type "list",dict:=none,data:=.seq ([]:List Value).toArray }).objs.size=D+1:=by rw[Heap.size_push,hD]
 have fpl:∀b∈fp,b<D:=λb hb=>by
  obtain⟨o,e,_⟩:=T.obj _ _ st b hb;rw[<-hD];exact YV e
 generalize hs3:({ s with heap:=s.heap.push { cls:=.type "list",dict:=none,data:=.seq ([]:List Value).toArray } }:Shared)=s3 at I3;have eh:s.heap.push { cls:=.type "list",dict:=none,data:=.seq ([]:List Value).toArray }=s3.heap:=by rw[<-hs3]
 rw[eh]at hns₁ hsb₁ hsz ⊢;have f3:∀b∈fp,oX X pins (upd H D (.lst [])) b:=λb hb=>⟨by rw[aE (ZA (fpl b hb))];exact(f b hb).1,(f b hb).2⟩
 have keep1:∀b o,s3.heap.get? b=some o->h₁.get? b=some o:=λb o e=>hsb₁.extBut b o (ZA (YV e)) (YW _ e);have I4:=GG (N':=N') (js:=js) (tk:=s.toks+([]:List (Str×Value)).length) I3 hk hcell hfree hjs f3 (λb hb=>by rw[hsz];exact Xj (fpl b hb)) hns₁ keep1;have es:({ s with heap:=h₁,toks:=s.toks+([]:List (Str×Value)).length }:Shared)={ s3 with heap:=h₁,toks:=s.toks+([]:List (Str×Value)).length }:=by rw[<-hs3]
 rw[show({ s with heap:=h₁,toks:=s.toks+([]:List (Str×Value)).length }:Shared)={ s3 with heap:=h₁,toks:=s.toks+([]:List (Str×Value)).length } from es];have st4:tn 0 h₁:=T.keep _ _ _ st λb hb o e=>keep1 b o (eh▸YW _ e);have hCne:s3.heap.objs.size≠X.env.locals:=Nat.ne_of_gt I3.lt;have loop:∀s4:Shared,tn 0 s4.heap->Inv (X.comp N' scope (iW X.env.cells scope.names []) s3.heap.objs.size fp s3 (upd H D (.lst []))) [] (inner js σ) (upd H D (.lst [])) s4 ->
   codeAny (model X.prog X.w) X.A (.compLoop (.ListComp elt [⟨target,iter,ifs,0⟩] scope pos) 0 (.ref it) (.ref D) (compEnvC scope (iW X.env.cells scope.names []) s3.heap.objs.size X.env)) (RR (.ref D) s3.heap.objs.size) s4:=by
  intro s4 st4 I4;generalize hX:X.comp N' scope (iW X.env.cells scope.names []) s3.heap.objs.size fp s3 (upd H D (.lst []))=X' at I4;have xprog:X'.prog=X.prog:=by rw[<-hX];rfl
  have stat:∀{H':Hp},(∀b∈fp,H' b=none)->∀b∈fp,oX X' [] H' b:=λhn b hb=>by
   rw[<-hX];refine(gK (hn b hb) ?_ ?_ (.inl hb) ?_ (λp hp=>nomatch hp))
   ·exact ZA (by show b<s3.heap.objs.size;rw[hsz];exact Xj (fpl b hb))
   ·exact λz=>(Zn.mp (I3.stkSub b z)).elim (f3 b hb).2.1 (f3 b hb).2.2.1
   ·intro x c e;rcases uT _ _ e with z | z
    ·simp at z
    ·exact(f3 b hb).2.2.2.2.1 x c z
  have hg':=hg (iW X.env.cells scope.names []) s3.heap.objs.size fp s3 (upd H D (.lst []));have hf':=hf (iW X.env.cells scope.names []) s3.heap.objs.size fp s3 (upd H D (.lst []));have he':=he (iW X.env.cells scope.names []) s3.heap.objs.size fp s3 (upd H D (.lst []));rw[hX]at hg' hf' he';have xA:X'.A=X.A:=by rw[<-hX];rfl
  have xw:X'.w=X.w:=by rw[<-hX];rfl
  have xK:X'.K=X.K:=by rw[<-hX];rfl
  have xc:X'.calm=true:=by rw[<-hX];exact hc
  have xe:X'.env=compEnvC scope (iW X.env.cells scope.names []) s3.heap.objs.size X.env:=by rw[<-hX];rfl
  have xx:X'.xe=λ_ _=>False:=by rw[<-hX];rfl
  have T':Turn X'.prog X'.w X'.K target J fp it tn:=by rw[xprog,xw,xK];exact T
  rw[<-xA,<-xw,<-xprog,<-xe];refine wY (λn s'=>∃i ys H',Inv X' [] (inner js σ) H' s'/\tn i s'.heap/\(∀b∈fp,H' b=none)/\W i n ys H') ?_ m0 (dO 0 ([]) _ I4 st4 (λb hb=>(f3 b hb).1) w0);rintro n s5 ⟨i,ys,H5,I5,st5,fr5,w5⟩;rcases turn i n ys H5 w5 with⟨stop,q⟩ | ⟨go,N,hN,step⟩
  ·refine thn (T'.done X' rfl rfl rfl xc i [] s5 _ H5 _ I5 (stat fr5) st5 stop) λr s6 ⟨hr,I6⟩=>?_;subst hr;subst hX;have I7:Inv X pins σ H5 s6:=I3.call' (s':=s6) I6.os I6.base I6.hok I6.bare λb hb=>(cH ((f3 b hb).2.2.2.1) ((f3 b hb).2.1) ((f3 b hb).2.2.2.2.1) ((f3 b hb).2.2.2.2.2))
   obtain⟨m6,hn6,_⟩:=I6.loc;refine hRR D s3.heap.objs.size H5 s6 I7 q ⟨m6,hn6⟩ I6.free hCne I3.sz (I3.nofs (ZC _)) (λx c e z=>?_) (λp hp z=>?_)
   ·obtain⟨v,y⟩:=I3.cell x c e;exact Yg (Xz y.lt (by rw[z];exact ZC _)) (YY _)
   ·exact Yg (Xz (YV (I3.pin p hp).1) (by rw[z];exact ZC _)) (YY _)
  ·refine thn (T'.item X' rfl rfl rfl xc i [] s5 _ H5 _ I5 (stat fr5) st5 go) λr s6 ⟨u,hr,h6⟩=>?_;subst hr;refine thn h6 λ_ s7 ⟨x,H7,I7,r7,y7,st7,fr7⟩=>?_;have I7':=I7.pinned (stat fr7) (T.obj _ _ st7);refine ZX (hg' _ s7 _ H7 x u _ I7' r7 (step x H7 y7)) (λ_ s8 ⟨σ8,H8,I8,fill8,q8⟩=>?_) (λ_ _ z=>by rw[xx]at z;exact z);refine ZX (hf' _ s8 σ8 H8 _ I8 q8) (λb s9 ⟨H9,I9,q9⟩=>?_) (λ_ _ z=>by rw[xx]at z;exact z);have again:∀{H':Hp}{s':Shared}{ys':List V},Inv X' ([]++qK fp s7.heap) σ8 H' s'->N ys' H'->∃m,m<n/\∃i ys H',Inv X' [] (inner js σ) H' s'/\tn i s'.heap/\(∀b∈fp,H' b=none)/\W i m ys H':=λ{H' s' ys'} I' n'=>by
    obtain⟨m',hm,w'⟩:=hN ys' H' n';refine(nH m' hm (i+1) ys' H' (I'.unpinned.weak fill8.len fill8.at_) (T.keep _ _ _ st7 λb hb o e=>(I'.pin (b,o) (ZN _ (ZN _ (i9 hb e)))).1) (λb hb=>?_) w');obtain⟨o,e,d⟩:=T.obj _ _ st7 b hb;exact(I'.pin (b,o) (ZN _ (ZN _ (i9 hb e)))).2.1
   cases b with
   |false=>exact again I9 (q9.f rfl)
   |true =>
    refine ZX (he' _ s9 σ8 H9 _ I9 (q9.t rfl)) (λyv s10 ⟨y,H10,I10,ry,hD10,hz,q10⟩=>?_) (λ_ _ z=>by rw[xx]at z;exact z);refine ZX (kP (X:=X') _ s10 σ8 H10 (.ref D) [y] (.ref D) [yv] (λ_ H'=>H'=upd H10 D (.lst (ys++[y]))) I10 rfl (.cons ry .nil) (aQ ys hD10 hz rfl)) (λ_ s11 ⟨_,H11,I11,_,e11⟩=>?_) (λ_ _ z=>by rw[xx]at z;exact z);subst e11;exact again I11 q10
 have l4:=loop { s3 with heap:=h₁,toks:=s.toks+([]:List (Str×Value)).length } st4 I4;exact codeAny_compStart_list l4 (T.self _ 0 _ _ _ st4 l4)
theorem tZ{N':List Str}{js:List (Option Nat)}{scope:Scope}{target iter elt:Expr}{ifs:List Expr}{pos:Pos}{wi:TI}{g:TG}{tc:TT}{te:TE}(hc:X.calm=true)(hi:PI X target iter wi)
  (hg:∀cl C fp s H,PG (X.comp N' scope cl C fp s H) target g) (hf:∀cl C fp s H,PF (X.comp N' scope cl C fp s H) ifs tc) (he:∀cl C fp s H,PE (X.comp N' scope cl C fp s H) elt te)
  (hk:scope.kind=.function:=by rfl) (hcell:(scope.names.all λy=>y.2 != .cell)=true:=by rfl) (hfree:(scope.names.all λy=>y.2 != .free||(X.env.kindOf y.1==some .cell||X.env.kindOf y.1==some .free))=true:=by rfl)
  (hnames:(scope.names.all λy=>y.2 != .local||scope.names.lookup y.1==some .local)=true:=by rfl) (hjs:uP X.N scope N' js=true:=by rfl) (hs:∀x,foldedSetIterable iter X.env x=pure x:=by intro _;rfl) :
  PE X (.ListComp elt [⟨target,iter,ifs,0⟩] scope pos) (zU js wi g tc te):=by
 have hcell':∀y∈scope.names,y.2≠.cell:=λy hy z=>by have:=List.all_eq_true.mp hcell y hy;simp[z]at this
 have hfree':∀y∈scope.names,y.2=.free->X.env.kindOf y.1=some .cell\/X.env.kindOf y.1=some .free:=λy hy z=>by have:=List.all_eq_true.mp hfree y hy;simpa[z] using this
 have hnames':∀y∈scope.names,y.2=.local->scope.names.lookup y.1=some .local:=λy hy z=>by have:=List.all_eq_true.mp hnames y hy;simpa[z] using this
 intro pins s σ H Q I h;rw[eval_ListComp];refine wpAny_comprehension_free (use:=none) rfl hs (lC λx hx z=>I.ok.has x.1 (hfree' x hx z)) hk hnames' ?_;refine thn (hi pins s σ H _ I h) λv s1 h1=>thn h1 λitv s2 h2=>?_;obtain⟨it,fp,tn,J,H2,e,I2,T,st2,f2,q2⟩:=h2;subst e;refine rK (RR:=λacc C=>compPost (model X.prog X.w) X.A X.xe none (EP X pins σ Q) acc C) I2 T st2 f2 hc q2 hg hf he hk hcell' hfree' hjs ?_;intro D C H' s' I' q ⟨m,hn⟩ c0 c1 c2 c3 c4 c5;exact(xWP m hn (λh' hs'=>(aH (.ref D) H' (I'.turned (t':=s'.toks) (λb o hb e=>(hs'.2 b hb).trans e) c0 c1 (.inr c2) c4 c5) rfl q)))
theorem qG{N':List Str}{js:List (Option Nat)}{scope:Scope}{target iter elt:Expr}{ifs:List Expr}{pos pos' spos:Pos}{x:Str}{i:Nat}{wi:TI}{g:TG}{tc:TT}{te:TE}(hN:X.N.Nodup)(hi':X.N[i]?=some x)(hx:Loc X.env.scope x)(hc:X.calm=true)(hi:PI X target iter wi)
  (hg:∀cl C fp s H,PG (X.comp N' scope cl C fp s H) target g) (hf:∀cl C fp s H,PF (X.comp N' scope cl C fp s H) ifs tc) (he:∀cl C fp s H,PE (X.comp N' scope cl C fp s H) elt te)
  (hsw:swapsWith (.ListComp elt [⟨target,iter,ifs,0⟩] scope pos) (some (.Name x pos')) spos.line X.env=pure true:=by rfl)
  (hk:scope.kind=.function:=by rfl) (hcell:(scope.names.all λy=>y.2 != .cell)=true:=by rfl) (hfree:(scope.names.all λy=>y.2 != .free||(X.env.kindOf y.1==some .cell||X.env.kindOf y.1==some .free))=true:=by rfl)
  (hnames:(scope.names.all λy=>y.2 != .local||scope.names.lookup y.1==some .local)=true:=by rfl) (hjs:uP X.N scope N' js=true:=by rfl) (hs:∀x,foldedSetIterable iter X.env x=pure x:=by intro _;rfl)
  (hfn:X.fn x=true\/X.env.scope.names.lookup x=some .local:=by first | exact .inl rfl | exact .inr rfl | assumption) :
  PS X (.Assign [.Name x pos'] (.ListComp elt [⟨target,iter,ifs,0⟩] scope pos) spos) (BP (zU js wi g tc te) (b0 i)):=by
 have hcell':∀y∈scope.names,y.2≠.cell:=λy hy z=>by have:=List.all_eq_true.mp hcell y hy;simp[z]at this
 have hfree':∀y∈scope.names,y.2=.free->X.env.kindOf y.1=some .cell\/X.env.kindOf y.1=some .free:=λy hy z=>by have:=List.all_eq_true.mp hfree y hy;simpa[z] using this
 have hnames':∀y∈scope.names,y.2=.local->scope.names.lookup y.1=some .local:=λy hy z=>by have:=List.all_eq_true.mp hnames y hy;simpa[z] using this
 intro pins s σ H D I h;rw[exec_Assign_Name_used _ _ _ _ hsw];refine ZZ (wpAny_standAt (ZZ ?_));show wpAny _ X.A (do let _ <-comprehension (.ListComp elt [⟨target,iter,ifs,0⟩] scope pos) scope X.env _ (newList []) false (eval iter X.env) (some (assign (.Name x pos') X.env))) _ _ s;refine ZZ (ZX (wpAny_comprehension_free (use:=some (assign (.Name x pos') X.env)) (Q:=λ_ s'=>SP X pins D .next s') rfl hs (lC λx hx z=>I.ok.has x.1 (hfree' x hx z)) hk hnames' ?_) (λ_ s' hq=>ZY (ZY hq)) λ_ _ e=>e);refine thn (hi pins s σ H _ I h) λv s1 h1=>thn h1 λitv s2 h2=>?_;obtain⟨it,fp,tn,J,H2,e,I2,T,st2,f2,q2⟩:=h2;subst e;refine rK (Q:=λx H1=>b0 i x σ H1 D.nx) (RR:=λacc C=>compPost (model X.prog X.w) X.A X.xe (some (assign (.Name x pos') X.env)) (λ_ s'=>SP X pins D .next s') acc C) I2 T st2 f2 hc q2 hg hf he hk hcell' hfree' hjs ?_;intro D' C H' s' I' q ⟨m,hn⟩ c0 c1 c2 c3 c4 c5;obtain⟨oC,es,ep,hoC,hdC,rC⟩:=id hn;have I'':Inv X (pins++[(C,oC)]) σ H' s':=I'.pins_of λp hp=>(Zf.mp hp).elim (λz=>I'.pin p (ZN _ z)) λz=>by
  have e:=Zb.mp z;subst e;exact(bU hoC c0 c1 c3 (λv z=>by rw[hdC]at z;cases z))
 show wpAny _ X.A (assign (.Name x pos') X.env (.ref D')) _ _ _;refine wpAny_assign_Name (iP I'' hN hi' hx (v:=.ref D') rfl (λs3 I3=>?_) hfn);have hC3:=I3.pin (C,oC) (ZN _ (ZN _ (Zb.mpr rfl)));refine(xWP m (iY oC es ep hC3.1 hdC rC) (λh' hs'=>?_));exact(cG _ H' (I3.unpinned.turned (t':=s3.toks) (λb o hb e=>(hs'.2 b hb).trans e) c0 c1 (.inr c2) c4 c5) q)
end
theorem kS{J:It}{js:List (Option Nat)}{σ:St}{H1:Hp}{R:Hp->Prop}{D:Addr}{g:TG}{tc:TT}{te:TE}(n:Nat)(Pv:Nat->List V->Hp->Prop)(h0:Pv 0 [] (upd H1 D (.lst [])))
  (hs:∀i ys H,i<n->Pv i ys H->J.go i H/\∀x H',J.yld i H x H'->g x (inner js σ) H' λσ2 H2=>Fills (inner js σ) σ2/\tc σ2 H2 λb H3 =>
   If b (te σ2 H3 λy H4=>H4 D=some (.lst ys)/\ys.length<ZW/\Pv (i+1) (ys++[y]) (upd H4 D (.lst (ys++[y])))) (Pv (i+1) ys H3))
  (hd:∀ys H,Pv n ys H->J.stop n H/\R H) :
  ∃W:Nat->Nat->List V->Hp->Prop,(∃m,W 0 m [] (upd H1 D (.lst []))) /\
   ∀i m ys H,W i m ys H->(J.stop i H/\R H)\/(J.go i H/\∃N:List V->Hp->Prop,(∀ys' H',N ys' H'->∃m',m' < m/\W (i+1) m' ys' H')/\∀x H',J.yld i H x H'->g x (inner js σ) H' λσ2 H2=>Fills (inner js σ) σ2/\tc σ2 H2 λb H3 =>
    If b (te σ2 H3 λy H4=>H4 D=some (.lst ys)/\ys.length<ZW/\N (ys++[y]) (upd H4 D (.lst (ys++[y])))) (N ys H3)):=by
 refine(xWP (λi m ys H=>m=n-i/\i<=n/\Pv i ys H) (aQ n (by simp) (YZ _) h0) ?_);rintro i m ys H ⟨rfl,hi,p⟩;by_cases hlt:i<n
 ·obtain⟨go,step⟩:=hs i ys H hlt p;exact .inr (gJ go (Pv (i+1)) (λys' H' p'=>(dA (n-(i+1)) (by omega) rfl hlt p')) step)
 ·have e:i=n:=by lia
  subst e;exact .inl (hd ys H p)
theorem QN{A B:Prop}:If true A B=A:=propext ⟨λh=>h.t rfl,iT⟩
theorem comp_map{J:It}{js:List (Option Nat)}{σ:St}{H1:Hp}{R:Hp->Prop}{D:Addr}{g:TG}{te:TE}(n:Nat)(Pv:Nat->List V->Hp->Prop)(h0:Pv 0 [] (upd H1 D (.lst [])))
  (hs:∀i ys H,i<n->Pv i ys H->J.go i H/\∀x H',J.yld i H x H'->g x (inner js σ) H' λσ2 H2=>Fills (inner js σ) σ2/\te σ2 H2 λy H4=>H4 D=some (.lst ys)/\ys.length<ZW/\Pv (i+1) (ys++[y]) (upd H4 D (.lst (ys++[y]))))
  (hd:∀ys H,Pv n ys H->J.stop n H/\R H) :
  ∃W:Nat->Nat->List V->Hp->Prop,(∃m,W 0 m [] (upd H1 D (.lst []))) /\
   ∀i m ys H,W i m ys H->(J.stop i H/\R H)\/(J.go i H/\∃N:List V->Hp->Prop,(∀ys' H',N ys' H'->∃m',m' < m/\W (i+1) m' ys' H')/\∀x H',J.yld i H x H'->g x (inner js σ) H' λσ2 H2=>Fills (inner js σ) σ2/\sG σ2 H2 λb H3 =>
    If b (te σ2 H3 λy H4=>H4 D=some (.lst ys)/\ys.length<ZW/\N (ys++[y]) (upd H4 D (.lst (ys++[y])))) (N ys H3)):=by
 refine kS n Pv h0 ?_ hd;simp only[sG,QN];exact hs
end L2
set_option Elab.async false
set_option linter.all false
set_option maxRecDepth 100000
set_option maxHeartbeats 4000000
namespace L2
open PySem PySem.Spec PyProof.Rows
def O8(lo c:Int)(n:Nat):It:=⟨λi _=>i<n,λi H x H'=>H'=H/\x=.int (lo+i*c),λi _=>n<=i⟩
theorem vB{P:Program}{w:World}{K:PySem.W.Frag}{tg:Expr}(it:Addr)(lo c:Int)(n:Nat):Turn P w K tg (O8 lo c n) [it] it (λi h=>IsRangeIter h it (lo+(i:Nat)*c) ((n:Int)-(i:Nat)) c) where
 mem:=by simp
 obj:=λi h st b hb=>by
  have e:b=it:=by simpa using hb
  subst e;exact(xWP _ st (λv z=>by
   have z':Data.fields _=Data.cell v:=z;cases z'))
 keep:=λi h h' st k=>k it (by simp) _ st
 item:=by
  intro X hP hw hK hc i pins s σ H E I hf st hg;subst hP hw hK;obtain⟨f0,f1,f2,f3,f4,f5⟩:=hf it (by simp);have W:=Walks.range (prog:=X.prog) (w:=X.w) (I.ok.hd hc) it lo c n;refine W.item i s _ _ hg st λv h' tk hv st' kk=>?_;obtain⟨t,rfl⟩:=hv;have I1:Inv X pins σ H { s with heap:=h',toks:=tk }:=I.turned (λb o hb e=>kk b o (by simpa using hb) e) f0 f1 f3 f4 f5;exact(xWP _ rfl (FZ (s:={ s with heap:=h',toks:=tk }) (n:="range_iterator") st' rfl rfl (by decide) (dI (.int (lo+i*c)) H I1 ⟨t,rfl⟩ ⟨rfl,rfl⟩ st' (λb hb=>(hf b hb).1))))
 done:=by
  intro X hP hw hK hc i pins s σ H E I hf st hg;subst hP hw hK;obtain⟨f0,f1,f2,f3,f4,f5⟩:=hf it (by simp);exact wpAny_pyNext_range_end (I.ok.hd hc) st (by have:n<=i:=hg;lia) λh' eb=>⟨rfl,I.turned (t':=s.toks) (λb o hb e=>eb b o hb e) f0 f1 f3 f4 f5⟩
 self:=λ_ _ _ _ _ st h=>wpAny_pyIter_rangeiter st h
section
variable{X:Cx}{tg:Expr}
def OQ(ta:TA):TI:=λσ H R=>ta σ H λvs H1=>∃n:Nat,vs=[.int 0,.int (2*n),.int 2]/\n<1000000/\R (O8 0 2 n) H1
theorem B2{a b c:Expr}{ta:TA}{p pos:Pos}(hg:Gl X "range")(hm:X.mg "range" = none)(ha:PA X [a,b,c] ta)(hs:starEach [a,b,c] X.env=[(false,eval a X.env),(false,eval b X.env),(false,eval c X.env)]:=by rfl)
  (hs2:starEach [b,c] X.env=[(false,eval b X.env),(false,eval c X.env)]:=by rfl):PI X tg (.Call (.Name "range" p) [a,b,c] [] pos) (OQ ta):=by
 intro pins s σ H R I h;refine Call_ (jV I hg hm boot_range (PyProof.Rows.callWith_type1 (oT (ha pos pins s σ H _ I h) λus s1 vs H1 I1 r1 q1=>?_) (by rw[hs,hs2]) (by rw[hs2];rfl)));obtain⟨n,e,hn,q⟩:=q1;subst e;cases r1 with
 |cons r rr =>
  cases rr with
  |cons r' rr =>
   cases rr with
   |cons r'' rr =>
    cases rr;obtain⟨t,rfl⟩:=r;obtain⟨t',rfl⟩:=r';obtain⟨t'',rfl⟩:=r'';refine call_range_3 (by decide) ?_ (.inl (PyProof.noPylong_small (by lia)));have hsz:Builtin.Range.rangeSize 0 (2*n) 2=n:=by
     unfold Builtin.Range.rangeSize;simp only[show(2:Int)>0 by decide,if_true];split<;>lia
    have hsmall:Builtin.Range.small 0 (2*n) 2=true:=by
     unfold Builtin.Range.small;rw[hsz];have fits:∀i:Int,-(2 ^ 62)<=i->i<2 ^ 62->Builtin.Range.rangeFitsLong i=true:=λi h1 h2=>by
      unfold Builtin.Range.rangeFitsLong;rw[Xg,decide_eq_true_eq,decide_eq_true_eq]
      lia
     simp only[fits 0 (by lia) (by lia),fits (2*n) (by lia) (by lia),fits 2 (by lia) (by lia),fits n (by lia) (by lia),Bool.true_and,Bool.and_true];rw[Yb (by decide),fits (2*n+(2-1)) (by lia) (by lia),Bool.or_true]
    refine wpAny_pyIter_range (IsRange.new ..) hsmall ?_;have I2:Inv X pins σ H1 { s1 with heap:=s1.heap.push { cls:=.type "range",data:=.fields #[.int 0 t,.int (2*n) t',.int 2 t''] },toks:=s1.toks }:=I1.kept λb o e=>YW _ e;refine(bB ((s1.heap.push { cls:=.type "range",data:=.fields #[.int 0 t,.int (2*n) t',.int 2 t''] }).objs.size) ([(s1.heap.push { cls:=.type "range",data:=.fields #[.int 0 t,.int (2*n) t',.int 2 t''] }).objs.size]) _ _ H1 rfl (I2.kept (t':=s1.toks) λb o e=>YW _ e) (vB _ 0 2 n) ?_ ⟨ λb hb=>?_,q⟩)
    ·show IsRangeIter _ _ (0+((0:Nat):Int)*2) ((n:Int)-((0:Nat):Int)) 2;have e1:(0:Int)+((0:Nat):Int)*2=0:=by simp
     have e2:(n:Int)-((0:Nat):Int)=Builtin.Range.rangeSize 0 (2*n) 2:=by rw[hsz];simp
     rw[e1,e2];exact YU _ rfl
    ·have e:b=(s1.heap.push { cls:=.type "range",data:=.fields #[.int 0 t,.int (2*n) t',.int 2 t''] }).objs.size:=by simpa using hb
     subst e;exact I2.fpOk (ZC _) (I2.hok.fresh (ZC _))
end
section
variable{X:Cx}{pins:List (Addr×Obj)}{σ:St}{H:Hp}{s:Shared}{h':Heap}
theorem Inv.turnedNew{t':Nat}{ch:List Addr}{T:Addr}{o:HO}(I:Inv X pins σ H s)(k:∀b u,b∉ch->s.heap.get? b=some u->h'.get? b=some u)(there:∀b u,s.heap.get? b=some u->∃u',h'.get? b=some u')(hT:s.heap.objs.size<=T)
  (hf:∀b∈ch,oX X pins H b) (new:cC X.prog X.w (upd H T o) h' T o):Inv X pins σ (upd H T o) { s with heap:=h',toks:=t' }:=by
 have hn:=I.hok.fresh hT;have nit:∀b u,H b=some u->b∉ch:=λb u e z=>by rw[(hf b z).1]at e;cases e
 refine I.step (g':=s.gens) (d':=s.drawn) (ch:=ch) (λb hb=>?_) (λb o _ _ hc e _=>k b o hc e) (λb o _ _ hc e _=>⟨o.slots,k b o hc e⟩) (λb u hc e n=>?_) (λb u hc e=>there b u e)
  (λb xs e=>?_) (λb ob u e=>?_) (λb ps e=>⟨#[],?_⟩) (λm hm=>?_) (λb u e=>?_) I.bare
 ·exact(cH ((hf b hb).2.2.2.1) ((hf b hb).2.1) ((hf b hb).2.2.2.2.1) ((hf b hb).2.2.2.2.2))
 ·rw[aE (ZA (Xz (YV e) hT))];exact n
 ·rw[aE (aC e hn)];exact e
 ·rw[aE (aC e hn)];exact e
 ·rw[aE (aC e hn),e];simp
 ·obtain⟨ob,es,ep,ho,r⟩:=hm;exact(jH ob es ep (k _ ob (λz=>(hf _ z).2.1 rfl) ho) r)
 ·by_cases hb:b=T
  ·subst hb;rw[aA]at e;cases e;exact new
  ·rw[aE hb]at e;refine(I.hok b u e).stay (λc v hc q=>k c v ?_ q) (λc q=>by rw[aE (aC q hn)];exact q) λc xs q=>by rw[aE (aC q hn)];exact q
   rcases hc with z | z
   ·rw[z];exact nit b u e
   ·exact nit c _ z
end
def Ite(a:Addr):It :=
 ⟨λi H=>∃xs x,SqL H a xs/\xs[i]?=some x,λi H v H'=>∃T x,v=.ref T/\H T=none/\H'=upd H T (.tup [.int i,x])/\∀xs,SqL H a xs->xs[i]?=some x,λi H=>∃xs,SqL H a xs/\xs.length<=i⟩
theorem BN{P:Program}{w:World}{K:PySem.W.Frag}{elts:List Expr}{k:Nat}{pos:Pos}(a e it:Addr)(hei:e≠it):Turn P w K (.Tuple elts k pos) (Ite a) [e,it] e (λi h=>(∃old,IsEnum h e it i old)/\h.IsListIter it a i) where
 mem:=by simp
 obj:=λi h st b hb=>by
  obtain⟨⟨old,he⟩,o,ho,hc,hd⟩:=st;rcases Zn.mp hb with rfl | hb
  ·exact(xWP _ he (λv z=>by
    have z':Data.fields _=Data.cell v:=z;cases z'))
  ·have e':=Zb.mp hb;subst e';exact(xWP o ho (λv z=>by rw[hd]at z;cases z))
 keep:=λi h h' st k=>by
  obtain⟨⟨old,he⟩,hit⟩:=st;exact⟨⟨old,k e (by simp) _ he⟩,hit.at λo x=>k it (by simp) o x⟩
 item:=by
  intro X hP hw hK hc i pins s σ H E I hf st hg;subst hP hw hK;obtain⟨⟨old,he⟩,hit⟩:=st;obtain⟨xs,x,hq,hx⟩:=hg;obtain⟨its,rv,pl,hz⟩:=I.list hq;obtain⟨u,hu,ru⟩:=rv.get hx;have hux:its.toArray[i]?=some u:=by simpa using hu
  refine wpAny_pyNext_enum_item he hit pl.isList hux hei λh' ho hit' hT hsz hk=>?_;refine(xWP _ rfl ?_);have kk:∀b v,b∉[e,it]->s.heap.get? b=some v->h'.get? b=some v:=λb v hb q=>hk b v (λz=>hb (by simp[z])) (λz=>hb (by simp[z])) q;have th:∀b v,s.heap.get? b=some v->∃v',h'.get? b=some v':=λb v q=>by
   by_cases h1:b=e
   ·subst h1;exact⟨_,ho⟩
   ·by_cases h2:b=it
    ·subst h2;obtain⟨o,q1,_⟩:=hit';exact⟨_,q1⟩
    ·exact⟨v,hk b v h1 h2 q⟩
  have I1:Inv X pins σ (upd H s.heap.objs.size (.tup [.int i,x])) { s with heap:=h',toks:=s.toks+1 } :=
   I.turnedNew (ch:=[e,it]) kk th (ZC _) hf (gJ (by show 2<=ZW;decide) ([.int i s.toks,u]) (.cons ⟨_,rfl⟩ (.cons ru .nil)) (aQ _ hT rfl ⟨ _,rfl⟩))
  refine wpAny_letOwnedTupleGo_enum ho λh2 he2 hs2=>?_;have fe:=hf e (by simp);have fi:=hf it (by simp);have hTe:e≠s.heap.objs.size:=ZA (YV he);have hTi:it≠s.heap.objs.size:=by obtain⟨o,q1,_⟩:=hit;exact ZA (YV q1)
  have I2:Inv X pins σ (upd H s.heap.objs.size (.tup [.int i,x])) { s with heap:=h2,toks:=s.toks+1 } :=
   Inv.turned (s:={ s with heap:=h',toks:=s.toks+1 }) (h':=h2) (t':=s.toks+1) (it:=e) I1 (λb o hb q=>(hs2.2 b hb).trans q) (by rw[aE hTe];exact fe.1) fe.2.1 fe.2.2.2.1 fe.2.2.2.2.1 fe.2.2.2.2.2
  refine(dI (.ref s.heap.objs.size) _ I2 rfl (aP s.heap.objs.size x rfl I.fresh rfl (λys hys=>by rw[I.list_inj hys hq];exact hx)) ⟨⟨_,by simpa using he2⟩,hit'.at λo q=>(hs2.2 it hei.symm).trans q⟩ (λb hb=>?_));rcases Zn.mp hb with rfl | hb
  ·rw[aE hTe];exact fe.1
  ·have e':=Zb.mp hb;subst e';rw[aE hTi];exact fi.1
 done:=by
  intro X hP hw hK hc i pins s σ H E I hf st hg;subst hP hw hK;obtain⟨⟨old,he⟩,hit⟩:=st;obtain⟨xs,hq,hl⟩:=hg;obtain⟨its,rv,pl,hz⟩:=I.list hq;have hlen:=rv.length;obtain⟨f0,f1,f2,f3,f4,f5⟩:=hf it (by simp);refine wpAny_pyNext_enum_end (I.ok.hd hc) he hit pl.isList (by simp;lia) λh' eb=>⟨rfl,?_⟩
  exact I.turned (t':=s.toks) (λb o hb q=>eb b o hb q) f0 f1 f3 f4 f5
 self:=λ_ _ _ _ _ st h=>by
  obtain⟨⟨old,he⟩,_⟩:=st;exact wpAny_pyIter_enum he h
section
variable{X:Cx}
def OT(ta:TA):TI:=λσ H R=>ta σ H λvs H1=>∃a,vs=[.ref a]/\(∃xs,SqL H1 a xs)/\R (Ite a) H1
theorem cL{a:Expr}{ta:TA}{p pos:Pos}{elts:List Expr}{k:Nat}{tpos:Pos}(hg:Gl X "enumerate")(hm:X.mg "enumerate" = none)(ha:PA X [a] ta)(hs:starEach [a] X.env=[(false,eval a X.env)]:=by rfl) :
  PI X (.Tuple elts k tpos) (.Call (.Name "enumerate" p) [a] [] pos) (OT ta):=by
 intro pins s σ H R I h;refine Call_ (jV I hg hm (show bootBuiltins "enumerate" = some (.type "enumerate") by decide +kernel) (PyProof.Rows.callWith_type1 (oT (ha pos pins s σ H _ I h) λus s1 vs H1 I1 r1 q1=>?_) hs rfl));obtain⟨l,e,⟨xs,hq⟩,q⟩:=q1;subst e;cases r1 with
 |cons r rr =>
  cases rr;cases r;obtain⟨its,rv,pl,hz⟩:=I1.list hq;refine call_enumerate_list pl.isList λh' he hit hsz hk=>?_;refine wpAny_pyIter_enum he ?_;have I2:Inv X pins σ H1 { s1 with heap:=h' }:=I1.kept (t':=s1.toks) hk;refine(bB (s1.heap.objs.size+1) ([s1.heap.objs.size+1,s1.heap.objs.size]) _ _ H1 rfl I2 (BN l _ _ (Nat.succ_ne_self _)) ⟨⟨_,by simpa using he⟩,hit⟩ ⟨ λb hb=>?_,q⟩);rcases Zn.mp hb with rfl | hb
  ·exact I1.fpOk (Nat.le_succ _) (I1.hok.fresh (Nat.le_succ _))
  ·have e':=Zb.mp hb;subst e';exact I1.fpOk (ZC _) (I1.hok.fresh (ZC _))
end
mutual
inductive Bd(H:Hp):V->PyData->Prop
 |int (i:Int):Bd H (.int i) (.int i)
 |non:Bd H .non .none
 |bl (b:Bool):Bd H (.bl b) (.bool b)
 |str (x:Str):Bd H (.str x) (.str x)
 |lst {a:Addr}{xs:List V}{ds:List PyData}:SqL H a xs->Bds H xs ds->Bd H (.ref a) (.list ds)
 |tup {a:Addr}{xs:List V}{ds:List PyData}:SqT H a xs->Bds H xs ds->Bd H (.ref a) (.tuple ds)
inductive Bds(H:Hp):List V->List PyData->Prop
 |nil:Bds H [] []
 |cons {x:V}{xs:List V}{d:PyData}{ds:List PyData}:Bd H x d->Bds H xs ds->Bds H (x::xs) (d::ds)
end
theorem nE{H:Hp}:∀ns:List Int,Bds H (ns.map V.int) (ns.map PyData.int)
 |[]=>.nil
 |n::ns=>.cons (.int n) (nE ns)
section
variable{X:Cx}{pins:List (Addr×Obj)}{σ:St}{H:Hp}{s:Shared}
mutual
theorem Bd.reads(I:Inv X pins σ H s):∀{x:V}{d:PyData}{u:Value},Bd H x d->RelV x u->∃as,Reads s.heap u d as
 |_,_,u,.int i,r=>by obtain⟨t,rfl⟩:=r;exact⟨_,.int i t⟩
 |_,_,u,.non,r=>by cases r;exact⟨_,.none⟩
 |_,_,u,.bl b,r=>by cases r;exact⟨_,.bool b⟩
 |_,_,u,.str x,r=>by obtain⟨t,rfl⟩:=r;exact⟨_,.str x t⟩
 |_,_,u,.lst hq b,r=>by
  cases r;obtain⟨its,rv,⟨o,n,e,hc,_,hd⟩,hz⟩:=I.list hq;obtain⟨as,h⟩:=Bds.reads I b rv;exact⟨_,.list e hc hd (by simpa using h)⟩
 |_,_,u,.tup hq b,r=>by
  cases r;obtain⟨its,rv,⟨o,e,hc,n,hd⟩,hz⟩:=I.tuple hq;obtain⟨as,h⟩:=Bds.reads I b rv;exact⟨_,.tuple e hc hd (by simpa using h)⟩
theorem Bds.reads(I:Inv X pins σ H s):∀{xs:List V}{ds:List PyData}{us:List Value},Bds H xs ds->a8 xs us->∃as,ReadsAll s.heap us ds as
 |_,_,_,.nil,r=>by cases r;exact⟨_,.nil⟩
 |_,_,_,.cons b bs,r=>by
  cases r with
  |cons r rr =>
   obtain⟨as,h⟩:=Bd.reads I b r;obtain⟨bs',h'⟩:=Bds.reads I bs rr;exact⟨_,.cons h h'⟩
end
end
section
variable{X:Cx}
def EK(neg:Bool):R2:=λx y H Q=>∃dx dy,Bd H x dx/\Bd H y dy/\SeqAt.shaped dx=true/\SeqAt.shaped dy=true/\Q (.bl (PyData.eqv dx dy ^^ neg)) H
theorem yN(hu:X.A.units+64<cLine):OpR X (compareOp .Eq) (EK false):=by
 intro pins s σ H x y v u Q I rx ry h;obtain⟨dx,dy,bx,b_y,sx,sy,q⟩:=h;obtain⟨as,r1⟩:=bx.reads I rx;obtain⟨bs,r2⟩:=b_y.reads I ry;exact eq_dataH r1 r2 sx sy hu (aH (.bl _) H I rfl (by simpa using q))
theorem i7(hu:X.A.units+64<cLine):OpR X (compareOp .NotEq) (EK true):=by
 intro pins s σ H x y v u Q I rx ry h;obtain⟨dx,dy,bx,b_y,sx,sy,q⟩:=h;obtain⟨as,r1⟩:=bx.reads I rx;obtain⟨bs,r2⟩:=b_y.reads I ry;exact ne_dataH r1 r2 sx sy hu (aH (.bl _) H I rfl (by simpa using q))
end
section
variable{X:Cx}
def AR(H:Hp):V->String->Prop
 |.non,T=>T="NoneType"
 |.bl _,T=>T="bool"
 |.int _,T=>T="int"
 |.ref a,T=>(T="list"/\∃xs,H a=some (.lst xs))\/(T="tuple"/\∃xs,H a=some (.tup xs))
 |_,_=>False
theorem AR.ty{K:PySem.W.Frag}{H:Hp}{x:V}{T:String}(h:AR H x T):oF K H x (.type T):=by
 cases x with
 |non=>cases (show T="NoneType" from h);exact .non
 |bl b=>cases (show T="bool" from h);exact .bl b
 |int i=>cases (show T="int" from h);exact .int i
 |ref a =>
  rcases h with⟨rfl,xs,e⟩ | ⟨rfl,xs,e⟩
  ·exact .lst e
  ·exact .tup e
 |_=>exact False.elim h
def isT(T c:String):Bool:=T==c||(T=="bool"&&c=="int")
theorem JL{H:Hp}{x:V}{T:String}(h:AR H x T):T="NoneType"\/T="bool"\/T="int"\/T="list"\/T="tuple":=by
 cases x with
 |non=>exact .inl h
 |bl b=>exact .inr (.inl h)
 |int i=>exact .inr (.inr (.inl h))
 |ref a =>
  rcases h with⟨rfl,xs,e⟩ | ⟨rfl,xs,e⟩
  ·exact .inr (.inr (.inr (.inl rfl)))
  ·exact .inr (.inr (.inr (.inr rfl)))
 |_=>exact False.elim h
theorem OP{K:PySem.W.Frag}{T n:String}(hT:T="NoneType"\/T="bool"\/T="int"\/T="list"\/T="tuple")(hn:n="list"\/n="tuple"\/n="int"\/n="bool"):PySem.W.kitOne K (.type T) (.type n)=some (isT T n):=by
 rcases hT with rfl | rfl | rfl | rfl | rfl<;>rcases hn with rfl | rfl | rfl | rfl<;>first | rfl | decide
def P9(H0:Unit):List V->Hp->VK->Prop:=λxs H Q=>∃x T n,xs=[x,.ty n]/\AR H x T/\(n="list"\/n="tuple"\/n="int"\/n="bool")/\Q (.bl (isT T n)) H
theorem GH:fE X (.builtin "isinstance") (P9 ()):=by
 intro pins s σ H xs us Q I r h;obtain⟨x,T,n,rfl,k,hn,q⟩:=h;obtain⟨u,v,rfl,ru,rv⟩:=vals2 r;cases (show v=Value.type n from rv);exact CM I ru k.ty (OP (JL k) hn) λtk=>(aH (.bl _) H (I.tok tk) rfl q)
end
end L2
namespace L2
open PySem PySem.Spec PyProof.Rows
theorem aB{H:Hp}{p:Addr}(h:H p=none)(o:HO):aJ H (upd H p o):=λb u q=>by rw[aE (aC q h)];exact q
theorem aJ.tup{H H':Hp}{a:Addr}{xs:List V}(e:aJ H H')(h:SqT H a xs):SqT H' a xs:=by
 rcases h with h | ⟨o,h⟩
 ·exact .inl (e _ _ h)
 ·exact .inr ⟨o,e _ _ h⟩
section
variable{X:Cx}{K:PySem.W.Frag}
theorem PB{es:List Expr}{k:Nat}{t:TGs}{n:Nat}{pos:Pos}(e:X.K=K)(hc:X.calm=true)(h:PGs X es t)
  (hn:(assignEach es X.env).length=n:=by rfl) (hst:(assignEach es X.env).findIdx? (·.1)=none:=by rfl):PG X (.Tuple es k pos) (M1 n t):=by subst e;exact EW hc h hn hst
end
end L2
namespace MM
def oth(e:Nat):Nat:=if e%2=0 then e+1 else e-1
theorem bQ{n e:Nat}(h:e<2*n):oth e<2*n:=by unfold oth;split<;>omega
theorem iR(e:Nat):oth e / 2=e / 2:=by unfold oth;split<;>lia
theorem mO(e:Nat):oth e%2=1-e%2:=by unfold oth;split<;>lia
theorem rH{a b:Nat}(h1:a / 2=b / 2)(h2:a%2=b%2):a=b:=by rw[<-Nat.div_add_mod a 2,<-Nat.div_add_mod b 2,h1,h2]
theorem pI(e:Nat):oth (oth e)=e:=rH (by rw[iR,iR]) (by rw[mO,mO];exact Nat.sub_sub_self (Nat.le_of_lt_succ (Nat.mod_lt e (Nat.zero_lt_succ 1))))
theorem kM{a b:Nat}(h:oth a=oth b):a=b:=by rw[<-pI a,<-pI b,h]
theorem f6:∀(N:Nat) (l:List Nat),l.Nodup->(∀x∈l,x<N)->l.length<=N
 |0,[],_,_=>ZC _
 |0,x::_,_,h=>Yg (h x Zd) (Nat.not_lt_zero _)
 |N+1,l,nd,h=>by
  have ih:=f6 N (l.erase N) (nd.erase N) (λx hx=>by
   have h1:=(nd.mem_erase_iff).mp hx;have h2:=h x h1.2
   lia)
  have hl:=List.length_erase (a:=N) (l:=l);split at hl<;>lia
def iter(f:Nat->Nat):Nat->Nat->Nat
 |0,e=>e
 |n+1,e=>f (iter f n e)
structure bX(f:Nat->Nat)(N:Nat):Prop where
 lt:∀e,e<N->f e<N
 inj:∀a b,a<N->b<N->f a=f b->a=b
theorem cF{f:Nat->Nat}{N:Nat}(m:bX f N){e:Nat}(h:e<N):∀k,iter f k e<N
 |0=>h
 |k+1=>m.lt _ (cF m h k)
theorem gC(f:Nat->Nat)(e:Nat)(i:Nat):∀k,iter f (i+k) e=iter f k (iter f i e)
 |0=>rfl
 |k+1=>by show f (iter f (i+k) e)=f (iter f k (iter f i e));rw[gC f e i k]
theorem mT{f:Nat->Nat}{N:Nat}(m:bX f N){a b:Nat}(ha:a<N)(hb:b<N):∀k,iter f k a=iter f k b->a=b
 |0,h=>h
 |k+1,h=>mT m ha hb k (m.inj _ _ (cF m ha k) (cF m hb k) h)
def path(f:Nat->Nat)(e k:Nat):List Nat:=(ZR k).map λi=>iter f i e
theorem jR(f:Nat->Nat)(e k:Nat):(path f e k).length=k:=by unfold path;simp
theorem nQ(f:Nat->Nat)(e k:Nat):path f e (k+1)=path f e k++[iter f k e]:=by unfold path;rw[ZH,Zt];rfl
theorem iU{f:Nat->Nat}{e k x:Nat}:x∈path f e k↔∃i,i<k/\iter f i e=x:=by
 unfold path;simp[Zh,Zs]
theorem lS{f:Nat->Nat}{N:Nat}(m:bX f N){e:Nat}(he:e<N):∀k,(∀j,0<j->j<k->iter f j e≠e)->(path f e k).Nodup
 |0,_=>List.nodup_nil
 |k+1,h=>by
  rw[nQ];have ih:=lS m he k (λj h0 h1=>h j h0 (by lia));rw[List.nodup_append];refine(xPP ih (by simp) ?_);intro a ha b hb e1;have hb':b=iter f k e:=by simpa using hb
  obtain⟨i,hi,rfl⟩:=iU.mp ha;have q:iter f i e=iter f k e:=e1.trans hb';have hk:k=(k-i)+i:=by lia
  have q2:iter f i e=iter f i (iter f (k-i) e):=by
   rw[<-gC,Nat.sub_add_cancel (YX hi)];exact q
  have q3:=mT m he (cF m he _) i q2;exact h (k-i) (by lia) (by lia) q3.symm
theorem AG{f:Nat->Nat}{N:Nat}(m:bX f N){e:Nat}(he:e<N)(k:Nat):∀x∈path f e k,x<N:=λx hx=>by
 obtain⟨i,_,rfl⟩:=iU.mp hx;exact cF m he i
theorem iH{f:Nat->Nat}{N:Nat}(m:bX f N){e:Nat}(he:e<N):∃k,0<k/\k<=N/\iter f k e=e:=by
 refine ZS λh=>?_;have no:∀j,0<j->j<N+1->iter f j e≠e:=λj h0 h1 q=>h (aQ j h0 (by lia) q);have nd:=lS m he (N+1) no;have b:=f6 N _ nd (AG m he _);rw[jR]at b
 lia
def lF(f:Nat->Nat)(e k:Nat):Prop:=0<k/\iter f k e=e/\∀j,0<j->j<k->iter f j e≠e
theorem EE{f:Nat->Nat}{N:Nat}(m:bX f N){e:Nat}(he:e<N):∃k,lF f e k/\k<=N:=by
 obtain⟨k,h0,h1,h2⟩:=iH m he;have:∀n k,k<=n->0<k->iter f k e=e->∃k',lF f e k'/\k'<=k:=by
  intro n;induction n with
  |zero=>intro k h1 h2;lia
  |succ n ih =>
   intro k h1 h2 h3;by_cases q:∃j,0<j/\j<k/\iter f j e=e
   ·obtain⟨j,j0,j1,j2⟩:=q;obtain⟨k',r,l⟩:=ih j (by lia) j0 j2;exact(xWP k' r (by lia))
   ·exact(xWP k (xPP h2 h3 (λj j0 j1 j2=>q (aQ j j0 j1 j2))) (ZC _))
 obtain⟨k',r,l⟩:=this k k (ZC _) h0 h2;exact(xWP k' r (by lia))
theorem yE{f:Nat->Nat}{e k k':Nat}(a:lF f e k)(b:lF f e k'):k=k':=by
 rcases Nat.lt_trichotomy k k' with h | h | h
 ·exact Yg a.2.1 (b.2.2 k a.1 h)
 ·exact h
 ·exact Yg b.2.1 (a.2.2 k' b.1 h)
theorem qD{f:Nat->Nat}{e k j:Nat}(r:lF f e k)(h0:0<j)(hj:j<=k)(h:iter f j e≠e):j<k:=by
 rcases Xk j k with q | q
 ·exact q
 ·have:j=k:=by lia
  subst this;exact Yg r.2.1 h
abbrev aV:=List (Nat×Nat)
abbrev aR:=List (List Nat)
def place(ts:aV)(e:Nat):Nat:=if e%2=0 then (ts.getD (e / 2) (0,0)).1 else (ts.getD (e / 2) (0,0)).2
def row(os:aR)(p:Nat):List Nat:=os.getD p []
structure lG(pl:Nat->Nat)(M:Nat)(os:aR):Prop where
 ends:∀p e,e∈row os p->e<M/\pl e=p
 has:∀e,e<M->pl e<os.length/\e∈row os (pl e)
 nd:∀p,(row os p).Nodup
 full:∀p,p<os.length->row os p≠[]
 four:∀p,(row os p).length<=4
structure Good(ts:aV)(os:aR):Prop where
 g:lG (place ts) (2*ts.length) os
 one:1<=ts.length
theorem lG.congr{pl pl':Nat->Nat}{M:Nat}{os:aR}(g:lG pl M os)(h:∀e,e<M->pl' e=pl e):lG pl' M os where
 ends:=λp e he=>by
  have q:=g.ends p e he;exact⟨q.1,(h e q.1).trans q.2⟩
 has:=λe he=>by rw[h e he];exact g.has e he
 nd:=g.nd
 full:=g.full
 four:=g.four
theorem cK{os:aR}{a:Nat}{l:List Nat}(h:a<os.length):row (os.set a l) a=l:=by
 unfold row;simp[List.getD,h]
theorem dZ{os:aR}{a p:Nat}{l:List Nat}(h:p≠a):row (os.set a l) p=row os p:=by
 unfold row;simp[List.getD,ZJ (Yh h)]
theorem lG.add{pl:Nat->Nat}{M:Nat}{os:aR}(g:lG pl M os){a:Nat}(ha:a<os.length)(hp:pl M=a){l:List Nat}(hm:∀x,x∈l↔x=M\/x∈row os a)(hn:l.Nodup)(h4:l.length<=4):lG pl (M+1) (os.set a l) where
 ends:=λp e he=>by
  by_cases hpa:p=a
  ·subst hpa;rw[cK ha]at he;rcases(hm e).mp he with rfl | he
   ·exact⟨Nat.lt_succ_self _,hp⟩
   ·have q:=g.ends _ e he;exact⟨by lia,q.2⟩
  ·rw[dZ hpa]at he;have q:=g.ends p e he;exact⟨by lia,q.2⟩
 has:=λe he=>by
  rw[ZP];rcases Xk e M with h | h
  ·have q:=g.has e h;refine⟨q.1,?_⟩;by_cases hpa:pl e=a
   ·rw[hpa,cK ha];exact(hm e).mpr (.inr (hpa▸q.2))
   ·rw[dZ hpa];exact q.2
  ·have e':e=M:=by lia
   subst e';rw[hp,cK ha];exact⟨ha,(hm e).mpr (.inl rfl)⟩
 nd:=λp=>by
  by_cases hpa:p=a
  ·subst hpa;rw[cK ha];exact hn
  ·rw[dZ hpa];exact g.nd p
 full:=λp hp'=>by
  rw[ZP]at hp';by_cases hpa:p=a
  ·subst hpa;rw[cK ha];intro z;have:M∈l:=(hm M).mpr (.inl rfl);rw[z]at this;cases this
  ·rw[dZ hpa];exact g.full p hp'
 four:=λp=>by
  by_cases hpa:p=a
  ·subst hpa;rw[cK ha];exact h4
  ·rw[dZ hpa];exact g.four p
theorem mC{os:aR}{l:List Nat}(p:Nat):row (os++[l]) p=if p=os.length then l else row os p:=by
 unfold row;rcases Nat.lt_trichotomy p os.length with h | h | h
 ·rw[Ya (by lia)];simp[List.getD,Zx h]
 ·subst h;simp[List.getD]
 ·rw[Ya (by lia)];have h1:(os++[l])[p]?=none:=Zr (by rw[Zm];simp;lia);have h2:os[p]?=none:=Zr (by lia);simp[List.getD,h1,h2]
theorem lG.new{pl:Nat->Nat}{M:Nat}{os:aR}(g:lG pl M os)(hp:pl M=os.length):lG pl (M+1) (os++[[M]]) where
 ends:=λp e he=>by
  rw[mC]at he;split at he
  ·rename_i h
   have e':e=M:=by simpa using he
   subst e';exact⟨Nat.lt_succ_self _,by rw[hp,h]⟩
  ·have q:=g.ends p e he;exact⟨by lia,q.2⟩
 has:=λe he=>by
  rw[Zm,mC];rcases Xk e M with h | h
  ·have q:=g.has e h;rw[Ya (by lia)];exact⟨by simp;lia,q.2⟩
  ·have e':e=M:=by lia
   subst e';rw[Yb hp];exact⟨by simp;lia,by simp⟩
 nd:=λp=>by
  rw[mC];split
  ·simp
  ·exact g.nd p
 full:=λp hp'=>by
  rw[mC];split
  ·simp
  ·rw[Zm]at hp';simp at hp';exact g.full p (by lia)
 four:=λp=>by
  rw[mC];split
  ·simp
  ·exact g.four p
def bW(l:List Nat)(x:Nat):Nat:=l.getD ((l.idxOf x+l.length-1)%l.length) 0
theorem yJ{l:List Nat}{x:Nat}(h:x∈l):bW l x∈l:=by
 have h1:=ZM h;have h2:(l.idxOf x+l.length-1)%l.length<l.length:=Nat.mod_lt _ (by lia);unfold bW;simp only[List.getD,Zz h2,YR];exact Zp h2
theorem ID{i j n:Nat}(hi:i<n)(hj:j<n)(h:(i+n-1)%n=(j+n-1)%n):i=j:=by
 have f:∀k,k<n->(((k+n-1)%n)+1)%n=k:=λk hk=>by
  rw[Nat.mod_add_mod,Nat.sub_add_cancel (YQ (Nat.succ_le_of_lt (Xq (YZ k) hk)) (Nat.le_add_left n k)),Nat.add_mod_right,Nat.mod_eq_of_lt hk]
 rw[<-f i hi,<-f j hj,h]
theorem yL{l:List Nat}(nd:l.Nodup){x y:Nat}(hx:x∈l)(hy:y∈l)(h:bW l x=bW l y):x=y:=by
 have h1:=ZM hx;have h2:=ZM hy;have m1:(l.idxOf x+l.length-1)%l.length<l.length:=Nat.mod_lt _ (by lia);have m2:(l.idxOf y+l.length-1)%l.length<l.length:=Nat.mod_lt _ (by lia);unfold bW at h;simp only[List.getD,Zz m1,Zz m2,YR]at h;have e:=(List.getElem_inj nd).mp h;have e':=ID h1 h2 e;have g1:l[l.idxOf x]=x:=List.getElem_idxOf h1;have g2:l[l.idxOf y]=y:=List.getElem_idxOf h2;rw[<-g1,<-g2];simp only[e']
def behind(ts:aV)(os:aR)(e:Nat):Nat:=bW (row os (place ts (oth e))) (oth e)
theorem Good.behind{ts:aV}{os:aR}(g:Good ts os){e:Nat}(he:e<2*ts.length):behind ts os e<2*ts.length/\place ts (behind ts os e)=place ts (oth e):=by
 have h:=g.g.has (oth e) (bQ he);exact g.g.ends _ _ (yJ h.2)
theorem Good.maps{ts:aV}{os:aR}(g:Good ts os):bX (MM.behind ts os) (2*ts.length) where
 lt:=λe he=>(g.behind he).1
 inj:=λa b ha hb h=>by
  have pa:=(g.behind ha).2;have pb:=(g.behind hb).2;rw[h,pb]at pa;have ma:=(g.g.has (oth a) (bQ ha)).2;have mb:=(g.g.has (oth b) (bQ hb)).2;unfold MM.behind at h;rw[<-pa]at h ma;exact kM (yL (g.g.nd _) ma mb h)
open Classical in
noncomputable def per(f:Nat->Nat)(e:Nat):Nat:=if h:∃k,lF f e k then Classical.choose h else 1
noncomputable def aL(f:Nat->Nat)(e:Nat):List Nat:=path f e (per f e)
theorem L5{f:Nat->Nat}{e k:Nat}(r:lF f e k):per f e=k:=by
 unfold per;rw[dif_pos ⟨k,r⟩];exact yE (Classical.choose_spec (⟨k,r⟩:∃k,lF f e k)) r
theorem cY{f:Nat->Nat}{N:Nat}(m:bX f N){e:Nat}(he:e<N):lF f e (per f e)/\per f e<=N:=by
 obtain⟨k,r,l⟩:=EE m he;rw[L5 r];exact⟨r,l⟩
theorem rE{f:Nat->Nat}{e k:Nat}(h:iter f k e=e):∀n,iter f (k*n) e=e
 |0=>rfl
 |n+1=>by rw[Nat.mul_succ,Nat.add_comm,gC,h];exact rE h n
theorem FT{f:Nat->Nat}{e k:Nat}(h:iter f k e=e)(j:Nat):iter f j e=iter f (j%k) e:=by
 have e1:j=k*(j / k)+j%k:=(Nat.div_add_mod j k).symm;have e2:iter f j e=iter f (k*(j / k)+j%k) e:=congrArg (λz=>iter f z e) e1;rw[e2,gC,rE h]
theorem bG{f:Nat->Nat}{N:Nat}(m:bX f N){x y:Nat}(hx:x<N):y∈aL f x↔∃k,iter f k x=y:=by
 obtain⟨r,_⟩:=cY m hx;unfold aL;rw[iU];constructor
 ·rintro⟨i,_,h⟩;exact⟨i,h⟩
 ·rintro⟨k,h⟩;exact(xWP (k%per f x) (Nat.mod_lt _ r.1) (by rw[<-FT r.2.1];exact h))
theorem dQ{f:Nat->Nat}{N:Nat}(m:bX f N){x:Nat}(hx:x<N):x∈aL f x:=(bG m hx).mpr ⟨0,rfl⟩
theorem fJ{f:Nat->Nat}{N:Nat}(m:bX f N){x:Nat}(hx:x<N):∀y∈aL f x,y<N:=AG m hx _
theorem lW{f:Nat->Nat}{N:Nat}(m:bX f N){x:Nat}(hx:x<N):(aL f x).Nodup:=lS m hx _ (cY m hx).1.2.2
theorem rB{f:Nat->Nat}{N:Nat}(m:bX f N){x:Nat}(hx:x<N):0<(aL f x).length/\(aL f x).length<=N:=by
 unfold aL;rw[jR];exact⟨(cY m hx).1.1,(cY m hx).2⟩
theorem fT{f:Nat->Nat}{N:Nat}(m:bX f N){x y:Nat}(hx:x<N)(h:y∈aL f x):x∈aL f y:=by
 have hy:=fJ m hx y h;obtain⟨k,rfl⟩:=(bG m hx).mp h;obtain⟨r,_⟩:=cY m hx;refine(bG m hy).mpr ⟨per f x*(k+1)-k,?_⟩;have hk:k<=per f x*(k+1):=by
  have:=Nat.le_mul_of_pos_left (k+1) r.1
  lia
 rw[<-gC,Nat.add_sub_cancel' hk];exact rE r.2.1 _
theorem eG{f:Nat->Nat}{N:Nat}(m:bX f N){x y z:Nat}(hx:x<N)(h1:y∈aL f x)(h2:z∈aL f y):z∈aL f x:=by
 have hy:=fJ m hx y h1;obtain⟨k,rfl⟩:=(bG m hx).mp h1;obtain⟨j,rfl⟩:=(bG m hy).mp h2;exact(bG m hx).mpr ⟨k+j,gC f x k j⟩
noncomputable def fC(f:Nat->Nat):Nat->List Nat->List (List Nat)
 |0,_=>[]
 |_,[]=>[]
 |n+1,e::r=>aL f e::fC f n ((e::r).filter λx=>decide (x∉aL f e))
theorem fY(f:Nat->Nat)(n:Nat):fC f n []=[]:=by cases n<;>rfl
theorem cS{f:Nat->Nat}{N:Nat}(m:bX f N){e:Nat}(he:e<N)(r:List Nat):((e::r).filter λx=>decide (x∉aL f e)).length<=r.length:=by
 rw[List.filter_cons,Ya (by simp[dQ m he])];exact List.length_filter_le _ _
theorem jW{f:Nat->Nat}{N:Nat}(m:bX f N):∀(n:Nat) (k:Nat) (l:List Nat),(∀x∈l,x<N)->l.length<=n->l.length<=k->fC f n l=fC f k l
 |0,k,l,_,h,_=>by
  have e:l=[]:=Yd.mp (by lia);subst e;rw[fY,fY]
 |n+1,k,[],_,_,_=>by rw[fY,fY]
 |n+1,0,e::r,_,_,h=>by simp at h
 |n+1,k+1,e::r,hl,h1,h2=>by
  have he:=hl e Zd;have s:=cS m he r;simp only[Yq]at h1 h2;show aL f e::fC f n _=aL f e::fC f k _;rw[jW m n k _ (λx hx=>hl x (Yz.mp hx).1) (by lia) (by lia)]
noncomputable def lf(f:Nat->Nat)(l:List Nat):List (List Nat):=fC f l.length l
theorem FR(f:Nat->Nat):lf f []=[]:=rfl
theorem jB{f:Nat->Nat}{N:Nat}(m:bX f N){e:Nat}{r:List Nat}(hl:∀x∈e::r,x<N):lf f (e::r)=aL f e::lf f ((e::r).filter λx=>decide (x∉aL f e)):=by
 unfold lf;show aL f e::fC f r.length _=_;rw[jW m r.length _ _ (λx hx=>hl x (Yz.mp hx).1) (cS m (hl e Zd) r) (ZC _)]
noncomputable def aT(f:Nat->Nat)(N:Nat):List (List Nat):=lf f (ZR N)
theorem lU{f:Nat->Nat}{N:Nat}(m:bX f N):∀(n:Nat) (l:List Nat),l.length<=n->(∀x∈l,x<N)->∀d∈lf f l,∃e∈l,d=aL f e
 |0,l,h,_,d,hd=>by
  have e:l=[]:=Yd.mp (by lia);subst e;cases hd
 |n+1,[],_,_,d,hd=>by cases hd
 |n+1,e::r,h,hl,d,hd=>by
  rw[jB m hl]at hd;rcases Zn.mp hd with rfl | hd
  ·exact(xWP e Zd rfl)
  ·have s:=cS m (hl e Zd) r;simp only[Yq]at h;obtain⟨x,hx,q⟩:=lU m n _ (by lia) (λx hx=>hl x (Yz.mp hx).1) d hd;exact(xWP x ((Yz.mp hx).1) q)
theorem qY{f:Nat->Nat}{N:Nat}(m:bX f N):∀(n:Nat) (l:List Nat),l.length<=n->(∀x∈l,x<N)->(lf f l).length<=l.length
 |0,l,h,_=>by
  have e:l=[]:=Yd.mp (by lia);subst e;exact ZC _
 |n+1,[],_,_=>ZC _
 |n+1,e::r,h,hl=>by
  rw[jB m hl];have s:=cS m (hl e Zd) r;simp only[Yq]at h ⊢;have ih:=qY m n _ (YQ s (by lia)) (λx hx=>hl x (Yz.mp hx).1)
  lia
theorem y0{f:Nat->Nat}{N:Nat}(m:bX f N):∀(n:Nat) (l:List Nat),l.length<=n->(∀x∈l,x<N)->∀x∈l,∃(k:Nat) (d:List Nat),(lf f l)[k]?=some d/\x∈d/\∀(j:Nat) (d':List Nat),(lf f l)[j]?=some d'->x∈d'->j=k
 |0,l,h,_,x,hx=>by
  have e:l=[]:=Yd.mp (by lia);subst e;cases hx
 |n+1,[],_,_,x,hx=>by cases hx
 |n+1,e::r,h,hl,x,hx=>by
  have he:=hl e Zd;have hxN:=hl x hx;have s:=cS m he r;simp only[Yq]at h;rw[jB m hl];by_cases q:x∈aL f e
  ·refine(aH 0 _ rfl q (λj d' hj hd=>?_));cases j with
   |zero=>rfl
   |succ j =>
    rw[List.getElem?_cons_succ]at hj;obtain⟨y,hy,rfl⟩:=lU m _ _ (ZC _) (λz hz=>hl z (Yz.mp hz).1) d' (Zg hj);obtain⟨hy1,hy2⟩:=Yz.mp hy;have hy2':y∉aL f e:=by simpa using hy2
    exact Yg (eG m he q (fT m (hl y hy1) hd)) hy2'
  ·have hx':x∈(e::r).filter λz=>decide (z∉aL f e):=Yz.mpr ⟨hx,by simpa using q⟩;obtain⟨k,d,h1,h2,h3⟩:=y0 m n _ (by lia) (λz hz=>hl z (Yz.mp hz).1) x hx';refine(aH (k+1) d (by rw[List.getElem?_cons_succ];exact h1) h2 (λj d' hj hd=>?_));cases j with
   |zero =>
    rw[List.getElem?_cons_zero]at hj;cases hj;exact Yg hd q
   |succ j =>
    rw[List.getElem?_cons_succ]at hj;rw[h3 j d' hj hd]
end MM
set_option Elab.async false
set_option linter.all false
set_option maxRecDepth 100000
set_option maxHeartbeats 4000000
namespace L2
open PySem PySem.Spec PyProof.Rows
abbrev vn(n:Nat):V:=.int (n:Int)
abbrev vns(l:List Nat):List V:=l.map vn
section
variable{X:Cx}
def LY:V->List V->Hp->VK->Prop:=λx vs H Q=>x.gr λl=>∃(ns:List Nat) (v:Nat),vs=[vn v]/\H l=some (.lst (vns ns))/\v∈ns/\Q (vn (ns.idxOf v)) H
theorem jT:MtM X "list.index" LY:=by
 intro pins s σ H x vs v us Q I rx rv h;obtain⟨l,rfl,z1⟩:=bN h;obtain⟨ns,k,rfl,hH,hm,q⟩:=z1;cases rx;obtain⟨u,rfl,t,rfl⟩:=rv.one;obtain⟨z,its,n,r,hl,e⟩:=I.lstM hH;have hlen:its.length=ns.length:=by rw[<-hl];simp
 have hj:ns.idxOf k<ns.length:=ZM hm;have item:∀(m:Nat) (hm:m<its.toArray.size),eqU (vn k) its.toArray[m]=(ns[m]'(by simpa[hlen] using hm)==k):=λm hm'=>by
  have hm2:m<ns.length:=by simpa[hlen] using hm'
  have hx:(vns ns)[m]?=some (vn ns[m]):=by rw[Zk,Zz hm2];rfl
  obtain⟨u',hu',ru'⟩:=r.get hx;have e1:its.toArray[m]=u':=by
   have:its[m]?=some its.toArray[m]:=by simp at hm' ⊢
   rw[this]at hu';exact Option.some.inj hu'
  rw[e1,zG ru' rfl];show((ns[m]:Int)==(k:Int))=(ns[m]==k)
  rw[Xh];simp only[beq_iff_eq]
  lia
 have hsm:((ns.idxOf k:Nat):Int)<2 ^ 63-1:=by
  have h1:=jA;have h2:(vns ns).length=ns.length:=by simp
  lia
 refine call_meets F.slot_list_index (xWP _ e rfl) F.entry_list_index (F.args_list_index_2 _ _) (SeqAt.list_indexAt l its.toArray n none #[] (.int k t) (eqU (vn k)) (ns.idxOf k) (by simpa[hlen] using hj) hsm ?_ ?_) (xPP e (λy hy=>?_) ?_)
 ·rw[item];simp
 ·intro m hm' hlt;rw[item];have:=List.not_of_lt_findIdx (p:=(·==k)) (xs:=ns) (i:=m) hlt;simpa using this
 ·have fl:(vns ns).all j3=true:=by rw[ZD];intro y hy;obtain⟨n,_,rfl⟩:=Zh.mp hy;rfl
  exact iV (x:=vn k) ⟨t,rfl⟩ rfl r fl y (by simpa using hy)
 ·exact(aH (vn (ns.idxOf k)) H (I.tok _) ⟨_,rfl⟩ q)
def aW{α:Type}(l:List α)(i:Nat)(x:α):List α:=l.take i++x::l.drop i
def HZ:V->List V->Hp->VK->Prop:=λx vs H Q=>x.gr λl=>∃(xs:List V) (i:Nat) (y:V),vs=[vn i,y]/\H l=some (.lst xs)/\i<=xs.length/\xs.length<ZW/\Q .non (upd H l (.lst (aW xs i y)))
theorem gW:MtM X "list.insert" HZ:=by
 intro pins s σ H x vs v us Q I rx rv h;obtain⟨l,rfl,z1⟩:=bN h;obtain⟨xs,i,y,rfl,hH,hi,hz,q⟩:=z1;cases rx;obtain⟨u1,u2,rfl,⟨t,rfl⟩,r2⟩:=rv.two;obtain⟨z,its,n,r,hl,e⟩:=I.lstM hH;have hfit:Builtin.List.listFitsIndex (i:Int)=true:=by
  unfold Builtin.List.listFitsIndex;have:=jA;simp only[Xg,decide_eq_true_eq]
  lia
 have hc0:¬(!Builtin.List.listFitsIndex (i:Int))=true:=by rw[hfit];exact YT
 have hz1:its.toArray.size<=ZW:=by rw[ZE];lia
 obtain⟨w,hw⟩:∃w:Int,w=(i:Int):=⟨_,rfl⟩
 rw[<-hw]at hc0;have mm:=PySem.AutoSeq1.list_insert_list_int_val_1 l its.toArray n w t u2 hc0 hz1;rw[<-hw];refine call_meets F.slot_list_insert (xWP _ e rfl) F.entry_list_insert (F.args_list_insert_3 _ _ _) mm ⟨e,?_⟩;refine(aH .non _ (I.lset (its':=aW its i u2) (ys:=aW xs i y) (t':=s.toks) hH e ?_ ?_ ?_) rfl q)
 ·have hk:(if w<0 then (w+(its.toArray.size:Int)).toNat else min w.toNat its.toArray.size)=i:=by
   rw[Ya (by lia),ZE]
   lia
  show(its.toArray.extract 0 (if w<0 then (w+(its.toArray.size:Int)).toNat else min w.toNat its.toArray.size)).push u2++its.toArray.extract (if w<0 then (w+(its.toArray.size:Int)).toNat else min w.toNat its.toArray.size)=_;rw[hk];unfold aW;simp;exact List.take_of_length_le (by simp)
 ·unfold aW;exact a8.append (r.take _) (.cons r2 (r.drop _))
 ·unfold aW;rw[Zm,Yq,Yw,Yp]
  lia
theorem tS:∀{xs:List V}{us:List Value},xs.length=us.length->(∀(j:Nat) x u,xs[j]?=some x->us[j]?=some u->RelV x u)->a8 xs us
 |[],[],_,_=>.nil
 |x::xs,u::us,hl,h=>.cons (h 0 x u rfl rfl) (tS (by simpa using hl) λj y v h1 h2=>h (j+1) y v (by simpa using h1) (by simpa using h2))
theorem xB:fE X (.type "range") (λxs H Q=>∃j:Int,xs=[.int j]/\∀p,H p=none->Q (.ref p) (upd H p (.rng 0 j))):=by
 intro pins s σ H xs us Q I r h;obtain⟨j,rfl,q⟩:=h;obtain⟨u,rfl,t,rfl⟩:=vals1 r;refine call_range_1 ?_;refine(aH (.ref s.heap.objs.size) _ (I.laid (o:=.rng 0 j) (λb o e=>YW _ e) (ZC _) (oS _ _ _ (YU _ rfl))) rfl (q _ I.fresh))
theorem rY(hc:X.calm=true):fE X (.type "list") (λxs H Q=>∃(p:Addr) (n:Nat),xs=[.ref p]/\H p=some (.rng 0 n)/\n<=10000/\∀l,H l=none->Q (.ref l) (upd H l (.lst (vns (ZR n))))):=by
 intro pins s σ H xs us Q I r h;obtain⟨p,n,rfl,hp,hn,q⟩:=h;obtain⟨u,rfl,rx⟩:=vals1 r;cases rx;obtain⟨t,u,v,e⟩:=(show cC X.prog X.w H s.heap p (.rng 0 n) from I.hok p _ hp)
 have hsz:Builtin.Range.rangeSize 0 (n:Int) 1=n:=by rw[rangeSize_one];split<;>lia
 refine call_list_range (I.ok.hd hc) (show IsRange s.heap p 0 n 1 t u v from e) (small_one (by lia) (by lia) (by lia) (by lia)) hsz (by lia) λh' tk acc c' k e' it=>?_;have hv:a8 (vns (ZR n)) acc.toList:=by
  refine tS (by simp[it.1]) λj x u hx hu=>?_;rw[Zk]at hx;obtain⟨m,hm,rfl⟩:=Xv.mp hx;obtain⟨hj,rfl⟩:=Zj.mp hm;obtain⟨t,rfl⟩:=it.2 j u (by simpa using hu);exact⟨t,by simp⟩
 exact(aH (.ref s.heap.objs.size) _ (I.laid (t':=tk) k (ZC _) (show cC X.prog X.w _ h' _ (.lst (vns (ZR n))) from(fF (by simp;exact YQ hn (by decide)) acc.toList c' hv (by rw[e'])))) rfl (q _ I.fresh))
end
def gM(H:Hp)(a:Addr)(ts:MM.aV):Prop:=∃tr:List Addr,H a=some (.lst (tr.map V.ref))/\tr.length=ts.length/\∀(i:Nat) t,ts[i]?=some t->∃r,tr[i]?=some r/\H r=some (.tup [vn t.1,vn t.2])
def oH(H:Hp)(a:Addr)(os:MM.aR):Prop:=∃rr:List Addr,H a=some (.lst (rr.map V.ref))/\rr.length=os.length/\∀(i:Nat) l,os[i]?=some l->∃r,rr[i]?=some r/\H r=some (.lst (vns l))
theorem aJ.ts{H H':Hp}(g:aJ H H'){a:Addr}{ts:MM.aV}(h:gM H a ts):gM H' a ts:=by
 obtain⟨tr,h1,h2,h3⟩:=h;exact(aQ tr (g _ _ h1) h2 (λi t ht=>by obtain⟨r,q1,q2⟩:=h3 i t ht;exact(xWP r q1 (g _ _ q2))))
theorem aJ.os{H H':Hp}(g:aJ H H'){a:Addr}{os:MM.aR}(h:oH H a os):oH H' a os:=by
 obtain⟨tr,h1,h2,h3⟩:=h;exact(aQ tr (g _ _ h1) h2 (λi t ht=>by obtain⟨r,q1,q2⟩:=h3 i t ht;exact(xWP r q1 (g _ _ q2))))
theorem gM.item{H:Hp}{a:Addr}{ts:MM.aV}(h:gM H a ts){i:Nat}(hi:i<ts.length):∃xs r,H a=some (.lst xs)/\xs.length=ts.length/\atI xs (i:Int)=some (.ref r)/\H r=some (.tup [vn (ts.getD i (0,0)).1,vn (ts.getD i (0,0)).2]):=by
 obtain⟨tr,h1,h2,h3⟩:=h;obtain⟨r,q1,q2⟩:=h3 i ts[i] (Zz hi);refine(aP _ r h1 (by rw[Zq];exact h2) (bM (by rw[Zk,q1];rfl)) ?_);simp only[List.getD,Zz hi,YR];exact q2
theorem oH.item{H:Hp}{a:Addr}{os:MM.aR}(h:oH H a os){i:Nat}(hi:i<os.length):∃xs r,H a=some (.lst xs)/\xs.length=os.length/\atI xs (i:Int)=some (.ref r)/\H r=some (.lst (vns (MM.row os i))):=by
 obtain⟨tr,h1,h2,h3⟩:=h;obtain⟨r,q1,q2⟩:=h3 i os[i] (Zz hi);refine(aP _ r h1 (by rw[Zq];exact h2) (bM (by rw[Zk,q1];rfl)) ?_);unfold MM.row;simp only[List.getD,Zz hi,YR];exact q2
theorem j4{l:List Nat}{j:Nat}(h:j<l.length){k:Int}(hk:k=(j:Int)):atI (vns l) k=some (vn (l.getD j 0)):=by
 subst hk;exact bM (by rw[Zk,Zz h];simp[List.getD,h])
theorem BB{l:List Nat}{x:Nat}(h:x∈l):atI (vns l) ((l.idxOf x:Nat)-1:Int)=some (vn (MM.bW l x)):=by
 have h1:=ZM h;unfold MM.bW;rcases Nat.eq_zero_or_pos (l.idxOf x) with q | q
 ·have e:(l.idxOf x+l.length-1)%l.length=l.length-1:=by rw[q,Nat.zero_add];exact Nat.mod_eq_of_lt (by omega)
  rw[e];unfold atI ixN;rw[Ya (by lia),Yb (by simp;lia)];have e2:((l.idxOf x:Nat)-1+((vns l).length:Int)).toNat=l.length-1:=by simp;omega
  show(vns l)[((l.idxOf x:Nat)-1+((vns l).length:Int)).toNat]?=_;rw[e2,Zk,Zz (by lia)];have:l.length-1<l.length:=by lia
  simp[List.getD,this]
 ·have e:(l.idxOf x+l.length-1)%l.length=l.idxOf x-1:=by
   have:l.idxOf x+l.length-1=(l.idxOf x-1)+l.length:=by lia
   rw[this,Nat.add_mod_right];exact Nat.mod_eq_of_lt (by omega)
  rw[e];exact j4 (by omega) (by omega)
end L2
set_option linter.all false
set_option maxRecDepth 100000
set_option maxHeartbeats 4000000
namespace L2
open PySem PySem.Spec PyProof.Rows
theorem wX{J:It}{js:List (Option Nat)}{σ:St}{H1:Hp}{R:Hp->Prop}{D:Addr}{g:TG}{te:TE}(n:Nat)(Pe:Nat->V->Prop)(hD:H1 D=none)(hn:n<=100000)
  (go:∀i H',i<n->aJ H1 H'->J.go i H') (stop:∀H',aJ H1 H'->J.stop n H')
  (hs:∀i H' x H'' (k:V->Hp->Prop),i<n->aJ H1 H'->J.yld i H' x H''->(∀v H4,Pe i v->aJ H' H4->k v H4)->g x (inner js σ) H'' λσ2 H2=>Fills (inner js σ) σ2/\te σ2 H2 k)
  (hd:∀vs H',vs.length=n->(∀(i:Nat) v,vs[i]?=some v->Pe i v)->aJ H1 H'->H' D=some (.lst vs)->R H') :
  ∃W:Nat->Nat->List V->Hp->Prop,(∃m,W 0 m [] (upd H1 D (.lst []))) /\
   ∀i m ys H,W i m ys H->(J.stop i H/\R H)\/(J.go i H/\∃N:List V->Hp->Prop,(∀ys' H',N ys' H'->∃m',m' < m/\W (i+1) m' ys' H')/\∀x H',J.yld i H x H'->g x (inner js σ) H' λσ2 H2=>Fills (inner js σ) σ2/\sG σ2 H2 λb H3 =>
    If b (te σ2 H3 λy H4=>H4 D=some (.lst ys)/\ys.length<ZW/\N (ys++[y]) (upd H4 D (.lst (ys++[y])))) (N ys H3)):=by
 refine comp_map n (λi ys H'=>ys.length=i/\(∀(j:Nat) v,ys[j]?=some v->Pe j v)/\aJ H1 H'/\H' D=some (.lst ys)) (cH rfl (λj v h=>by simp at h) (aB hD _) aA) ?_ ?_
 ·rintro i ys H' hi ⟨hl,hp,g1,hD'⟩;refine⟨go i H' hi g1,λx H'' hy=>hs i H' x H'' _ hi g1 hy λv H4 hv g4=>(gK (g4 _ _ hD') ?_ ?_ ?_ ?_ aA)⟩
  ·rw[hl];exact Xz hi (YQ hn (by decide))
  ·rw[Zm,hl];rfl
  ·intro j v' h;by_cases hj:j<ys.length
   ·rw[Zx hj]at h;exact hp j v' h
   ·rw[Zy (by lia)]at h;have hj2:j-ys.length=0:=by
     have:=(Zj.mp h).1;simp at this;lia
    rw[hj2]at h;simp at h;subst h;have:j=i:=by lia
    subst this;exact hv
  ·exact λb o h=>by rw[aE (aC h hD)];exact g4 _ _ (g1 _ _ h)
 ·rintro ys H' ⟨hl,hp,g1,hD'⟩;exact⟨stop H' g1,hd ys H' hl hp g1 hD'⟩
theorem HY{vs:List V}{n:Nat}{fs:Nat->V}(hl:vs.length=n)(h:∀(i:Nat) v,vs[i]?=some v->v=fs i):vs=(ZR n).map fs:=by
 apply Yt;intro i;by_cases hi:i<n
 ·rw[Zk,Yk hi];obtain⟨v,hv⟩:∃v,vs[i]?=some v:=⟨vs[i],Zz (by lia)⟩
  rw[hv,h i v hv];rfl
 ·rw[Zr (by lia),Zr (by simp;lia)]
theorem bD{J:It}{js:List (Option Nat)}{σ:St}{H1:Hp}{R:Hp->Prop}{D:Addr}{g:TG}{te:TE}(n:Nat)(fs:Nat->V)(hD:H1 D=none)(hn:n<=100000)
  (go:∀i H',i<n->aJ H1 H'->J.go i H') (stop:∀H',aJ H1 H'->J.stop n H')
  (hs:∀i H' x H'' (k:V->Hp->Prop),i<n->aJ H1 H'->J.yld i H' x H''->(∀H4,aJ H' H4->k (fs i) H4)->g x (inner js σ) H'' λσ2 H2=>Fills (inner js σ) σ2/\te σ2 H2 k)
  (hd:∀H',aJ H1 H'->H' D=some (.lst ((ZR n).map fs))->R H') :
  ∃W:Nat->Nat->List V->Hp->Prop,(∃m,W 0 m [] (upd H1 D (.lst []))) /\
   ∀i m ys H,W i m ys H->(J.stop i H/\R H)\/(J.go i H/\∃N:List V->Hp->Prop,(∀ys' H',N ys' H'->∃m',m' < m/\W (i+1) m' ys' H')/\∀x H',J.yld i H x H'->g x (inner js σ) H' λσ2 H2=>Fills (inner js σ) σ2/\sG σ2 H2 λb H3 =>
    If b (te σ2 H3 λy H4=>H4 D=some (.lst ys)/\ys.length<ZW/\N (ys++[y]) (upd H4 D (.lst (ys++[y])))) (N ys H3)) :=
 wX n (λi v=>v=fs i) hD hn go stop (λi H' x H'' k hi g1 hy hk=>hs i H' x H'' k hi g1 hy λH4 g4=>hk _ _ rfl g4)
  λvs H' hl hp g1 e=>hd H' g1 (by rw[e,HY hl hp])
def at0(ls:List Int)(j:Nat):Int:=ls.getD j 0
theorem bR{ls:List Int}{j:Nat}(h:j<ls.length):(ls.map V.int)[j]?=some (.int (at0 ls j)):=by
 unfold at0;rw[Zk,Zz h];simp[List.getD,h]
theorem fL{ls:List Int}{j:Nat}(h:j<ls.length):at0 ls j∈ls:=by
 unfold at0;simp[List.getD,h]
theorem aU{ls:List Int}{j:Nat}(h:j<ls.length){k:Int}(hk:k=(j:Int)):atI (ls.map V.int) k=some (.int (at0 ls j)):=by
 subst hk;exact bM (bR h)
def vo:Option Int->V
 |none=>.non
 |some i=>.int i
abbrev vos(l:List (Option Int)):List V:=l.map vo
def ov(l:List (Option Int))(j:Nat):Option Int:=l.getD j none
theorem xD{l:List (Option Int)}{j:Nat}(h:j<l.length):(vos l)[j]?=some (vo (ov l j)):=by
 unfold ov vos;rw[Zk,Zz h];simp[List.getD,h]
theorem rM{l:List (Option Int)}{j:Nat}(h:j<l.length){k:Int}(hk:k=(j:Int)):atI (vos l) k=some (vo (ov l j)):=by
 subst hk;exact bM (xD h)
theorem zS(l:List (Option Int))(j:Nat)(o:Option Int):(vos l).set j (vo o)=vos (l.set j o):=by unfold vos;rw[ZG]
theorem fV{n j:Nat}{k:Int}(h:j<n)(hk:k=(j:Int)):ixN n k=some j:=by
 subst hk;unfold ixN;rw[Yb (by lia),Yb (by lia)];simp
theorem kW{H:Hp}{a:Addr}{ns:List Int}(h:H a=some (.lst (ns.map V.int))):Bd H (.ref a) (.list (ns.map PyData.int)):=.lst (SqL.of h) (nE ns)
theorem uL{ds:List PyData}(n:Nat)(h:∀d∈ds,d.canLay0=true/\d.depth<=n):PyData.canLayAll0 ds=true/\PyData.depthAll ds<=n:=by
 induction ds with
 |nil=>exact⟨rfl,YZ _⟩
 |cons d ds ih =>
  have h1:=h d Zd;have h2:=ih λx hx=>h x (Zw _ hx);refine⟨by rw[PyData.canLayAll0,h1.1,h2.1];rfl,?_⟩;rw[PyData.depthAll];exact Nat.max_le.mpr ⟨h1.2,h2.2⟩
theorem lay_ints(ns:List Int):PyData.canLayAll0 (ns.map PyData.int)=true/\PyData.depthAll (ns.map PyData.int)<=2:=uL 2 λd hd=>by
 obtain⟨n,_,rfl⟩:=Zh.mp hd;exact⟨rfl,by simp[PyData.depth]⟩
theorem via{tt r:TS}{D:Ends}{σ:St}{H:Hp}(I:St->Hp->Prop)(ht:(∀σ' H',I σ' H'->r D σ' H')->tt { D with nx:=r D } σ H)(hr:∀σ' H',I σ' H'->r D σ' H'):BO tt r D σ H:=ht hr
theorem EI{vs:List V}(h:∀(i:Nat) v,vs[i]?=some v->∃z:Int,v=.int z):∃cs:List Int,vs=cs.map V.int/\cs.length=vs.length:=by
 induction vs with
 |nil=>exact(xWP ([]) rfl rfl)
 |cons v vs ih =>
  obtain⟨z,rfl⟩:=h 0 v rfl;obtain⟨cs,h1,h2⟩:=ih λi v hv=>h (i+1) v (by simpa using hv);exact(xWP (z::cs) (by rw[h1];rfl) (by simp[h2]))
theorem shaped_ints(ns:List Int):SeqAt.shaped (.list (ns.map PyData.int))=true:=by
 have h:=lay_ints ns;unfold SeqAt.shaped;rw[Xg];refine⟨h.1,Ye ?_⟩;rw[PyData.depth]
 lia
theorem dD{a:Addr}{xs:List V}{g:TG}{tb:TS}{D:Ends}{σ:St}{H:Hp}(Pv:Nat->St->Hp->Prop)(h0:Pv 0 σ H)(hl:∀i σ H,i<=xs.length->Pv i σ H->SqL H a xs)
  (hs:∀(i:Nat) x σ H T,xs[i]?=some x->Pv i σ H->H T=none->g (.ref T) σ (upd H T (.tup [vn i,x])) λσ2 H2=>tb { D with nx:=Pv (i+1),ct:=Pv (i+1),bk:=D.nx } σ2 H2) (hd:∀σ H,Pv xs.length σ H->D.nx σ H) :
  ∃W:Nat->Nat->St->Hp->Prop,(∃m,W 0 m σ H)/\∀i m σ H,W i m σ H ->
   ((Ite a).stop i H/\D.nx σ H)\/((Ite a).go i H/\∃N:St->Hp->Prop,(∀σ' H',N σ' H'->∃m',m' < m/\W (i+1) m' σ' H')/\∀x H',(Ite a).yld i H x H'->g x σ H' λσ2 H2=>tb { D with nx:=N,ct:=N,bk:=D.nx } σ2 H2):=by
 refine(xWP (λi m σ H=>m=xs.length-i/\i<=xs.length/\Pv i σ H) (aQ xs.length (by simp) (YZ _) h0) ?_);rintro i m σ H ⟨rfl,hi,p⟩;have q:=hl i σ H hi p;by_cases hlt:i<xs.length
 ·refine .inr (gJ (cG xs (xs[i]) q (by simp[hlt])) (Pv (i+1)) (λσ' H' p'=>(dA (xs.length-(i+1)) (by omega) rfl hlt p')) (λx H' y=>?_));obtain⟨T,x',rfl,hT,rfl,y⟩:=y;exact hs i x' σ _ T (y xs q) p hT
 ·have e:i=xs.length:=by lia
  subst e;exact .inl ⟨(xWP xs q (ZC _)),hd σ H p⟩
theorem qJ(ns:List Int):∀k,k<=ns.length->PySem.preSum (at0 ns) k=(ns.take k).sum
 |0,_=>by simp[PySem.preSum]
 |k+1,h=>by
  rw[PySem.preSum,qJ ns k (by lia),List.take_succ,List.sum_append];have hk:k<ns.length:=by lia
  unfold at0;simp[List.getD,hk]
section
variable{X:Cx}{pins:List (Addr×Obj)}{σ:St}{H:Hp}{s:Shared}
theorem f9{p:Addr}{its:List Value}(pl:PlainL s.heap p its.toArray) :
  (s.heap.push { cls:=.type "list_iterator",data:=.fields #[.ref p,.int 0 0] }).IsListIter s.heap.objs.size p 0/\(s.heap.push { cls:=.type "list_iterator",data:=.fields #[.ref p,.int 0 0] }).IsList p its.toArray:=by
 obtain⟨o,n,e,hc,hd,hs⟩:=pl;exact(kZ (aQ _ (YU _ rfl) rfl rfl) o (YW _ e) hc ⟨ n,hs⟩)
theorem jO{p:Addr}{its:List Value}(pl:PlainL s.heap p its.toArray):p<s.heap.objs.size:=by
 obtain⟨o,n,e,_⟩:=pl;exact YV e
theorem dR(hc:X.calm=true):fE X (.builtin "sum") (λxs H Q=>∃(p:Addr) (ns:List Int),xs=[.ref p]/\SqL H p (ns.map V.int)/\Q (.int ns.sum) H):=by
 intro pins s σ H xs us Q I r h;obtain⟨p,ns,rfl,hq,q⟩:=h;obtain⟨u,rfl,rx⟩:=vals1 r;cases rx;obtain⟨its,rv,pl,hz⟩:=I.list hq;have hl:=rv.length;rw[Zq]at hl;have hp:=jO pl;refine call_sum_walkG (wpAny_pyIter_list pl.isList ?_);refine(cQ s.heap.objs.size ([s.heap.objs.size,p]) ([s.heap.objs.size]) its.toArray.size _ _ (at0 ns) rfl (Walks.list (show X.A.in1.handled=none from I.ok.hd hc) _ p (ZA hp) its.toArray) (cH (f9 pl) (λb hb=>?_) (λi v hv=>?_) (λh' tk t' hk=>?_)))
 ·have:=YV (YU s.heap (o:={ cls:=.type "list_iterator",data:=.fields #[.ref p,.int 0 0] }) rfl);simp only[Zn,ZL,or_false]at hb;rcases hb with rfl | rfl
  ·exact this
  ·exact Nat.lt_trans hp this
 ·have hi:its[i]?=some v:=by simpa using hv
  have hi2:i<ns.length:=by rw[hl];exact(Zj.mp hi).1
  obtain⟨u',hu,ru⟩:=rv.get (bR hi2);rw[hi]at hu;cases hu;exact ru
 ·refine(aH (.int ns.sum) H (I.kept (h':=h') (t':=tk) λb o e=>?_) ⟨t',?_⟩ q)
  ·refine hk b o ?_ (YW _ e);simp only[Zn,ZL,or_false];exact ZA (YV e)
  ·rw[ZE,<-hl,qJ ns _ (ZC _),Yv]
end
theorem all_range(bs:List Bool):(ZR bs.length).all (λi=>bs.getD i true)=bs.all id:=by
 rw[Xh,ZD,ZD];constructor
 ·intro h b hb;obtain⟨i,hi,rfl⟩:=List.getElem_of_mem hb;have:=h i (by simpa using hi);simpa[List.getD,hi] using this
 ·intro h i hi;have hi':i<bs.length:=by simpa using hi
  have:=h bs[i] (Zp hi');simpa[List.getD,hi'] using this
theorem any_range(ns:List Int):(ZR ns.length).any (λi=>at0 ns i != 0)=ns.any (· != 0):=by
 rw[Xh,List.any_eq_true,List.any_eq_true];constructor
 ·rintro⟨i,hi,h⟩;have hi':i<ns.length:=by simpa using hi
  exact(xWP _ (fL hi') h)
 ·rintro⟨x,hx,h⟩;obtain⟨i,hi,rfl⟩:=List.getElem_of_mem hx;exact(xWP i (by simpa using hi) (by simpa[at0,List.getD,hi] using h))
section
variable{X:Cx}
theorem iX(hc:X.calm=true):fE X (.builtin "all") (λxs H Q=>∃(p:Addr) (bs:List Bool),xs=[.ref p]/\SqL H p (bs.map V.bl)/\Q (.bl (bs.all id)) H):=by
 intro pins s σ H xs us Q I r h;obtain⟨p,bs,rfl,hq,q⟩:=h;obtain⟨u,rfl,rx⟩:=vals1 r;cases rx;obtain⟨its,rv,pl,hz⟩:=I.list hq;have hl:=rv.length;rw[Zq]at hl;have hp:=jO pl;refine call_all_walk (wpAny_pyIter_list pl.isList ?_);refine(cQ s.heap.objs.size ([s.heap.objs.size,p]) ([s.heap.objs.size]) its.toArray.size _ _ (λi=>bs.getD i true) rfl (Walks.list (show X.A.in1.handled=none from I.ok.hd hc) _ p (ZA hp) its.toArray) (xPP (f9 pl) (λi v s' Q' E' hv hQ=>?_) (λh' tk hk=>?_)))
 ·have hi:its[i]?=some v:=by simpa using hv
  have hi2:i<bs.length:=by rw[hl];exact(Zj.mp hi).1
  obtain⟨u',hu,ru⟩:=rv.get (show(bs.map V.bl)[i]?=some (.bl (bs.getD i true)) by rw[Zk,Zz hi2];simp[List.getD,hi2]);rw[hi]at hu;cases hu;cases ru;exact wpAny_truthy_bool hQ
 ·refine(aH (.bl (bs.all id)) H (I.kept (h':=h') (t':=tk) λb o e=>?_) ?_ q)
  ·refine hk b o ?_ (YW _ e);simp only[Zn,ZL,or_false];exact ZA (YV e)
  ·show Value.bool _=Value.bool _;rw[ZE,<-hl,all_range]
theorem CW(hc:X.calm=true):fE X (.builtin "any") (λxs H Q=>∃(p:Addr) (ns:List Int),xs=[.ref p]/\SqL H p (ns.map V.int)/\Q (.bl (ns.any (· != 0))) H):=by
 intro pins s σ H xs us Q I r h;obtain⟨p,ns,rfl,hq,q⟩:=h;obtain⟨u,rfl,rx⟩:=vals1 r;cases rx;obtain⟨its,rv,pl,hz⟩:=I.list hq;have hl:=rv.length;rw[Zq]at hl;have hp:=jO pl;refine call_any_walk (wpAny_pyIter_list pl.isList ?_);refine(cQ s.heap.objs.size ([s.heap.objs.size,p]) ([s.heap.objs.size]) its.toArray.size _ _ (λi=>at0 ns i != 0) rfl (Walks.list (show X.A.in1.handled=none from I.ok.hd hc) _ p (ZA hp) its.toArray) (xPP (f9 pl) (λi v s' Q' E' hv hQ=>?_) (λh' tk hk=>?_)))
 ·have hi:its[i]?=some v:=by simpa using hv
  have hi2:i<ns.length:=by rw[hl];exact(Zj.mp hi).1
  obtain⟨u',hu,ru⟩:=rv.get (bR hi2);rw[hi]at hu;cases hu;obtain⟨t,rfl⟩:=ru;exact PySem.P.truthy_int hQ
 ·refine(aH (.bl (ns.any (· != 0))) H (I.kept (h':=h') (t':=tk) λb o e=>?_) ?_ q)
  ·refine hk b o ?_ (YW _ e);simp only[Zn,ZL,or_false];exact ZA (YV e)
  ·show Value.bool _=Value.bool _;rw[ZE,<-hl,any_range]
end
section
variable{X:Cx}
theorem fW(hc:X.calm=true):fE X (.builtin "min") (λxs H Q=>∃(p:Addr) (ns:List Int),xs=[.ref p]/\SqL H p (ns.map V.int)/\0<ns.length/\∀m:Int,m∈ns->(∀x∈ns,m<=x)->Q (.int m) H):=by
 intro pins s σ H xs us Q I r h;obtain⟨p,ns,rfl,hq,h0,q⟩:=h;obtain⟨u,rfl,rx⟩:=vals1 r;cases rx;obtain⟨its,rv,pl,hz⟩:=I.list hq;have hl:=rv.length;rw[Zq]at hl;have hp:=jO pl;have hv:∀(i:Nat) (v:Value),its.toArray[i]?=some v->∃t,v=Value.int (at0 ns i) t:=λi v hv=>by
  have hi:its[i]?=some v:=by simpa using hv
  have hi2:i<ns.length:=by rw[hl];exact(Zj.mp hi).1
  obtain⟨u',hu,ru⟩:=rv.get (bR hi2);rw[hi]at hu;cases hu;exact ru
 have hb:=argBest_lt (at0 ns) (its.toArray.size-1);refine call_min_walk (wpAny_pyIter_list pl.isList ?_);refine(cQ s.heap.objs.size ([s.heap.objs.size,p]) ([s.heap.objs.size]) its.toArray.size _ _ _ rfl (Walks.list (show X.A.in1.handled=none from I.ok.hd hc) _ p (ZA hp) its.toArray) (bU (f9 pl) (λb hb=>?_) (by simp;lia) (CmpOf.ints_lt (at0 ns) hv) (λv h' tk hP hk=>?_)))
 ·have:=YV (YU s.heap (o:={ cls:=.type "list_iterator",data:=.fields #[.ref p,.int 0 0] }) rfl);simp only[Zn,ZL,or_false]at hb;rcases hb with rfl | rfl
  ·exact this
  ·exact Nat.lt_trans hp this
 ·obtain⟨t,rfl⟩:=hv _ _ hP;have hsz:its.toArray.size=ns.length:=by simp[hl]
  refine(aH (.int _) H (I.kept (h':=h') (t':=tk) λb o e=>?_) ⟨t,rfl⟩ (q _ (fL (by omega)) λx hx=>?_))
  ·refine hk b o ?_ (YW _ e);simp only[Zn,ZL,or_false];exact ZA (YV e)
  ·obtain⟨i,hi,rfl⟩:=List.getElem_of_mem hx;have:=hb.2 i (by lia);have e:at0 ns i=ns[i]:=by unfold at0;simp[List.getD,hi]
   rw[<-e];exact this
theorem kT(hc:X.calm=true):fE X (.builtin "max") (λxs H Q=>∃(p:Addr) (ns:List Int),xs=[.ref p]/\SqL H p (ns.map V.int)/\0<ns.length/\∀m:Int,m∈ns->(∀x∈ns,x<=m)->Q (.int m) H):=by
 intro pins s σ H xs us Q I r h;obtain⟨p,ns,rfl,hq,h0,q⟩:=h;obtain⟨u,rfl,rx⟩:=vals1 r;cases rx;obtain⟨its,rv,pl,hz⟩:=I.list hq;have hl:=rv.length;rw[Zq]at hl;have hp:=jO pl;have hv:∀(i:Nat) (v:Value),its.toArray[i]?=some v->∃t,v=Value.int (at0 ns i) t:=λi v hv=>by
  have hi:its[i]?=some v:=by simpa using hv
  have hi2:i<ns.length:=by rw[hl];exact(Zj.mp hi).1
  obtain⟨u',hu,ru⟩:=rv.get (bR hi2);rw[hi]at hu;cases hu;exact ru
 have hb:=argBest_gt (at0 ns) (its.toArray.size-1);refine call_max_walk (wpAny_pyIter_list pl.isList ?_);refine(cQ s.heap.objs.size ([s.heap.objs.size,p]) ([s.heap.objs.size]) its.toArray.size _ _ _ rfl (Walks.list (show X.A.in1.handled=none from I.ok.hd hc) _ p (ZA hp) its.toArray) (bU (f9 pl) (λb hb=>?_) (by simp;lia) (CmpOf.ints_gt (at0 ns) hv) (λv h' tk hP hk=>?_)))
 ·have:=YV (YU s.heap (o:={ cls:=.type "list_iterator",data:=.fields #[.ref p,.int 0 0] }) rfl);simp only[Zn,ZL,or_false]at hb;rcases hb with rfl | rfl
  ·exact this
  ·exact Nat.lt_trans hp this
 ·obtain⟨t,rfl⟩:=hv _ _ hP;have hsz:its.toArray.size=ns.length:=by simp[hl]
  refine(aH (.int _) H (I.kept (h':=h') (t':=tk) λb o e=>?_) ⟨t,rfl⟩ (q _ (fL (by omega)) λx hx=>?_))
  ·refine hk b o ?_ (YW _ e);simp only[Zn,ZL,or_false];exact ZA (YV e)
  ·obtain⟨i,hi,rfl⟩:=List.getElem_of_mem hx;have:=hb.2 i (by lia);have e:at0 ns i=ns[i]:=by unfold at0;simp[List.getD,hi]
   rw[<-e];exact this
def unl(ns:List Int):Nat:=(firstMet (λi=>ns.getD i 0) ns.length).length
theorem tJ(hc:X.calm=true):fE X (.type "set") (λxs H Q=>∃(p:Addr) (ns:List Int),xs=[.ref p]/\SqL H p (ns.map V.int)/\ns.length<4000/\∀(r:Addr) (S:Int->Bool),H r=none->Q (.ref r) (upd H r (.set S (unl ns)))):=by
 intro pins s σ H xs us Q I r h;obtain⟨p,ns,rfl,hq,h0,q⟩:=h;obtain⟨u,rfl,rx⟩:=vals1 r;cases rx;obtain⟨its,rv,pl,hz⟩:=I.list hq;have hl:=rv.length;rw[Zq]at hl;refine call_set_list (ns:=ns) (I.ok.hd hc) pl.isList (by simpa using intsAre_of rv) (by simp;show its.length+1<4096;lia) λh' tk hS hk=>?_;have hS':cC X.prog X.w (upd H s.heap.objs.size (.set (λk'=>(firstMet (λi=>ns.getD i 0) its.toArray.size).any λx=>x==k') (unl ns))) h' s.heap.objs.size (.set (λk'=>(firstMet (λi=>ns.getD i 0) its.toArray.size).any λx=>x==k') (unl ns)):=by
  unfold unl;rw[show its.toArray.size=ns.length by simp[hl]]at hS ⊢;exact hS
 exact(aH (.ref s.heap.objs.size) _ (I.laid (t':=tk) (λb o e=>hk b o (YV e) e) (ZC _) hS') rfl (q _ _ I.fresh))
theorem lD:fE X (.builtin "len") (λxs H Q=>∃(p:Addr) (S:Int->Bool) (n:Nat),xs=[.ref p]/\H p=some (.set S n)/\Q (.int n) H):=by
 intro pins s σ H xs us Q I r h;obtain⟨p,S,n,rfl,hp,q⟩:=h;obtain⟨u,rfl,rx⟩:=vals1 r;cases rx;obtain⟨o,es,ep,t,ho,hx,hd,_,_,hz,hf,hn⟩:=(show s.heap.SetOf (intKind X.prog X.w) p S n from I.hok p _ hp)
 have hz':es.size<4096:=hz;exact call_len_set ho hx hd hf (by lia) (aH (.int n) H (I.tok _) ⟨_,by rw[hn]⟩ q)
end
theorem kR:∀(l acc:List Int),acc.Nodup->(l.foldl step_dedup acc).length<=acc.length+l.length/\((l.foldl step_dedup acc).length=acc.length+l.length↔(acc++l).Nodup)
 |[],acc,h=>by simp[h]
 |x::l,acc,h=>by
  rw[List.foldl_cons];by_cases hx:x∈acc
  ·have e:step_dedup acc x=acc:=by unfold step_dedup;simp[hx]
   rw[e];have ih:=kR l acc h;refine⟨by simp;lia,⟨λz=>?_,λz=>?_⟩⟩
   ·simp at z;lia
   ·rw[List.nodup_append]at z;exact Yg rfl (z.2.2 x hx x Zd)
  ·have e:step_dedup acc x=acc++[x]:=by unfold step_dedup;simp[hx]
   rw[e];have hn:(acc++[x]).Nodup:=by
    rw[List.nodup_append];exact(xPP h (by simp) (λa ha b hb z=>by simp at hb;subst hb;subst z;exact hx ha))
   have ih:=kR l (acc++[x]) hn;rw[Yn]at ih;simp only[Zm,Yq,List.length_nil]at ih ⊢;refine⟨by lia,?_⟩;rw[show acc.length+(l.length+1)=acc.length+(0+1)+l.length by lia];exact ih.2
theorem oZ(ns:List Int):unl ns=ns.length↔ns.Nodup:=by
 unfold unl firstMet;have e:(ZR ns.length).map (λi=>ns.getD i 0)=ns:=by
  apply Yt;intro i;by_cases h:i<ns.length
  ·simp[h]
  ·simp[h]
 rw[e];have:=(kR ns [] List.nodup_nil).2;simpa using this
section
variable{X:Cx}
theorem uU:fE X (.builtin "sorted") (λxs H Q=>∃p ns,xs=[.ref p]/\SqL H p (ns.map V.int)/\ns.length<64/\∀(l:Addr) (ns':List Int),H l=none->ns'.Perm ns->ns'.Pairwise (·<=·)->Q (.ref l) (upd H l (.lst (ns'.map V.int)))):=by
 intro pins s σ H xs us Q I r h;obtain⟨p,ns,rfl,hq,h64,q⟩:=h;obtain⟨u,rfl,rx⟩:=vals1 r;cases rx;obtain⟨its,r',pl,hz⟩:=I.list hq;have hlen:=r'.length;rw[Zq]at hlen;refine sorted_ints (ns:=ns) (vs:=its) pl.isList (intsAre_of r') (by lia) λout ns' a1 a2 a3=>?_;obtain⟨e,he⟩:=sortedAll_at s.heap its out;have rv:=kJ a1;refine(aH (.ref (s.heap.objs.size+1)) _ (I.laid (t':=s.toks) (λ_ _=>sortedAll_old) (Nat.le_succ _) (show cC X.prog X.w _ _ _ (.lst (ns'.map V.int)) from(fF ?_ out.toList e rv he))) rfl (q _ ns' (I.hok.fresh (Nat.le_succ _)) a2 a3));rw[Zq,a2.length_eq];exact YQ (by lia:ns.length<=64) (by decide)
end
section
variable{κ:Type}[DecidableEq κ]
def eL(kvs:List (κ×V))(k:κ):Option V:=(kvs.find? λkv=>decide (kv.1=k)).map (·.2)
def putK(kvs:List (κ×V))(k:κ)(v:V):List (κ×V) :=
 if (kvs.any λkv=>decide (kv.1=k))=true then kvs.map (λkv=>if kv.1=k then (kv.1,v) else kv) else kvs++[(k,v)]
theorem dP{p:κ×V}{r:List (κ×V)}{k:κ}(e:p.1=k):eL (p::r) k=some p.2:=by simp[eL,List.find?_cons,e]
theorem dJ{p:κ×V}{r:List (κ×V)}{k:κ}(e:¬p.1=k):eL (p::r) k=eL r k:=by simp[eL,List.find?_cons,e]
theorem jK(k:κ):∀kvs:List (κ×V),(kvs.any λkv=>decide (kv.1=k))=(eL kvs k).isSome
 |[]=>rfl
 |p::r=>by
  rw[List.any_cons];by_cases e:p.1=k
  ·simp only[dP e,Ye e,Bool.true_or,Option.isSome_some]
  ·rw[dJ e,Yc e,Bool.false_or];exact jK k r
theorem vA(k j:κ)(y:V):∀kvs:List (κ×V),eL (kvs.map λkv=>if kv.1=k then (kv.1,y) else kv) j=(eL kvs j).map λx=>if j=k then y else x
 |[]=>rfl
 |p::r=>by
  have ih:=vA k j y r;rw[ZI];by_cases h:p.1=k
  ·rw[Yb h];by_cases e:p.1=j
   ·rw[dP (p:=(p.1,y)) e,dP e,Option.map_some,Yb (e.symm.trans h)]
   ·rw[dJ (p:=(p.1,y)) e,dJ e,ih]
  ·rw[Ya h];by_cases e:p.1=j
   ·rw[dP (p:=p) e,dP e,Option.map_some,Ya (λz=>h (e.trans z))]
   ·rw[dJ (p:=p) e,dJ e,ih]
theorem sF(k j:κ)(y:V):∀kvs:List (κ×V),eL kvs k=none->eL (kvs++[(k,y)]) j=if j=k then some y else eL kvs j
 |[],_=>by
  by_cases e:k=j
  ·rw[Yb e.symm];exact dP (p:=(k,y)) e
  ·rw[Ya (λz=>e z.symm)];exact dJ (p:=(k,y)) e
 |p::r,hn=>by
  rw[List.cons_append];have hk:¬p.1=k:=λz=>by rw[dP z]at hn;cases hn
  rw[dJ hk]at hn;have ih:=sF k j y r hn;by_cases e:p.1=j
  ·rw[dP e,dP e,Ya (λz=>hk (e.trans z))]
  ·rw[dJ e,dJ e,ih]
theorem pY(kvs:List (κ×V))(k j:κ)(y:V):eL (putK kvs k y) j=if j=k then some y else eL kvs j:=by
 unfold putK;by_cases a:(kvs.any λkv=>decide (kv.1=k))=true
 ·rw[Yb a,vA];rw[jK]at a;by_cases e:j=k
  ·obtain⟨x,hx⟩:=Option.isSome_iff_exists.mp a;rw[Yb e,e,hx,Option.map_some,Yb rfl]
  ·rw[Ya e];cases eL kvs j with
   |none=>rfl
   |some x=>rw[Option.map_some,Ya e]
 ·rw[Ya a];refine sF k j y kvs ?_;rw[jK]at a;cases q:eL kvs k with
  |none=>rfl
  |some x=>rw[q]at a;exact(a rfl).elim
theorem jU(kvs:List (κ×V))(k:κ)(v:V):(putK kvs k v).length<=kvs.length+1:=by
 unfold putK;split
 ·rw[Zq];lia
 ·rw[Zm,Yq,List.length_nil];lia
theorem EL{kvs:List (κ×V)}{k:κ}(v:V)(h:eL kvs k=none):putK kvs k v=kvs++[(k,v)]:=by
 unfold putK;rw[jK,h];exact Ya (by decide)
theorem uX.isSome_eq{o:Option V}{u:Option Value}(r:uX o u):o.isSome=u.isSome:=by
 cases o with
 |none=>cases u with
  |none=>rfl
  |some _=>exact(show False from r).elim
 |some _=>cases u with
  |none=>exact(show False from r).elim
  |some _=>rfl
theorem KV.val{kvs:List (κ×V)}{vs:List (κ×Value)}(r:KV kvs vs)(k:κ):uX (eL kvs k) (valueAt vs k):=by
 unfold KV at r;induction r with
 |nil=>exact True.intro
 |@cons p q ps qs h t ih =>
  obtain⟨h1,h2⟩:=h;by_cases e:p.1=k
  ·have e':q.1=k:=h1.symm.trans e;have b:valueAt (q::qs) k=some q.2:=by simp[valueAt,List.find?_cons,e']
   rw[dP e,b];exact h2
  ·have e':¬q.1=k:=λz=>e (h1.trans z);have b:valueAt (q::qs) k=valueAt qs k:=by simp[valueAt,List.find?_cons,e']
   rw[dJ e,b];exact ih
theorem KV.any{kvs:List (κ×V)}{vs:List (κ×Value)}(r:KV kvs vs)(k:κ):(kvs.any λkv=>decide (kv.1=k))=vs.any λkv=>decide (kv.1=k):=by
 unfold KV at r;induction r with
 |nil=>rfl
 |cons h t ih=>rw[List.any_cons,List.any_cons,ih,h.1]
theorem KV.repl{kvs:List (κ×V)}{vs:List (κ×Value)}(r:KV kvs vs)(k:κ){y:V}{u:Value}(ry:RelV y u) :
  KV (kvs.map λkv=>if kv.1=k then (kv.1,y) else kv) (vs.map λkv=>if kv.1=k then (kv.1,u) else kv):=by
 unfold KV at r ⊢;induction r with
 |nil=>exact .nil
 |@cons p q ps qs h t ih =>
  rw[ZI,ZI];refine .cons ?_ ih;obtain⟨h1,h2⟩:=h;by_cases e:p.1=k
  ·rw[Yb e,Yb (h1.symm.trans e)];exact⟨h1,ry⟩
  ·rw[Ya e,Ya (λz=>e (h1.trans z))];exact⟨h1,h2⟩
theorem KV.put{kvs:List (κ×V)}{vs:List (κ×Value)}(r:KV kvs vs)(k:κ){y:V}{u:Value}(ry:RelV y u):KV (putK kvs k y) (stored vs k u):=by
 unfold putK stored;rw[r.any k];by_cases e:(vs.any λkv=>decide (kv.1=k))=true
 ·rw[Yb e,Yb e];exact r.repl k ry
 ·rw[Ya e,Ya e];exact Paired.snoc r ⟨rfl,ry⟩
theorem KV.keys{kvs:List (κ×V)}{vs:List (κ×Value)}(r:KV kvs vs):kvs.map (·.1)=vs.map (·.1):=by
 unfold KV at r;induction r with
 |nil=>rfl
 |cons h t ih=>rw[ZI,ZI,ih,h.1]
theorem KV.length{kvs:List (κ×V)}{vs:List (κ×Value)}(r:KV kvs vs):kvs.length=vs.length:=Paired.length r
end
theorem AS{P:Program}{w:World}{k:Key}{u:Value}(r:RelV (kV k) u):(cN P w).is k u=true:=by
 cases k with
 |inl i=>obtain⟨t,e⟩:=(show ∃t,u=Value.int i t from r);subst e;exact vZ P w i t
 |inr x=>obtain⟨t,e⟩:=(show ∃t,u=Value.str x t from r);subst e;exact vY P w x t
theorem tG{P:Program}{w:World}:∀{ks:List Key}{us:List Value},a8 (ks.map kV) us->ItemsAre (cN P w) ks us
 |[],_,r=>by rw[List.map_nil]at r;cases r;exact .nil
 |k::ks,_,r=>by
  rw[ZI]at r;cases r with
  |cons h t=>exact .cons (AS h) (tG t)
abbrev KT(H:Hp):List (List Key×V)->List (List Key×Addr×Value)->Prop:=Paired λp q=>p.1=q.1/\H q.2.1=some (.tup (p.1.map kV))/\RelV p.2 q.2.2
theorem KT.val{H:Hp}{kvs:List (List Key×V)}{xs:List (List Key×Addr×Value)}(r:KT H kvs xs)(k:List Key):uX (eL kvs k) ((atKey xs k).map (·.2)):=by
 induction r with
 |nil=>exact True.intro
 |@cons p q ps qs h t ih =>
  obtain⟨h1,_,h2⟩:=h;by_cases e:p.1=k
  ·have e':q.1=k:=h1.symm.trans e;have b:atKey (q::qs) k=some q.2:=by simp[atKey,List.find?_cons,e']
   rw[dP e,b];exact h2
  ·have e':¬q.1=k:=λz=>e (h1.trans z);have b:atKey (q::qs) k=atKey qs k:=by simp[atKey,List.find?_cons,e']
   rw[dJ e,b];exact ih
theorem KT.repl{H:Hp}{kvs:List (List Key×V)}{xs:List (List Key×Addr×Value)}(r:KT H kvs xs)(k:List Key){y:V}{u:Value}(ry:RelV y u) :
  KT H (kvs.map λkv=>if kv.1=k then (kv.1,y) else kv) (xs.map (putAt k u)):=by
 induction r with
 |nil=>exact .nil
 |@cons p q ps qs h t ih =>
  rw[ZI,ZI];refine .cons ?_ ih;obtain⟨h1,h2,h3⟩:=h;unfold putAt;by_cases e:p.1=k
  ·rw[Yb e,Yb (h1.symm.trans e)];exact(xPP h1 h2 ry)
  ·rw[Ya e,Ya (λz=>e (h1.trans z))];exact(xPP h1 h2 h3)
theorem KT.put{H:Hp}{kvs:List (List Key×V)}{xs:List (List Key×Addr×Value)}(r:KT H kvs xs)(k:List Key){b:Addr}{y:V}{u:Value}(hb:H b=some (.tup (k.map kV)))(ry:RelV y u) :
  KT H (putK kvs k y) (storedH xs k b u):=by
 have e:(kvs.any λkv=>decide (kv.1=k))=(atKey xs k).isSome:=by
  rw[jK,(r.val k).isSome_eq,Option.isSome_map]
 unfold putK storedH;rw[e];by_cases q:(atKey xs k).isSome=true
 ·rw[Yb q,Yb q];exact r.repl k ry
 ·rw[Ya q,Ya q];exact Paired.snoc r (xPP rfl hb ry)
theorem KT.keeps{H H':Hp}{kvs:List (List Key×V)}{xs:List (List Key×Addr×Value)}(r:KT H kvs xs)(ht:∀b ys,H b=some (.tup ys)->H' b=some (.tup ys)):KT H' kvs xs :=
 j9 r λ_ _ z=>(xPP z.1 (ht _ _ z.2.1) z.2.2)
section
variable{P:Program}{w:World}{H:Hp}{h:Heap}{a:Addr}
theorem KF{u:HO}(ok:HOk P w H h)(e:Rd H a u):cC P w H h a u:=e.ok ok
theorem tH{kvs:List (Key×V)}(ok:HOk P w H h)(e:Rd H a (.dK kvs)):kvs.length<=ZW/\(a==sysModules)=false/\∃vs,KV kvs vs/\h.DictOf (cN P w) a vs :=
 show cC P w H h a (.dK kvs) from KF ok e
theorem KQ{kvs:List (Key×V)}(ok:HOk P w H h)(e:H a=some (.dK kvs)):kvs.length<=ZW/\(a==sysModules)=false/\∃vs,KV kvs vs/\h.DictOf (cN P w) a vs:=tH ok (.inl e)
theorem uO{ks:List Key}(ok:HOk P w H h)(e:H a=some (.tup (ks.map kV))):(tupleKind (cN P w)).is h ks a:=by
 obtain⟨_,its,r,o,h1,h2,n,h3⟩:=(show cC P w H h a (.tup (ks.map kV)) from ok a _ e)
 exact(dO o its.toArray n h1 h2 h3 (by simpa using tG r))
theorem A2{kvs:List (List Key×V)}(ok:HOk P w H h)(e:Rd H a (.dT kvs)):kvs.length<=ZW/\(a==sysModules)=false /\
  ∃xs,KT H kvs xs/\h.DictOfH (tupleKind (cN P w)) a xs:=by
 obtain⟨z,y,xs,r,o,es,ep,h1,h2,h3,h4,h5⟩:=(show cC P w H h a (.dT kvs) from KF ok e)
 refine(pX z y xs r o es ep h1 h2 (cH h3 h4 (λx hx=>?_) h5));have all:∀{l:List (List Key×V)}{m:List (List Key×Addr×Value)},KT H l m->∀x∈m,(tupleKind (cN P w)).is h x.1 x.2.1:=by
  intro l m q;induction q with
  |nil=>intro x hx;exact nomatch hx
  |@cons p q ps qs hq t ih =>
   intro x hx;rcases Zn.mp hx with e | hx
   ·subst e;exact uO ok (by rw[<-hq.1];exact hq.2.1)
   ·exact ih x hx
 exact all r x hx
theorem OY{kvs:List (List Key×V)}(ok:HOk P w H h)(e:H a=some (.dT kvs)):kvs.length<=ZW/\(a==sysModules)=false /\
  ∃xs,KT H kvs xs/\h.DictOfH (tupleKind (cN P w)) a xs:=A2 ok (.inl e)
end
def iO(H:Hp)(a:Addr)(y:V)(r:Option V):Prop :=
 (∃kvs k,Rd H a (.dK kvs)/\y=kV k/\r=eL kvs k)\/∃kvs k b,Rd H a (.dT kvs)/\y=.ref b/\H b=some (.tup (k.map kV))/\r=eL kvs k
def zN(H:Hp)(a:Addr)(y v:V)(H':Hp):Prop :=
 (∃kvs k,H a=some (.dK kvs)/\y=kV k/\kvs.length<ZW/\H'=upd H a (.dK (putK kvs k v))) \/
 ∃kvs k b,H a=some (.dT kvs)/\y=.ref b/\H b=some (.tup (k.map kV))/\kvs.length<ZW/\H'=upd H a (.dT (putK kvs k v))
theorem iO.k{H:Hp}{a:Addr}{kvs:List (Key×V)}{k:Key}(e:H a=some (.dK kvs)):iO H a (kV k) (eL kvs k):=.inl (aH kvs k (.inl e) rfl rfl)
theorem zN.k{H:Hp}{a:Addr}{kvs:List (Key×V)}{k:Key}{v:V}(e:H a=some (.dK kvs))(hl:kvs.length<ZW):zN H a (kV k) v (upd H a (.dK (putK kvs k v))):=.inl (aP kvs k e rfl hl rfl)
section
variable{X:Cx}{pins:List (Addr×Obj)}{σ:St}{H:Hp}{s:Shared}{a:Addr}{y v:V}{u r:Value}{o:Option V}{A:Around}{E:Value->Shared->Prop}
theorem Inv.big(I:Inv X pins σ H s):sysModules<s.heap.objs.size:=by
 have h:ZV<s.heap.objs.size:=(I.mod.glob.keeps I.bk).lt;exact Nat.lt_trans (by decide) h
theorem CU{Q:Value->Shared->Prop}(hu:A.units+1<cLine)(I:Inv X pins σ H s)(g:iO H a y (some v))(ry:RelV y u)(h:∀w' s',Inv X pins σ H s'->RelV v w'->Q w' s') :
  wpAny (model X.prog X.w) A (getItem (.ref a) u) Q E s:=by
 rcases g with⟨kvs,k,e,ey,l⟩ | ⟨kvs,k,b,e,ey,eb,l⟩
 ·subst ey;obtain⟨z,hd,vs,rel,dd⟩:=tH I.hok e;obtain⟨w',hw,rw'⟩:=jD (v:=v) (o:=valueAt vs k) (by rw[l];exact rel.val k);exact wpAny_getItem_of (AS ry) dd.mapOf hw (h w' _ (I.tok _) rw')
 ·subst ey;cases (show u=Value.ref b from ry);obtain⟨z,hd,xs,rel,dd⟩:=A2 I.hok e;obtain⟨w',hw,rw'⟩:=jD (v:=v) (o:=(atKey xs k).map (·.2)) (by rw[l];exact rel.val k);obtain⟨p,hp,hp2⟩:=Xv.mp hw;refine wpAny_getItem_heap (tupleKind_room_in1 hu) (uO I.hok eb) dd hp ?_;rw[hp2];exact h w' _ (I.tok _) rw'
theorem JV{Q:Value->Shared->Prop}(hu:A.units+1<cLine)(I:Inv X pins σ H s)(g:iO H a y o)(ry:RelV y u)(h:∀s',Inv X pins σ H s'->Q (.bool (!o.isSome)) s') :
  wpAny (model X.prog X.w) A (compareOp .NotIn u (.ref a)) Q E s:=by
 rcases g with⟨kvs,k,e,ey,l⟩ | ⟨kvs,k,b,e,ey,eb,l⟩
 ·subst ey;obtain⟨z,hd,vs,rel,dd⟩:=tH I.hok e;refine wpAny_notIn_of (AS ry) hd dd.mapOf ?_;rw[<-(rel.val k).isSome_eq,<-l];exact h _ (I.tok _)
 ·subst ey;cases (show u=Value.ref b from ry);obtain⟨z,hd,xs,rel,dd⟩:=A2 I.hok e;refine wpAny_notIn_heap (tupleKind_room_in1 hu) (uO I.hok eb) hd dd ?_;have q:=(rel.val k).isSome_eq;rw[Option.isSome_map]at q;rw[<-q,<-l];exact h _ (I.tok _)
theorem A6{h':Heap}{t':Nat}{ob:HO}(I:Inv X pins σ H s)(mu:Mut (H a))(hs:Heap.SameBut a s.heap h')(he:∃q,h'.get? a=some q)(new:cC X.prog X.w (upd H a ob) h' a ob) :
  Inv X pins σ (upd H a ob) { s with heap:=h',toks:=t' } :=
 I.write (x:=a) (e:=a) mu (.inl rfl) (λb q hb z=>(hs.2 b hb).trans z) he new
theorem M6{P:Program}{w:World}{H':Hp}{h':Heap}{kvs:List (Key×V)}{vs:List (Key×Value)}(z:kvs.length<=ZW)(hd:(a==sysModules)=false)(rel:KV kvs vs)(dd:h'.DictOf (cN P w) a vs) :
  cC P w H' h' a (.dK kvs):=(sD z hd vs rel dd)
theorem CT{H':Hp}{Q:Unit->Shared->Prop}(hu:A.units+1<cLine)(I:Inv X pins σ H s)(g:zN H a y v H')(ry:RelV y u)(rv:RelV v r)(h:∀s',Inv X pins σ H' s'->Q () s') :
  wpAny (model X.prog X.w) A (setItem (.ref a) u r) Q E s:=by
 rcases g with⟨kvs,k,e,ey,l,eH⟩ | ⟨kvs,k,b,e,ey,eb,l,eH⟩
 ·subst ey eH;obtain⟨z,hd,vs,rel,dd⟩:=KQ I.hok e;have hz:vs.length<=ZW:=by rw[<-rel.length];exact z
  have hl:(putK kvs k v).length<=ZW:=by have:=jU kvs k v;lia
  refine wpAny_setItem_pairs (hsz:=hz) (AS ry) dd λh' dd' hs=>h _ ?_;have he:∃q,h'.get? a=some q:=let⟨q,_,_,hq,_⟩:=dd';⟨q,hq⟩;exact A6 I (by rw[e];exact True.intro) hs he (M6 hl hd (rel.put k rv) dd')
 ·subst ey eH;cases (show u=Value.ref b from ry);obtain⟨z,hd,xs,rel,dd⟩:=OY I.hok e;have hz:xs.length<=ZW:=by rw[<-Paired.length rel];exact z
  have hl:(putK kvs k v).length<=ZW:=by have:=jU kvs k v;lia
  refine wpAny_setItem_heap (hsz:=hz) (tupleKind_room_in1 hu) (uO I.hok eb) dd λh' dd' hs=>h _ ?_;obtain⟨q,es,ep,hq,h2,h3,h4,_,h5⟩:=dd';refine A6 I (by rw[e];exact True.intro) hs ⟨q,hq⟩ (pX hl hd _ ((rel.put k eb rv).keeps λc ys ec=>?_) q es ep hq h2 (xPP h3 h4 h5));rw[aE (bZ ec e (λz=>nomatch z))];exact ec
end
section
variable{X:Cx}{pins:List (Addr×Obj)}{σ:St}{H:Hp}{s:Shared}{a:Addr}{kvs:List (Key×V)}{k:Key}{u:Value}{A:Around}{E:Value->Shared->Prop}
end
def O6(i:Expr):Prop:=∀ov iv,subscripted i false ov iv=operate [ov,iv] (getItem ov iv)
theorem HE{prog:Program}{w:World}{A:Around}{E:Value->Shared->Prop}{s:Shared}{env:Env}{value slice:Expr}{pos:Pos}{T id:String}{Q:Value->Shared->Prop}
  (hl:typeLookup (.type T) "__getitem__" = pure (some (.builtin id))) (hs:O6 slice)
  (h:wpAny (model prog w) A (eval value env) (λo s₁=>wpAny (model prog w) A (eval slice env) (λi s₂=>s₂.TypeIs o T/\wpAny (model prog w) A (getItem o i) Q E s₂) E s₁) E s) :
  wpAny (model prog w) A (eval (.Subscript value slice pos) env) Q E s:=by
 refine Subscript_ (ZX h (λo s₁ h₁=>ZX h₁ (λi s₂ h₂=>?_) λ_ _ x=>x) λ_ _ x=>x);obtain⟨hT,h₂⟩:=h₂;unfold subscriptTail;refine ZZ ?_;rw[getitemInPython_of_ne hT.not_modules];refine ZZ (wpAny_specialOf hT hl ?_);have fin:wpAny (model prog w) A (subscripted slice false o i) (λr s₃=>wpAny (model prog w) A (letTemporaryGo value o r >>= λ_=>pure r) Q E s₃) E s₂:=by
  rw[hs o i];exact wpAny_operating (ZX h₂ (λr s₃ h₃=>ZZ (wpAny_letTemporaryGo (ZY h₃))) λ_ _ x=>x)
 first
  |exact ZY (ZZ fin)
  |exact ZZ (ZY (ZZ fin))
  |exact ZZ fin
theorem wR{X:Cx}{pins:List (Addr×Obj)}{σ:St}{H:Hp}{s:Shared}{a:Addr}{y:V}{o:Option V}(I:Inv X pins σ H s)(g:iO H a y o):s.TypeIs (.ref a) "dict":=by
 rcases g with⟨kvs,k,e,_,_⟩ | ⟨kvs,k,b,e,_,_,_⟩
 ·obtain⟨_,_,vs,_,dd⟩:=tH I.hok e;exact dd.typeIs
 ·obtain⟨_,_,xs,_,dd⟩:=A2 I.hok e;exact dd.typeIs
def NP(td ty:TE):TE:=λσ H Q=>td σ H λx H1=>ty σ H1 λy H2=>x.gr λa=>∃v,iO H2 a y (some v)/\Q v H2
def HD(ty td:TE):TE:=λσ H Q=>ty σ H λy H1=>td σ H1 λx H2=>x.gr λa=>∃o,iO H2 a y o/\Q (.bl (!o.isSome)) H2
def N8(td ty tv:TE):TS:=λD σ H=>tv σ H λv H1=>td σ H1 λx H2=>ty σ H2 λy H3=>x.gr λa=>∃H4,zN H3 a y v H4/\D.nx σ H4
section
variable{X:Cx}{o i e value:Expr}{pos pos' tpos:Pos}{td ty tv:TE}
theorem i6(hu:X.A.units+1<cLine)(ho:PE X o td)(hi:PE X i ty)(hs:O6 i):PE X (.Subscript o i pos) (NP td ty):=by
 intro pins s σ H Q I h;refine HE PySem.F.slot_dict_getitem.lookup hs (cW (ho pins s σ H _ I h) λu s1 x H1 I1 rx q1=>cW (hi pins s1 σ H1 _ I1 q1) λiv s2 y H2 I2 ry zz=>?_);obtain⟨a,ex,v,g,q2⟩:=bN zz;subst ex;obtain rfl:u=Value.ref a:=rx;exact⟨wR I2 g,CU hu I2 g ry λw' s3 I3 rw'=>(aH v H2 I3 rw' q2)⟩
theorem sQ(hu:X.A.units+1<cLine)(hi:PE X i ty)(ho:PE X o td):PC X .NotIn i o (HD ty td):=by
 intro pins s σ H Q I h;refine cW (hi pins s σ H _ I h) λiv s1 y H1 I1 ry q1=>cW (ho pins s1 σ H1 _ I1 q1) λu s2 x H2 I2 rx zz=>?_;obtain⟨a,ex,ov,g,q2⟩:=bN zz;subst ex;obtain rfl:u=Value.ref a:=rx;exact JV hu I2 g ry λs3 I3=>(aH (.bl (!ov.isSome)) H2 I3 rfl q2)
theorem pF(hu:X.A.units+1<cLine)(ho:PE X o td)(hi:PE X i ty)(hv:PE X value tv)(hs:swapsWith value (some (.Subscript o i pos')) pos.line X.env=pure false) :
  PS X (.Assign [.Subscript o i pos'] value pos) (N8 td ty tv):=by
 intro pins s σ H D I h;refine wpAny_Assign_Subscript (cW (hv pins s σ H _ I h) λr s1 v H1 I1 rv q1=>cW (ho pins s1 σ H1 _ I1 q1) λu s2 x H2 I2 rx q2=>cW (hi pins s2 σ H2 _ I2 q2) λiv s3 y H3 I3 ry zz=>?_) hs;obtain⟨a,ex,H4,g,q3⟩:=bN zz;subst ex;obtain rfl:u=Value.ref a:=rx;exact CT hu I3 g ry rv λs4 I4=>(cG σ H4 I4 q3)
end
theorem GC{P:Program}{w:World}{H:Hp}(h:Heap)(hb:sysModules<h.objs.size):cC P w H (h.push { cls:=.type "dict",data:=.dict #[] }) h.objs.size (.dK []) :=
 (sD (YZ _) (beq_eq_false_iff_ne.mpr (Yh (ZA hb))) ([]) .nil (Heap.DictOf.new h))
def LA:TE:=λ_ H Q=>∀p,H p=none->Q (.ref p) (upd H p (.dK []))
section
variable{X:Cx}{pos:Pos}
theorem mL:PE X (.Dict [] [] pos) LA:=λpins s σ H Q I h =>
 wpAny_Dict_empty (aH (.ref s.heap.objs.size) _ (I.laid (a:=s.heap.objs.size) (o:=.dK []) (t':=s.toks) (λ_ _ q=>YW _ q) (ZC _) (GC s.heap I.big)) rfl (h _ (I.hok.fresh (ZC _))))
end
section
variable{X:Cx}{e ste:Expr}{te:TE}{lo hi:Option Expr}{tl th tk:TO}{pos p2:Pos}
end
theorem tW{α:Type}(d:List Nat)(F:Nat->α):(ZR d.length).map (λi=>F (d.getD i 0))=d.map F:=by
 apply Yt;intro i;by_cases h:i<d.length
 ·rw[Zk,Zk,Yk h,Zz h];simp[List.getD,h]
 ·rw[Zr (by simp;lia),Zr (by simp;lia)]
end L2
namespace L2
open PySem PyProof.Rows
theorem EM{κ:Type}[DecidableEq κ](kvs:List (κ×V))(k:κ)(v:V):(putK kvs k v).length<=kvs.length+1:=by
 unfold putK;split<;>simp
theorem xY{l:List Nat}{i:Nat}{x:V}(h:(vns l)[i]?=some x):i<l.length/\x=vn (l.getD i 0):=by
 rw[Zk]at h;obtain⟨y,h1,h2⟩:=Xv.mp h;obtain⟨hi,rfl⟩:=Zj.mp h1;exact⟨hi,by rw[<-h2];simp[List.getD,hi]⟩
theorem eU{rs:List Addr}{i:Nat}{x:V}(h:(rs.map V.ref)[i]?=some x):∃r,rs[i]?=some r/\x=.ref r:=by
 rw[Zk]at h;obtain⟨r,h1,h2⟩:=Xv.mp h;exact(xWP r h1 h2.symm)
end L2
namespace PySem
set_option maxRecDepth 100000
namespace F
end F
section
variable{prog:Program}{w:World}{A:Around}{E:Value->Shared->Prop}{s:Shared}
end
section
variable{prog:Program}{w:World}{A:Around}{s:Shared}
end
section
variable{prog:Program}{w:World}{A:Around}{E:Value->Shared->Prop}{s:Shared}
end
end PySem
namespace L2
open PySem PySem.Spec PyProof.Rows
section
variable{X:Cx}{e:Expr}{te:TE}{p p2 pos pos2:Pos}
end
section
variable{X:Cx}{K:PySem.W.Frag}{e ste:Expr}{te:TE}{lo hi:Option Expr}{tl th tk:TO}{p p2 pos pos2:Pos}
end
end L2
namespace SO
open PySem PyProof PyProof.Rows
structure Kept(k:SortKind)(z:Array Keyed)(t:SortSt):Prop where
 kd:kindOf t=k
 pm:(arrOf t).Perm z
 nf:failedOf t=none
 np:pendingOf t=#[]
def rk(ρ:Keyed->Int)(xs:Array Keyed)(i:Nat):Int:=(xs[i]?.map ρ).getD 0
def Up(ρ:Keyed->Int)(xs:Array Keyed)(m:Nat):Prop:=∀i j,i<=j->j<m->rk ρ xs i<=rk ρ xs j
def Dn(ρ:Keyed->Int)(xs:Array Keyed)(m:Nat):Prop:=∀i j,i<=j->j<m->rk ρ xs j<=rk ρ xs i
theorem vJ{ρ:Keyed->Int}{xs ys:Array Keyed}{i j:Nat}(e:xs[i]?=ys[j]?):rk ρ xs i=rk ρ ys j:=by
 simp only[rk,e]
theorem sL{ρ:Keyed->Int}{xs:Array Keyed}{a d:Nat}(ha:a<xs.size)(hd:d<=a)(i:Nat) :
  rk ρ (bubble xs a d) i=if i=a-d then rk ρ xs a else if a-d<i/\i<=a then rk ρ xs (i-1) else rk ρ xs i:=by
 have e:=getElem?_bubble ha d hd i;split
 ·next q=>rw[Yb q]at e;exact vJ e
 ·next q =>
  rw[Ya q]at e;split
  ·next q2=>rw[Yb q2]at e;exact vJ e
  ·next q2=>rw[Ya q2]at e;exact vJ e
theorem nM{ρ:Keyed->Int}{xs:Array Keyed}{a b:Nat}(hb:b<=xs.size)(i:Nat) :
  rk ρ (mirror xs a b ((b-a) / 2)) i=if a<=i/\i<b then rk ρ xs (a+b-1-i) else rk ρ xs i:=by
 have e:=getElem?_mirror_all (i:=a) hb i;split
 ·next q=>rw[Yb q]at e;exact vJ e
 ·next q=>rw[Ya q]at e;exact vJ e
theorem qE{ρ:Keyed->Int}{xs:Array Keyed}{a b:Nat}(hb:b<=xs.size)
  (h:∀i,a<=i->i<b->rk ρ xs i=rk ρ xs (b-1)) (i:Nat):rk ρ (mirror xs a b ((b-a) / 2)) i=rk ρ xs i:=by
 rw[nM hb];by_cases q:a<=i/\i<b
 ·rw[Yb q];have h1:=h (a+b-1-i) (by omega) (by omega);have h2:=h i q.1 q.2
  lia
 ·rw[Ya q]
def Tells(M:Model)(A:Around)(E:Value->Shared->Prop)(s:Shared)(k:SortKind)(z:Array Keyed)(ρ:Keyed->Int):Prop :=
 ∀(p q:Keyed) (t:SortSt) (Q:Option Bool->SortSt->Prop),p∈z.toList->q∈z.toList->kindOf t=k ->
  Q (some (decide (ρ p<ρ q))) t->wpS M A E s (lt' p q) Q t
section
variable{M:Model}{A:Around}{E:Value->Shared->Prop}{s:Shared}{k:SortKind}{z:Array Keyed}{ρ:Keyed->Int}
theorem Kept.len{t:SortSt}(h:Kept k z t):(arrOf t).size=z.size:=h.pm.size_eq
theorem Kept.put{t:SortSt}(h:Kept k z t){xs:Array Keyed}(q:xs.Perm (arrOf t)):Kept k z (setArr t xs) :=
 ⟨h.kd,q.trans h.pm,h.nf,h.np⟩
theorem Kept.nth{t:SortSt}(h:Kept k z t){i:Nat}(hi:i<z.size) :
  ∃p,(arrOf t)[i]?=some p/\p∈z.toList/\rk ρ (arrOf t) i=ρ p:=by
 have hi':i<(arrOf t).size:=by rw[h.len];exact hi
 have e:(arrOf t)[i]?=some (arrOf t)[i]:=getElem?_pos _ i hi';refine(aQ _ e ((Array.perm_iff_toList_perm.mp h.pm).mem_iff.mp (by simp)) ?_);simp[rk,e]
theorem less(T:Tells M A E s k z ρ){t:SortSt}(h:Kept k z t){i j:Nat}(hi:i<z.size)(hj:j<z.size){Q:Option Bool->SortSt->Prop}
  (q:Q (some (decide (rk ρ (arrOf t) i<rk ρ (arrOf t) j))) t):wpS M A E s (ltAt' i j) Q t:=by
 obtain⟨a,ea,ma,ra⟩:=h.nth (ρ:=ρ) hi;obtain⟨b,eb,mb,rb⟩:=h.nth (ρ:=ρ) hj;rw[ra,rb]at q;rw[ltAt'_eq];refine wpS_bind (wpS_get ?_);have e1:elem' (arrOf t) i=pure a:=by rw[elem'_eq,ea]
 have e2:elem' (arrOf t) j=pure b:=by rw[elem'_eq,eb]
 show wpS M A E s (elem' (arrOf t) i >>= λu=>elem' (arrOf t) j >>= λv=>lt' u v) Q t;rw[e1,e2];exact wpS_bind (wpS_pure (wpS_bind (wpS_pure (T a b t Q ma mb h.kd q))))
def Slot(ρ:Keyed->Int)(xs:Array Keyed)(m l r:Nat):Prop :=
 l<=r/\r<=m/\(∀i,i<l->rk ρ xs i<=rk ρ xs m)/\(∀i,r<=i->i<m->rk ρ xs m<rk ρ xs i)
theorem Up.slotted{xs:Array Keyed}{m l:Nat}(hm:m<xs.size)(hu:Up ρ xs m)(h:Slot ρ xs m l l):Up ρ (bubble xs m (m-l)) (m+1):=by
 obtain⟨_,h2,h3,h4⟩:=h;intro i j hij hj;have el:m-(m-l)=l:=by lia
 rw[sL hm (by lia),sL hm (by lia),el];by_cases c1:i<l
 ·rw[Ya (by lia),Ya (by lia)];by_cases c2:j=l
  ·rw[Yb c2];exact h3 i c1
  ·rw[Ya c2];by_cases c3:l<j/\j<=m
   ·rw[Yb c3];exact hu _ _ (by lia) (by omega)
   ·rw[Ya c3];exact hu _ _ hij (by lia)
 ·by_cases c2:j=l
  ·have:i=l:=by lia
   rw[Yb c2,Yb this];exact Int.le_refl _
  ·rw[Ya c2,Yb (show l<j/\j<=m by lia)];by_cases c3:i=l
   ·rw[Yb c3];exact Int.le_of_lt (h4 _ (by lia) (by lia))
   ·rw[Ya c3,Yb (by lia)];exact hu _ _ (by omega) (by lia)
theorem FU(T:Tells M A E s k z ρ){t:SortSt}{n d:Nat}(hn:n<=z.size)(hd:d<=n)(hK:Kept k z t)(hu:Up ρ (arrOf t) d)
  {Q:Bool->SortSt->Prop}(q:∀t',Kept k z t'->Up ρ (arrOf t') n->Q true t'):wpS M A E s (binarySort' 0 n d) Q t:=by
 rw[binarySort'_eq];simp only[Nat.zero_add];refine wpS_bind (wpS_mono (wpS_forRange (Q:=λc t'=>c=(none,())/\Kept k z t'/\Up ρ (arrOf t') n)
  (λm c t'=>c=(none,())/\Kept k z t'/\Up ρ (arrOf t') (min m n)) ?_ ?_ ?_) λc t' h=>by obtain⟨rfl,a,b⟩:=h;exact wpS_pure (q t' a b))
 ·rintro m c t' h1 h2 ⟨rfl,hK',hu'⟩;rw[Nat.min_eq_left (by lia)]at hu';have hm:m<z.size:=by lia
  have hm':m<(arrOf t').size:=by rw[hK'.len];exact hm
  refine wpS_bind (wpS_mono (wpS_forRange (Q:=λc t2=>t2=t'/\∃l,c=(none,l,l)/\Slot ρ (arrOf t') m l l)
   (λx c t2=>t2=t'/\∃l r,c=(none,l,r)/\r-l<=m-x/\Slot ρ (arrOf t') m l r) ?_ ?_ ?_) ?_)
  ·rintro x c t2 _ hx ⟨rfl,l,r,rfl,hs,hS⟩;dsimp only;obtain⟨s1,s2,s3,s4⟩:=hS;by_cases hlr:l>=r
   ·rw[Yb hlr];exact wpS_pure (zR rfl l (by rw[show r=l by lia]) (ZC _) (by lia) s3 (λi a b=>s4 i (by lia) b))
   ·rw[Ya hlr];refine wpS_bind (less T hK' hm (show(l+r) / 2<z.size by lia) ?_);by_cases hc:rk ρ (arrOf t2) m<rk ρ (arrOf t2) ((l+r) / 2)
    ·rw[Ye hc];simp only[if_true];refine wpS_pure (kF rfl l ((l+r) / 2) rfl (by omega) (by lia) (by lia) s3 (λi a b=>?_));exact Int.lt_of_lt_of_le hc (hu' _ _ a b)
    ·rw[Yc hc];simp only[YS,if_false];refine wpS_pure (kF rfl ((l+r) / 2+1) r rfl (by omega) (by lia) (by lia) (λi a=>?_) s4);have:=hu' i ((l+r) / 2) (by lia) (by lia)
     lia
  ·rintro c t2 ⟨rfl,l,r,rfl,hs,hS⟩;have e:r=l:=by have:=hS.1;lia
   subst e;exact(gJ rfl _ rfl hS)
  ·exact(kF rfl 0 m rfl (by lia) (by lia) (by lia) (λi a=>by lia) (λi a b=>by lia))
  ·rintro c t2 ⟨rfl,l,rfl,hS⟩;dsimp only;rw[moveDown'_eq];refine wpS_bind (wpS_modify (wpS_pure (xPP rfl (hK'.put (bubble_perm _ _ _)) ?_)));rw[Nat.min_eq_left (by lia)];exact hu'.slotted hm' hS
 ·rintro c t' ⟨e,hK',hu'⟩;refine(xPP e hK' ?_)
  rwa [show min (max (max d 1) n) n=n by lia]at hu'
 ·refine(xPP rfl hK (λi j hij hj=>?_));by_cases hd0:d=0
  ·rw[show i=j by lia];exact Int.le_refl _
  ·exact hu i j hij (by lia)
end
section
variable{prog:Program}{w:World}{A:Around}{E:Value->Shared->Prop}{s:Shared}{k:SortKind}{z:Array Keyed}{ρ:Keyed->Int}
theorem Up.one(xs:Array Keyed){m:Nat}(h:m<=1):Up ρ xs m:=λi j a b=>by
 rw[show i=j by lia];exact Int.le_refl _
theorem Up.more{xs:Array Keyed}{m:Nat}(hu:Up ρ xs m)(h:¬rk ρ xs m<rk ρ xs (m-1)):Up ρ xs (m+1):=by
 intro i j a b;by_cases c:j<m
 ·exact hu i j a c
 ·rw[show j=m by lia];by_cases c2:i=m
  ·rw[c2];exact Int.le_refl _
  ·have:=hu i (m-1) (by lia) (by lia);lia
theorem Dn.more{xs:Array Keyed}{m:Nat}(hu:Dn ρ xs m)(h:rk ρ xs m<=rk ρ xs (m-1)):Dn ρ xs (m+1):=by
 intro i j a b;by_cases c:j<m
 ·exact hu i j a c
 ·rw[show j=m by lia];by_cases c2:i=m
  ·rw[c2];exact Int.le_refl _
  ·have:=hu i (m-1) (by lia) (by lia);lia
theorem Dn.same{xs ys:Array Keyed}{m:Nat}(hu:Dn ρ xs m)(h:∀i,rk ρ ys i=rk ρ xs i):Dn ρ ys m:=λi j a b=>by
 rw[h,h];exact hu i j a b
theorem Dn.turned{xs:Array Keyed}{m:Nat}(hm:m<=xs.size)(hu:Dn ρ xs m):Up ρ (mirror xs 0 m ((m-0) / 2)) m:=λi j a b=>by
 rw[nM hm,nM hm,Yb (by lia),Yb (by lia)];exact hu _ _ (by omega) (by omega)
theorem rising(T:Tells (model prog w) A E s k z ρ){t:SortSt}{a n:Nat}(hn:n<=z.size)(h1:1<=a)(h2:a<=n)(hK:Kept k z t)(hu:Up ρ (arrOf t) a)
  {Q:AscSt->SortSt->Prop}
  (q:∀m,a<=m->m<=n->Up ρ (arrOf t) m->(m=n\/rk ρ (arrOf t) m<rk ρ (arrOf t) (m-1))->Q (none,m) t) :
  wpS (model prog w) A E s (ascLoop a n) Q t:=by
 unfold ascLoop;refine wpS_forRange (λx c t'=>c=(none,x)/\t'=t/\Up ρ (arrOf t) x) ?_ ?_ (xPP rfl rfl hu)
 ·rintro x c t' g1 g2 ⟨rfl,rfl,hx⟩;dsimp only;refine wpS_bind (less T hK (show x<z.size by lia) (show x-1<z.size by lia) ?_);by_cases c:rk ρ (arrOf t') x<rk ρ (arrOf t') (x-1)
  ·rw[Ye c];simp only[if_true];exact wpS_pure (q x g1 (by lia) hx (Or.inr c))
  ·rw[Yc c];simp only[YS,if_false];exact wpS_pure (xPP rfl rfl (hx.more c))
 ·rintro c t' ⟨rfl,rfl,hx⟩;have e:max a n=n:=by lia
  rw[e]at hx ⊢;exact q n h2 (ZC _) hx (Or.inl rfl)
def Flat(ρ:Keyed->Int)(xs:Array Keyed)(m e:Nat):Prop:=e+1<=m/\∀i,m-(e+1)<=i->i<m->rk ρ xs i=rk ρ xs (m-1)
theorem kA(xs:Array Keyed){m:Nat}(h:1<=m):Flat ρ xs m 0:=⟨h,λi a b=>by rw[show i=m-1 by lia]⟩
theorem Flat.more{xs:Array Keyed}{m e:Nat}(h:Flat ρ xs m e)(g:rk ρ xs m=rk ρ xs (m-1)):Flat ρ xs (m+1) (e+1) :=
 ⟨by have:=h.1;lia,λi a b=>by
  rw[show m+1-1=m by lia];by_cases c:i=m
  ·rw[c]
  ·rw[g];exact h.2 i (by lia) (by lia)⟩
theorem back(T:Tells (model prog w) A E s k z ρ){t:SortSt}{m n:Nat}(hn:n<=z.size)(h1:1<=m)(h2:m<=n)(hK:Kept k z t)(hd:Dn ρ (arrOf t) m)
  {Q:Option Nat->SortSt->Prop}(q:∀m' t',1<=m'->m'<=n->Kept k z t'->Up ρ (arrOf t') m'->Q (some m') t') :
  wpS (model prog w) A E s (tail3 m n) Q t:=by
 unfold tail3;have hs:m<=(arrOf t).size:=by rw[hK.len];lia
 refine wpS_bind (wpS_reverse ?_);have hK':=hK.put (mirror_perm (arrOf t) 0 m ((m-0) / 2));refine wpS_bind (rising T hn h1 h2 hK' (hd.turned hs) λm' g1 g2 g3 _=>?_);exact wpS_pure (q m' _ (by lia) g2 hK' g3)
theorem JT(T:Tells (model prog w) A E s k z ρ){t:SortSt}{m n:Nat}(hn:n<=z.size)(h1:1<=m)(h2:m<=n)(hK:Kept k z t)(hd:Dn ρ (arrOf t) m)
  {Q:DescSt->SortSt->Prop}
  (q:∀m' e t',1<=m'->m'<=n->Kept k z t'->Dn ρ (arrOf t') m'->Flat ρ (arrOf t') m' e->Q (none,m',e) t') :
  wpS (model prog w) A E s (descLoop m n) Q t:=by
 unfold descLoop;refine wpS_forRange (λx c t'=>∃e,c=(none,x,e)/\Kept k z t'/\Dn ρ (arrOf t') x/\Flat ρ (arrOf t') x e) ?_ ?_ (dA 0 rfl hK hd (kA _ h1))
 ·rintro x c t' g1 g2 ⟨e,rfl,hK',hx,hF⟩;dsimp only;have hs:x<=(arrOf t').size:=by rw[hK'.len];lia
  refine wpS_bind (less T hK' (show x<z.size by lia) (show x-1<z.size by lia) ?_);by_cases c:rk ρ (arrOf t') x<rk ρ (arrOf t') (x-1)
  ·rw[Ye c];simp only[if_true];have hm:=hx.more (Int.le_of_lt c);by_cases c2:e>0
   ·rw[Yb c2];refine wpS_bind (wpS_reverse (wpS_pure (dA 0 rfl (hK'.put (mirror_perm _ _ _ _)) (hm.same (qE hs hF.2)) (kA _ (by lia)))))
   ·rw[Ya c2];exact wpS_pure (dA 0 rfl hK' hm (kA _ (by lia)))
  ·rw[Yc c];simp only[YS,if_false];refine wpS_bind (less T hK' (show x-1<z.size by lia) (show x<z.size by lia) ?_);by_cases c2:rk ρ (arrOf t') (x-1)<rk ρ (arrOf t') x
   ·rw[Ye c2];simp only[if_true];exact wpS_pure (q x e t' (by lia) (by lia) hK' hx hF)
   ·rw[Yc c2];simp only[YS,if_false];have e2:rk ρ (arrOf t') x=rk ρ (arrOf t') (x-1):=by lia
    exact wpS_pure (dA (e+1) rfl hK' (hx.more (by lia)) (hF.more e2))
 ·rintro c t' ⟨e,rfl,hK',hx,hF⟩;have e2:max m n=n:=by lia
  rw[e2]at hx hF ⊢;exact q n e t' (by lia) (ZC _) hK' hx hF
theorem F8(T:Tells (model prog w) A E s k z ρ){t:SortSt}{m n:Nat}(hn:n<=z.size)(h2:m+1<=n)(hK:Kept k z t)(hd:Dn ρ (arrOf t) (m+1))
  {Q:Option Nat->SortSt->Prop}(q:∀m' t',1<=m'->m'<=n->Kept k z t'->Up ρ (arrOf t') m'->Q (some m') t') :
  wpS (model prog w) A E s (descPart m n) Q t:=by
 unfold descPart;refine wpS_bind (wpS_lift (wpAny_rule ⟨rfl,?_⟩));refine wpS_bind (JT T hn (by lia) h2 hK hd λm' e t' g1 g2 g3 g4 g5=>?_);dsimp only;have hs:m'<=(arrOf t').size:=by rw[g3.len];lia
 by_cases c:e>0
 ·rw[Yb c];exact wpS_bind (wpS_reverse (back T hn g1 g2 (g3.put (mirror_perm _ _ _ _)) (g4.same (qE hs g5.2)) q))
 ·rw[Ya c];exact back T hn g1 g2 g3 g4 q
theorem run(T:Tells (model prog w) A E s k z ρ){t:SortSt}{n:Nat}(hn:n<=z.size)(h1:1<=n)(hK:Kept k z t)
  {Q:Option Nat->SortSt->Prop}(q:∀m' t',1<=m'->m'<=n->Kept k z t'->Up ρ (arrOf t') m'->Q (some m') t') :
  wpS (model prog w) A E s (countRun' 0 n) Q t:=by
 rw[countRun0_eq];refine wpS_bind (rising T hn (ZC 1) h1 hK (Up.one _ (ZC 1)) λm g1 g2 g3 g4=>?_);dsimp only;by_cases c:m=n
 ·rw[Yb (by simpa using c)];exact wpS_pure (q m t g1 g2 hK g3)
 rw[Ya (by simpa using c)];have lt:=g4.resolve_left c;have hs:m<=(arrOf t).size:=by rw[hK.len];lia
 by_cases c2:m>1
 ·rw[Yb c2];refine wpS_bind (less T hK (show 0<z.size by lia) (show m-1<z.size by lia) ?_);by_cases c3:rk ρ (arrOf t) 0<rk ρ (arrOf t) (m-1)
  ·rw[Ye c3];simp only[if_true];exact wpS_pure (q m t g1 g2 hK g3)
  ·rw[Yc c3];simp only[YS,if_false];have lev:∀i,0<=i->i<m->rk ρ (arrOf t) i=rk ρ (arrOf t) (m-1):=λi _ b=>by
    have a1:=g3 0 i (by lia) b;have a2:=g3 i (m-1) (by lia) (by lia)
    lia
   have hd:Dn ρ (arrOf t) m:=λi j a b=>by
    rw[lev i (by lia) (by lia),lev j (by lia) b];exact Int.le_refl _
   exact wpS_bind (wpS_reverse (F8 T hn (by lia) (hK.put (mirror_perm _ _ _ _)) ((hd.more (Int.le_of_lt lt)).same (qE hs lev)) q))
 ·rw[Ya c2];have e:m=1:=by lia
  have hd:Dn ρ (arrOf t) m:=λi j a b=>by rw[show i=j by lia];exact Int.le_refl _
  exact F8 T hn (by lia) hK (hd.more (Int.le_of_lt lt)) q
end
section
variable{prog:Program}{w:World}{A:Around}{E:Value->Shared->Prop}{s:Shared}{k:SortKind}{z:Array Keyed}{ρ:Keyed->Int}
def GV(ρ:Keyed->Int)(z:Array Keyed)(t:SortSt):Prop :=
 (arrOf t).Perm z/\Up ρ (arrOf t) z.size/\failedOf t=none/\(pendingOf t).size<=1
theorem Kept.ended{t:SortSt}(h:Kept k z t)(hu:Up ρ (arrOf t) z.size)(x:Nat×Nat×Nat):GV ρ z (setPending t ((pendingOf t).push x)):=by
 refine(cH h.pm hu h.nf ?_);show((pendingOf t).push x).size<=1;rw[h.np];exact ZC 1
theorem ordered(T:Tells (model prog w) A E s k z ρ){t:SortSt}(h2:2<=z.size)(h64:z.size<64)(hK:Kept k z t)
  {Q:Unit->SortSt->Prop}(q:∀t',(arrOf t').Perm z->failedOf t'=none->Up ρ (arrOf t') z.size->Q () t') :
  wpS (model prog w) A E s sortRuns' Q t:=by
 have least:minRun' z.size z.size 0=z.size:=by
  cases e:z.size with
  |zero=>lia
  |succ f=>rw[e]at h64;rw[minRun'_succ,Yb h64]
 rw[sortRuns'_eq];refine wpS_bind (wpS_get ?_);dsimp only;simp only[hK.len,least];refine wpS_bind (wpS_mono (wpS_forRange (Q:=λc t'=>c=(none,z.size)/\GV ρ z t')
  (λx c t'=>(x=0/\c=(none,0)/\Kept k z t')\/(0<x/\c=(none,z.size)/\GV ρ z t')) ?_ ?_ ?_) ?_)
 ·rintro x c t' _ hx (⟨rfl,rfl,hK'⟩ | ⟨g,rfl,hE⟩)
  ·dsimp only;rw[Ya (by lia)];simp only[Nat.sub_zero,Nat.min_self,Nat.zero_add];refine wpS_bind (run T (ZC _) (by lia) hK' λm t2 g1 g2 g3 g4=>?_);dsimp only;by_cases c:m<z.size
   ·rw[Yb c];refine wpS_bind (wpS_lift (wpAny_rule ⟨rfl,?_⟩));refine wpS_bind (FU T (ZC _) g2 g3 g4 λt3 g5 g6=>?_);simp only[Bool.not_true,YS,if_false];refine wpS_bind (wpS_get ?_);have e:(pendingOf t3).back?=none:=by rw[g5.np];rfl
    rw[e];exact wpS_bind (wpS_modify (wpS_pure (Or.inr (xPP (by lia) rfl (g5.ended g6 _)))))
   ·rw[Ya c];have e1:m=z.size:=by lia
    subst e1;refine wpS_bind (wpS_get ?_);have e:(pendingOf t2).back?=none:=by rw[g3.np];rfl
    rw[e];exact wpS_bind (wpS_modify (wpS_pure (Or.inr (xPP (by lia) rfl (g3.ended g4 _)))))
  ·dsimp only;rw[Yb (ZC _)];exact wpS_pure ⟨rfl,hE⟩
 ·rintro c t' (⟨g,_,_⟩ | ⟨_,e,hE⟩)
  ·lia
  ·exact⟨e,hE⟩
 ·exact Or.inl (xPP rfl rfl hK)
 ·rintro c t' ⟨rfl,hE⟩;dsimp only;refine wpS_bind (wpS_mono (wpS_forRange (Q:=λc t2=>c=(none,())/\t2=t') (λ_ c t2=>c=(none,())/\t2=t') ?_ (λ_ _ h=>h) ⟨rfl,rfl⟩) ?_)
  ·rintro x c t2 _ _ ⟨rfl,rfl⟩;refine wpS_bind (wpS_get ?_);rw[Yb hE.2.2.2];exact wpS_pure ⟨rfl,rfl⟩
  ·rintro c t2 ⟨rfl,rfl⟩;exact wpS_pure (q _ hE.1 hE.2.2.1 hE.2.1)
def oE(h:Heap)(a:Addr)(vs:List Value):Heap :=
 ((h.update a (Obj.mapSeq λ_=>#[])).push (seqObj "tuple" vs.toArray 0)).push (seqObj "list" #[] 0)
abbrev cJ(vs:List Value):Array Keyed:=vs.toArray.zip vs.toArray
theorem jJ(vs:List Value):(cJ vs).size=vs.length:=by simp[cJ]
def ahead(h:Heap)(vs:List Value):Heap :=
 ((h.push (seqObj "list" #[] 0)).update h.objs.size (Obj.mapSeq (·++vs.toArray))).push (seqObj "list" vs.toArray 0)
end
def lx:List Int->List Int->Bool
 |[],[]=>false
 |[],_::_=>true
 |_::_,[]=>false
 |a::x,b::y=>if a=b then lx x y else decide (a<b)
theorem uF:∀x:List Int,lx x x=false
 |[]=>rfl
 |a::x=>by unfold lx;rw[Yb rfl];exact uF x
theorem qW:∀x y u:List Int,lx x y=true->lx y u=true->lx x u=true
 |[],[],_,h,_=>by simp[lx]at h
 |[],_::_,[],_,h=>by simp[lx]at h
 |[],_::_,_::_,_,_=>rfl
 |_::_,[],_,h,_=>by simp[lx]at h
 |_::_,_::_,[],_,h=>by simp[lx]at h
 |a::x,b::y,c::u,h1,h2=>by
  unfold lx at h1 h2 ⊢;by_cases e1:a=b
  ·rw[Yb e1]at h1;by_cases e2:b=c
   ·rw[Yb e2]at h2;rw[Yb (e1.trans e2)];exact qW x y u h1 h2
   ·rw[Ya e2]at h2;rw[Ya (by lia)];rw[e1];exact h2
  ·rw[Ya e1]at h1;have l1:=Yf h1;by_cases e2:b=c
   ·rw[Ya (by lia)];exact Ye (by lia)
   ·rw[Ya e2]at h2;have l2:=Yf h2;rw[Ya (by lia)];exact Ye (by lia)
theorem v9:∀x y:List Int,lx x y=false->lx y x=false->x=y
 |[],[],_,_=>rfl
 |[],_::_,h,_=>by simp[lx]at h
 |_::_,[],_,h=>by simp[lx]at h
 |a::x,b::y,h1,h2=>by
  unfold lx at h1 h2;by_cases e:a=b
  ·rw[Yb e]at h1;rw[Yb e.symm]at h2;rw[e,v9 x y h1 h2]
  ·rw[Ya e]at h1;rw[Ya (λg=>e g.symm)]at h2;have l1:=of_decide_eq_false h1;have l2:=of_decide_eq_false h2;lia
def place(L:List (List Int))(x:List Int):Nat:=L.countP λy=>lx y x
theorem EU(L:List (List Int)){x y:List Int}(h:lx x y=true):place L x<=place L y :=
 List.countP_mono_left λu _ g=>qW u x y g h
theorem place_lt:∀(L:List (List Int)) {x y:List Int},x∈L->lx x y=true->place L x<place L y
 |[],_,_,m,_=>by cases m
 |u::L,x,y,m,h=>by
  unfold place;rw[List.countP_cons,List.countP_cons];have a:=EU L h;unfold place at a;by_cases e:u=x
  ·subst e;rw[uF,h];simp;lia
  ·have b:=place_lt L (x:=x) (y:=y) (by cases m with | head=>exact Yg rfl e | tail _ g=>exact g) h;unfold place at b;by_cases g:lx u x=true
   ·rw[g,qW _ _ _ g h];simp;lia
   ·have g':lx u x=false:=by simpa using g
    rw[g'];simp;lia
theorem fQ(L:List (List Int)){x y:List Int}(hx:x∈L)(hy:y∈L):decide ((place L x:Int)<place L y)=lx x y:=by
 cases h:lx x y with
 |true=>exact Ye (by have:=place_lt L hx h;lia)
 |false =>
  refine Yc ?_;cases g:lx y x with
  |true=>have:=place_lt L hy g;lia
  |false=>rw[v9 x y h g];lia
section
variable{prog:Program}{w:World}{A:Around}{E:Value->Shared->Prop}{s:Shared}
theorem IM(b:Bool){x y:Int}{t u:Tok}{Q:Bool->Shared->Prop}(h:Q (decide (x<y)) s):wpAny (model prog w) A (oneLt' b (.int x t) (.int y u)) Q E s:=by
 cases b with
 |true=>exact oneLt_int h
 |false=>exact PySem.W.kat_one _ _ (wpAny_lt_int h)
theorem wF{b fin:Bool}{Q:Bool->Shared->Prop}:∀{xs ys:List Value}{ns ms:List Int}(i:Nat),IntsAre xs ns->IntsAre ys ms ->
  fin=decide (ns.length<ms.length)->Q (lx ns ms) s->PySem.W.KatLex prog w A b fin Q (xs.zip ys) i s
 |_,_,_,_,i,.nil,.nil,e,q=>by subst e;exact PySem.W.kat_nil q
 |_,_,_,_,i,.nil,.cons _ _ _,e,q=>by
  subst e;refine PySem.W.kat_nil ?_;rw[Ye (by simp)];exact q
 |_,_,_,_,i,.cons _ _ _,.nil,e,q=>by
  subst e;refine PySem.W.kat_nil ?_;rw[Yc (by simp)];exact q
 |_,_,_,_,i,.cons (vs:=xs) (ns:=ns) n t hx,.cons (vs:=ys) (ns:=ms) m u hy,e,q=>by
  rw[List.zip_cons_cons];refine PySem.W.kat_cons (wpAny_eqBool_int ?_);unfold lx at q;by_cases c:n=m
  ·rw[Yb c]at q;rw[show(n==m)=true by simpa using c];refine PySem.W.kat_yes (wF (i+1) hx hy ?_ q);rw[e];simp
  ·rw[Ya c]at q;rw[show(n==m)=false by simpa using c];exact PySem.W.kat_no (IM _ q)
def zJ(h:Heap)(vs:List Value)(kf:Value->List Int):Prop :=
 ∀v∈vs,∃a o xs n,v=.ref a/\h.get? a=some o/\o.cls=.type "tuple"/\o.data=.seq xs n/\IntsAre xs.toList (kf v)
def rank(vs:List Value)(kf:Value->List Int)(p:Keyed):Int:=place (vs.map kf) (kf p.1)
theorem kO{vs:List Value}{p:Keyed}(h:p∈(cJ vs).toList):p.1∈vs:=by
 have:p∈vs.zip vs:=by simpa[cJ] using h
 exact(List.of_mem_zip (a:=p.1) (b:=p.2) this).1
theorem jY{xs:List Value}{ns:List Int}(h:IntsAre xs ns):xs.length=ns.length:=by
 induction h with
 |nil=>rfl
 |cons _ _ _ ih=>simp[ih]
theorem x9{vs:List Value}{kf:Value->List Int}{b:Bool}(h:zJ s.heap vs kf):Tells (model prog w) A E s (tuples' b) (cJ vs) (rank vs kf):=by
 intro p q t Q hp hq hk hQ;have mp:=kO hp;have mq:=kO hq;obtain⟨a,o,xs,n,e1,g1,_,d1,i1⟩:=h _ mp;obtain⟨a',o',xs',n',e2,g2,_,d2,i2⟩:=h _ mq;have r:decide (rank vs kf p<rank vs kf q)=lx (kf p.1) (kf q.1):=fQ _ (Yr mp) (Yr mq);rw[r]at hQ;rw[lt'_eq];refine wpS_bind (wpS_get ?_);rw[hk,e1,e2];refine wpS_bind (wpS_lift (wpAny_attempt (PySem.W.kat_lt g1 d1 g2 d2 (wF 0 i1 i2 ?_ ⟨rfl,?_⟩))))
 ·have l1:=jY i1;have l2:=jY i2;simp only[Array.length_toList]at l1 l2;rw[l1,l2]
 ·exact wpS_pure hQ
end
end SO
namespace SO
open PySem PyProof PyProof.Rows
open AutoSeq1 (wpAny_loadPart')
theorem jC:∀{xs:List Value}{ns:List Int},IntsAre xs ns->∀i,i<xs.length->∃n t,xs[i]?=some (.int n t)/\ns[i]?=some n
 |_,_,.nil,i,h=>by simp at h
 |_,_,.cons n t _,0,_=>(cG n t rfl rfl)
 |_,_,.cons _ _ r,i+1,h=>by
  obtain⟨n,t,e1,e2⟩:=jC r i (by simpa using h);exact(cG n t (by simpa using e1) (by simpa using e2))
section
variable{prog:Program}{w:World}{A:Around}{E:Value->Shared->Prop}{s:Shared}
end
end SO
namespace SO
open PySem PyProof PyProof.Rows
theorem uY:∀vs:List Value,vs.zip vs=vs.map λv=>(v,v)
 |[]=>rfl
 |v::vs=>by rw[List.zip_cons_cons,uY vs];rfl
theorem oI(vs:List Value):(cJ vs).toList=vs.map λv=>(v,v):=by
 rw[<-uY];simp[cJ]
theorem twice{vs:List Value}{q:Keyed}(h:q∈(cJ vs).toList):q.2=q.1:=by
 rw[oI]at h;obtain⟨v,_,rfl⟩:=Zh.mp h;rfl
theorem w9{vs:List Value}{kf:Value->List Int}{xs:Array Keyed}(p:xs.Perm (cJ vs))(u:Up (rank vs kf) xs vs.length) :
  (xs.map (·.2)).toList.Perm vs/\(xs.map (·.2)).toList.Pairwise λa b=>lx (kf b) (kf a)=false:=by
 have pl:=Array.perm_iff_toList_perm.mp p;constructor
 ·have e:=pl.map (·.2);rw[oI,Ym]at e;have e2:vs.map ((λq:Keyed=>q.2)∘λv=>(v,v))=vs:=by
   have:((λq:Keyed=>q.2)∘λv:Value=>(v,v))=id:=rfl;rw[this,List.map_id]
  rw[e2]at e;rw[Array.toList_map];exact e
 ·rw[Array.toList_map,List.pairwise_map,List.pairwise_iff_getElem];intro i j hi hj hij;have z:xs.size=vs.length:=by rw[p.size_eq,jJ]
  have hi':i<xs.size:=by simpa using hi
  have hj':j<xs.size:=by simpa using hj
  have r:=u i j (by lia) (by lia);have mi:xs[i]∈(cJ vs).toList:=pl.mem_iff.mp (by simp);have mj:xs[j]∈(cJ vs).toList:=pl.mem_iff.mp (by simp);have ri:rk (rank vs kf) xs i=rank vs kf xs[i]:=by simp[rk,hi']
  have rj:rk (rank vs kf) xs j=rank vs kf xs[j]:=by simp[rk,hj']
  rw[ri,rj]at r;have t:=fQ (vs.map kf) (x:=kf xs[j].1) (y:=kf xs[i].1) (Yr (kO mj)) (Yr (kO mi));rw[Yc (by unfold rank at r;lia)]at t;simp only[Array.getElem_toList];rw[twice mi,twice mj];exact t.symm
theorem CZ{h:Heap}{vs:List Value}{b:Addr}{o:Obj}(hb:h.get? b=some o):(oE (ahead h vs) (h.objs.size+1) vs).get? b=some o:=by
 have lt:=YV hb;unfold oE ahead;refine YW _ (YW _ ?_);rw[Heap.get?_update_ne _ _ _ _ (ZA (Xj lt))];refine YW _ ?_;rw[Heap.get?_update_ne _ _ _ _ (ZA lt)];exact YW _ hb
section
variable{prog:Program}{w:World}{A:Around}{E:Value->Shared->Prop}{s:Shared}
theorem zJ.mono{h h':Heap}{vs:List Value}{kf:Value->List Int}(H:zJ h vs kf)(g:∀b o,h.get? b=some o->h'.get? b=some o):zJ h' vs kf:=λv m=>by
 obtain⟨a,o,xs,n,e,g1,r⟩:=H v m;exact(zO a o xs n e (g _ _ g1) r)
end
end SO
namespace L2
open PySem PySem.Spec PyProof.Rows
section
variable{X:Cx}
theorem sE:∀{ps:List Addr}{us:List Value},a8 (ps.map V.ref) us->us=ps.map Value.ref
 |[],us,r=>by rw[List.map_nil]at r;cases r;rfl
 |p::ps,us,r=>by
  rw[ZI]at r;cases r with
  |cons a b =>
   rw[sE b];cases a;rfl
theorem sN:∀(ps:List Addr),a8 (ps.map V.ref) (ps.map Value.ref)
 |[]=>.nil
 |_::ps=>.cons rfl (sN ps)
def keyOf(kf:Addr->List Int):Value->List Int
 |.ref a=>kf a
 |_=>[]
theorem B3{ps:List Addr}{us:List Value}(h:us.Perm (ps.map Value.ref)):∃ps':List Addr,us=ps'.map Value.ref/\ps'.Perm ps:=by
 have e:us=(us.map λu=>match u with | .ref a=>a | _=>0).map Value.ref:=by
  rw[Ym];refine(List.map_id us).symm.trans (Ys λu m=>?_);obtain⟨a,_,rfl⟩:=Zh.mp (h.mem_iff.mp m);rfl
 refine(xWP _ e ?_);have g:=h.map λu:Value=>match u with | .ref a=>a | _=>0
 rw[Ym]at g;have i:((λu:Value=>match u with | .ref a=>a | _=>0)∘Value.ref)=id:=rfl;rw[i,List.map_id]at g;exact g
end
end L2
namespace SO
open PySem PyProof PyProof.Rows
section
variable{prog:Program}{w:World}{A:Around}{E:Value->Shared->Prop}{s:Shared}
theorem F7{h:Heap}{kf:Value->List Int}:∀{vs:List Value},zJ h vs kf->(∀v∈vs,kf v≠[]) ->
  ∃fs:List Value,PySem.W.KatTups h vs fs/\fs.length=vs.length/\∀f∈fs,∃n t,f=.int n t
 |[],_,_=>(aQ ([]) PySem.W.KatTups.nil rfl (λ_ m=>by cases m))
 |v::vs,H,ne=>by
  obtain⟨fs,k,l,g⟩:=F7 (vs:=vs) (λu m=>H u (.tail _ m)) λu m=>ne u (.tail _ m);obtain⟨a,o,xs,n,e,g1,c,d,i⟩:=H v (.head _);have hz:0<xs.toList.length:=by
   rw[jY i];exact List.length_pos_iff.mpr (ne v (.head _))
  obtain⟨n0,t0,e0,_⟩:=jC i 0 hz;subst e;refine(aQ (.int n0 t0::fs) (PySem.W.KatTups.cons g1 c d (by simpa using e0) k) (by simp[l]) (λf m=>?_));cases m with
  |head=>exact(xWW n0 t0 rfl)
  |tail _ m=>exact g f m
end
end SO
namespace L2
open PySem PySem.Spec PyProof.Rows
section
variable{X:Cx}
end
end L2
namespace SO
open PySem PyProof PyProof.Rows
section
variable{prog:Program}{w:World}{A:Around}{E:Value->Shared->Prop}{s:Shared}{k:SortKind}{ρ:Keyed->Int}
theorem BW{a:Addr}{vs:List Value}{n:Nat}{P:Fin->Shared->Prop}(ho:s.heap.get? a=some (seqObj "list" vs.toArray n))(h64:vs.length<64)
  (hk:2<=vs.length->∀{Q:SortKind->Shared->Prop},Q k { s with heap:=oE s.heap a vs }->wpAny (model prog w) A (keyKind' vs.toArray) Q E { s with heap:=oE s.heap a vs })
  (T:Tells (model prog w) A (λ_ _=>False) { s with heap:=oE s.heap a vs } k (cJ vs) ρ)
  (h:∀xs:Array Keyed,xs.Perm (cJ vs)->Up ρ xs vs.length->P (.done (.ret .none)) { s with heap:=sortedHeap s.heap a vs (xs.map (·.2)).reverse }) :
  wpAny (model prog w) A (Builtin.«list.sort» ⟨[.ref a],[(ZT "reverse",.bool true)]⟩) P E s:=by
 obtain⟨n1,ho1⟩:∃n1,(s.heap.update a (Obj.mapSeq λ_=>#[])).get? a=some (seqObj "list" #[] n1):=⟨_,get?_update_seq ho (λ_=>#[])⟩
 have ho2:(oE s.heap a vs).get? a=some (seqObj "list" #[] n1):=YW _ (YW _ ho1);have flip:(cJ vs).reverse.Perm (cJ vs):=Array.perm_iff_toList_perm.mpr (by rw[Array.toList_reverse];exact List.reverse_perm _);have T':Tells (model prog w) A (λ_ _=>False) { s with heap:=oE s.heap a vs } k (cJ vs).reverse ρ:=λp q t Q hp hq=>T p q t Q
  ((Array.perm_iff_toList_perm.mp flip).mem_iff.mp hp) ((Array.perm_iff_toList_perm.mp flip).mem_iff.mp hq)
 have zs:(cJ vs).reverse.size=vs.length:=by rw[Array.size_reverse,jJ]
 have room:∀xs:Array Keyed,xs.Perm (cJ vs)->(xs.map (·.2)).reverse.size<=ZW+1:=λxs p=>by
  rw[Array.size_reverse,Array.size_map,p.size_eq,jJ,sizeLine_eq];lia
 rw[list_sort_rev];refine ZZ (listItems_at ho rfl ?_);refine ZZ (listUpdate_at ho rfl ?_);refine ZZ (seqEpoch_at ho1 rfl ?_);refine ZZ (wpAny_newTuple ?_);refine ZZ (wpAny_newList ?_);refine ZU ?_;show wpAny (model prog w) A _ P E { s with heap:=oE s.heap a vs };dsimp only;rw[Yb rfl];refine ZZ (wpAny_rule ?_);have last:∀t:SortSt,(arrOf t).Perm (cJ vs)->failedOf t=none->Up ρ (arrOf t) vs.length ->
   wpAny (model prog w) A (do
    let out:=(arrOf t).map (·.2)
    let touched:=(<-seqEpoch a) != n1
    Builtin.List.listUpdate (.ref a) λ_=>if true=true then out.reverse else out
    if let some e:=failedOf t then rule "list.sort.comparison-raised";throw e
    if touched then rule "list.sort.modified";raiseError "ValueError" "list modified during sort"
    ret .none) P E { s with heap:=oE s.heap a vs }:=by
  intro t p f u;refine ZZ (seqEpoch_at ho2 rfl ?_);refine ZZ (listUpdate_at ho2 rfl ?_ (hsz2:=room _ p));rw[f];simp only[bne_self_eq_false,YS,if_false];exact ZY (h _ p u)
 by_cases c:vs.length<2
 ·have c':vs.toArray.size<2:=by simpa using c
  rw[Yb c',Yb c'];refine ZZ (ZY ?_);rw[StateT.run_pure];refine ZZ (ZY ?_);exact last (SortSt.mk' general' (cJ vs).reverse #[] 7 none) flip rfl (Up.one _ (by lia))
 ·have c':¬vs.toArray.size<2:=by simpa using c
  rw[Ya c',Ya c'];refine ZZ (hk (by lia) ?_);refine ZZ (ZX (ordered (Q:=λ_ t=>(arrOf t).Perm (cJ vs).reverse/\failedOf t=none/\Up ρ (arrOf t) (cJ vs).reverse.size) T'
   (t:=SortSt.mk' k (cJ vs).reverse #[] 7 none) (by rw[zs];lia) (by rw[zs];exact h64) ⟨rfl,Array.Perm.refl _,rfl,rfl⟩
   λt' a1 a2 a3=>(xPP a1 a2 a3)) ?_ λ_ _ e=>e.elim)
  rintro⟨⟨⟩,t⟩ s' ⟨rfl,p,f,u⟩;rw[zs]at u;exact last t (p.trans flip) f u
theorem vH{l:Addr}{vs:List Value}{Q:Value->Shared->Prop}(hl:s.heap.IsList l vs.toArray)(h64:vs.length<64)
  (hk:2<=vs.length->∀{E:Value->Shared->Prop}{Q:SortKind->Shared->Prop},Q k { s with heap:=oE (ahead s.heap vs) (s.heap.objs.size+1) vs } ->
   wpAny (model prog w) A.in1.in1 (keyKind' vs.toArray) Q E { s with heap:=oE (ahead s.heap vs) (s.heap.objs.size+1) vs })
  (T:Tells (model prog w) A.in1.in1 (λ_ _=>False) { s with heap:=oE (ahead s.heap vs) (s.heap.objs.size+1) vs } k (cJ vs) ρ)
  (h:∀xs:Array Keyed,xs.Perm (cJ vs)->Up ρ xs vs.length->Q (.ref (s.heap.objs.size+1)) { s with heap:=sortedAll s.heap vs (xs.map (·.2)).reverse }) :
  wpAny (model prog w) A (call (.builtin "sorted") [.ref l] [(ZT "reverse",.bool true)]) Q E s:=by
 have sz:((s.heap.push (seqObj "list" #[] 0)).update s.heap.objs.size (Obj.mapSeq (·++vs.toArray))).objs.size=s.heap.objs.size+1:=by
  rw[Heap.size_update,size_push']
 have ho:(ahead s.heap vs).get? (s.heap.objs.size+1)=some (seqObj "list" vs.toArray 0):=by
  unfold ahead;rw[<-sz];exact YU _ rfl
 refine call_function_entry_kw kind_sorted plain_sorted entry_sorted (args_sorted_rev _ _) ?_;unfold Builtin.«sorted»;refine ZZ (m:=checkCount "sorted" 1 1 _) (ZY ?_);refine ZZ (collect_list hl ?_);refine ZZ (wpAny_newList ?_);rw[sz];show wpAny (model prog w) _ _ _ _ { s with heap:=ahead s.heap vs };refine ZZ (ZU (wpAny_call_entry_kw slot_list_sort (xWP _ ho rfl) entry_list_sort
  (BW (s:={ s with heap:=ahead s.heap vs }) (k:=k) (ρ:=ρ) ho h64 (λg _ q=>hk g q) T λxs p u=>(xWP _ rfl ?_)) (args_list_sort_rev _ _)))
 exact ZY (xWP _ rfl (h xs p u))
theorem nJ{l:Addr}{vs:List Value}{kf:Value->List Int}{Q:Value->Shared->Prop}(hl:s.heap.IsList l vs.toArray)(h64:vs.length<64)
  (H:zJ s.heap vs kf) (ne:∀v∈vs,kf v≠[])
  (h:∀out:Array Value,out.toList.Perm vs->(out.toList.Pairwise λa b=>lx (kf a) (kf b)=false)->Q (.ref (s.heap.objs.size+1)) { s with heap:=sortedAll s.heap vs out }) :
  wpAny (model prog w) A (call (.builtin "sorted") [.ref l] [(ZT "reverse",.bool true)]) Q E s:=by
 have H':zJ (oE (ahead s.heap vs) (s.heap.objs.size+1) vs) vs kf:=H.mono λ_ _=>CZ;refine vH (k:=tuples' true) (ρ:=rank vs kf) hl h64 (λh2 _ _ q=>?_) (x9 H') λxs p u=>h _ ?_ ?_
 ·obtain⟨fs,k,lf,g⟩:=F7 H' ne;refine PySem.W.kat_kind (T:=Value.type "int") k (by lia) (λv m=>?_) (by decide) q;obtain⟨n,t,rfl⟩:=g v m;exact .now
 ·rw[Array.toList_reverse];exact(List.reverse_perm _).trans (w9 p u).1
 ·rw[Array.toList_reverse,List.pairwise_reverse];exact(w9 p u).2
end
end SO
namespace L2
open PySem PySem.Spec PyProof.Rows
section
variable{X:Cx}
def GW(X:Cx)(f:Value)(ks:List Str)(r:List V->List V->Hp->VK->Prop):Prop :=
 ∀(pins:List (Addr×Obj)) (s:Shared) (σ:St) (H:Hp) (xs:List V) (us:List Value) (zs:List V) (ws:List Value) (Q:VK),Inv X pins σ H s->a8 xs us->a8 zs ws->r xs zs H Q ->
  wpAny (model X.prog X.w) X.A (call f us (ks.zip ws)) (EP X pins σ Q) X.xe s
def PR(r:List V->List V->Hp->VK->Prop)(t tk:TA):TE:=λσ H Q=>t σ H λvs H1=>tk σ H1 λzs H2=>r vs zs H2 Q
theorem B4{x:Str}{p pos:Pos}{e:Expr}{es:List Expr}{t tk:TA}{id:String}{ks:List Str}{kws:List Keyword}{r:List V->List V->Hp->VK->Prop}(hc:GW X (.builtin id) ks r)(hg:Gl X x)(hm:X.mg x=none)(hv:bootBuiltins x=some (.builtin id))
  (ha:PA X (e::es) t) (hkw:PK X kws tk) (hn:x≠"__name__":=by decide) (hdb:(x==("__debug__" : Str))=false:=by decide)
  (he:backTo pos (starEach (e::es) X.env)=(false,eval e X.env)::backTo pos (starEach es X.env):=by rfl) (hpl:(backTo pos (starEach (e::es) X.env)).any (·.1)=false:=by rfl)
  (hall:(backToKw pos (keywordEach kws X.env)).all (·.1.isSome)=true:=by rfl) (hno:(backToKw pos (keywordEach kws X.env)).any (·.1.isNone)=false:=by rfl)
  (hks:(backToKw pos (keywordEach kws X.env)).filterMap (·.1)=ks:=by rfl):PE X (.Call (.Name x p) (e::es) kws pos) (PR r t tk):=by
 intro pins s σ H Q I h;refine wpAny_Call_Name_kw (jV I hg hm hv ?_ hn hdb);refine callWith_kw (thn (ha pos pins s σ H _ I h) λus s1 ⟨vs,H1,I1,r1,q⟩=>?_) he hpl hall hno;refine thn (hkw pos pins s1 σ H1 _ I1 q) λws s2 ⟨zs,H2,I2,rz,q2⟩=>?_;rw[hks];exact hc pins s2 σ H2 vs us zs ws Q I2 r1 rz q2
theorem rX:GW X (.builtin "sorted") ["reverse"] (λxs zs H Q=>∃(p:Addr) (ps:List Addr) (kf:Addr->List Int),xs=[.ref p]/\zs=[.bl true]/\SqL H p (ps.map V.ref)/\(∀q∈ps,kf q≠[]/\SqT H q ((kf q).map V.int))/\ps.length<64 /\
  ∀(l:Addr) (ps':List Addr),H l=none->ps'.Perm ps->(ps'.Pairwise λa b=>SO.lx (kf a) (kf b)=false)->Q (.ref l) (upd H l (.lst (ps'.map V.ref)))):=by
 intro pins s σ H xs us zs ws Q I r rz h;obtain⟨p,ps,kf,rfl,rfl,hq,hk,h64,q⟩:=h;obtain⟨u,rfl,rx⟩:=vals1 r;cases rx;obtain⟨v,rfl,rv⟩:=vals1 rz;cases rv;obtain⟨its,r',pl,hz⟩:=I.list hq;have ei:=sE r';subst ei;refine SO.nJ (kf:=keyOf kf) pl.isList (by rw[Zq];exact h64) (λv m=>?_) (λv m=>?_) λout a1 a2=>?_
 ·obtain⟨a,ma,rfl⟩:=Zh.mp m;obtain⟨its',r2,⟨o,g1,c1,n,d1⟩,_⟩:=I.tuple (hk a ma).2;exact(aY a o its'.toArray n rfl g1 c1 d1 (show IntsAre its' (kf a) from intsAre_of r2))
 ·obtain⟨a,ma,rfl⟩:=Zh.mp m;exact(hk a ma).1
 ·obtain⟨ps',e1,e2⟩:=B3 a1;rw[e1,List.pairwise_map]at a2;obtain⟨e,he⟩:=sortedAll_at s.heap (ps.map Value.ref) out;refine(aH (.ref (s.heap.objs.size+1)) _ (I.laid (t':=s.toks) (λ_ _=>sortedAll_old) (Nat.le_succ _) (show cC X.prog X.w _ _ _ (.lst (ps'.map V.ref)) from(fF ?_ out.toList e ?_ he))) rfl (q _ ps' (I.hok.fresh (Nat.le_succ _)) e2 a2))
  ·rw[Zq,e2.length_eq];exact YQ (by lia:ps.length<=64) (by decide)
  ·rw[e1];exact sN ps'
end
end L2
namespace SO
open PySem PyProof PyProof.Rows
section
variable{prog:Program}{w:World}{A:Around}{E:Value->Shared->Prop}{s:Shared}
theorem JQ{xl yl:List Int}{a b:Addr}{oa ob:Obj}{xs ys:Array Value}{na nb:Nat}{P:Fin->Shared->Prop}(hoa:s.heap.get? a=some oa)(hda:oa.data=.seq xs na)(hob:s.heap.get? b=some ob)(hcb:ob.cls=.type "tuple")(hdb:ob.data=.seq ys nb)
  (hia:IntsAre xs.toList xl) (hib:IntsAre ys.toList yl) (h:P (.done (.ret (.bool (lx yl xl)))) s) :
  wpAny (model prog w) A (Builtin.«tuple.__gt__» ⟨[.ref a,.ref b],[]⟩) P E s:=by
 have hTb:s.TypeIs (.ref b) "tuple":=(xWP ob hob hcb)
 show wpAny _ _ (isInstance (.ref b) (.type "tuple") >>= _) _ _ s;refine ZZ (wpAny_isInstance hTb isSubtype_tuple_tuple ?_);simp only[Bool.not_true,YS,if_false];refine ZZ (wpAny_tupleItemsOf hoa hda ?_);refine ZZ (wpAny_tupleItemsOf hob hdb ?_);refine ZZ ?_;have l1:=jY hia;have l2:=jY hib;simp only[Array.length_toList]at l1 l2;refine wpAny_forIn_list _
  (λrest r s'=>r.1=none/\s'=s/\∃x' y' xs' ys',rest=List.zip xs' ys'/\IntsAre xs' x'/\IntsAre ys' y'/\lx y' x'=lx yl xl/\decide (ys'.length<xs'.length)=decide (ys.size<xs.size))
  _ ?_ ?_ _ _ (pV rfl rfl xl yl xs.toList ys.toList rfl hia hib ⟨ rfl,by simp⟩)
 ·rintro⟨u,v⟩ rest r s' ⟨hr,rfl,x',y',xs',ys',hz,hx',hy',hdec,hlen⟩;cases hx' with
  |nil=>simp at hz
  |@cons k1 t1 xs'' x'' hx'' =>
   cases hy' with
   |nil=>simp at hz
   |@cons k2 t2 ys'' y'' hy'' =>
    simp only[List.zip_cons_cons,List.cons.injEq,Prod.mk.injEq]at hz;obtain⟨⟨rfl,rfl⟩,rfl⟩:=hz;refine ZZ (wpAny_eqBool_int ?_);rw[show lx (k2::y'') (k1::x'')=(if k2=k1 then lx y'' x'' else decide (k2<k1)) from rfl]at hdec;by_cases hk:k1=k2
    ·rw[show(k1==k2)=true by simpa using hk];simp only[Bool.not_true,YS,if_false];rw[Yb hk.symm]at hdec;exact ZY (pV rfl rfl x'' y'' xs'' ys'' rfl hx'' hy'' ⟨ hdec,by simpa using hlen⟩)
    ·rw[show(k1==k2)=false by simpa using hk];simp only[Bool.not_false,if_true];rw[Ya (λz=>hk z.symm)]at hdec;rw[<-hdec]at h;refine ZZ (wpAny_rule ?_);refine ZZ (show wpAny _ _ (compareOp .Gt (.int k1 t1) (.int k2 t2)) _ _ _ from PyProof.Rows.gt_int ?_);exact ZZ (ZY (ZY (ZY h)))
 ·rintro⟨r1,r2⟩ s' ⟨hr,rfl,x',y',xs',ys',hz,hx',hy',hdec,hlen⟩;simp only at hr;subst hr;refine ZY ?_;have hfin:decide (ys.size<xs.size)=lx yl xl:=by
   rw[<-hdec,<-hlen];cases hx' with
   |nil =>
    cases hy' with
    |nil=>rfl
    |cons _ _=>rfl
   |cons _ _ =>
    cases hy' with
    |nil=>rfl
    |cons _ _=>simp at hz
  show P (.done (.ret (.bool (decide (xs.size>ys.size))))) s';rw[show decide (xs.size>ys.size)=decide (ys.size<xs.size) from rfl,hfin];exact h
theorem JO{xl yl:List Int}{a b:Addr}{oa ob:Obj}{xs ys:Array Value}{na nb:Nat}{Q:Value->Shared->Prop}(hu:A.units<cLine)(hoa:s.heap.get? a=some oa)(hca:oa.cls=.type "tuple")(hda:oa.data=.seq xs na)(hob:s.heap.get? b=some ob)(hcb:ob.cls=.type "tuple")(hdb:ob.data=.seq ys nb)
  (hia:IntsAre xs.toList xl) (hib:IntsAre ys.toList yl) (h:Q (.bool (lx yl xl)) s):wpAny (model prog w) A (compareOp .Gt (.ref a) (.ref b)) Q E s:=by
 show wpAny _ _ (richCompare .Gt (.ref a) (.ref b)) Q E s;exact wpAny_richCompare_same_room (op:=.Gt) (T:="tuple") (xWP oa hoa hca) (xWP ob hob hcb) PySem.F.slot_tuple_gt
  (wpAny_call_entry PySem.F.slot_tuple_gt (xWP oa hoa hca) PySem.F.entry_tuple_gt (JQ hoa hda hob hcb hdb hia hib (aQ _ rfl (λz=>by cases z) h)) (PySem.F.args_tuple_gt_2 _ _)) hu
end
end SO
namespace L2
open PySem PySem.Spec PyProof.Rows
section
variable{X:Cx}
theorem MG(hu:X.A.units<cLine):OpR X (compareOp .Gt) (λx y H Q=>x.gr λa=>y.gr λb=>∃(xl:List Int) (yl:List Int),SqT H a (xl.map V.int)/\SqT H b (yl.map V.int)/\Q (.bl (SO.lx yl xl)) H):=by
 intro pins s σ H x y v u Q I rx ry h;obtain⟨a,rfl,z1⟩:=bN h;obtain⟨b,rfl,z2⟩:=bN z1;obtain⟨xl,yl,ha,hb,q⟩:=z2;cases rx;cases ry;obtain⟨its,r1,⟨o,g1,c1,n,d1⟩,_⟩:=I.tuple ha;obtain⟨its',r2,⟨o',g2,c2,n',d2⟩,_⟩:=I.tuple hb;exact SO.JO hu g1 c1 d1 g2 c2 d2 (intsAre_of r1) (intsAre_of r2) (aH (.bl _) H I rfl q)
theorem iO.r{H:Hp}{a:Addr}{kvs:List (Key×V)}{k:Key}(e:Rd H a (.dK kvs)):iO H a (kV k) (eL kvs k):=.inl (aH kvs k e rfl rfl)
theorem JM{P:Program}{w:World}{n:Int}{v:Value}(h:(cN P w).is (.inl n) v=true):∃t,v=.int n t:=by
 rcases cI (show oO (.inl n) v=true from h) with⟨i,t,e,rfl⟩ | ⟨x,t,e,_⟩
 ·cases e;exact⟨t,rfl⟩
 ·cases e
theorem tE{P:Program}{w:World}{kvs:List (Key×V)}{vs:List (Key×Value)}(r:KV kvs vs){ns:List Int}(hn:kvs.map (·.1)=ns.map Sum.inl){us:List Value}(hl:us.length=vs.length)
  (hu:∀(i:Nat) v,us[i]?=some v->∃k x,vs[i]?=some (k,x)/\(cN P w).is k v=true):a8 (ns.map V.int) us/\us.length=ns.length:=by
 have e1:ns.length=us.length:=by
  have:=congrArg List.length hn;simp only[Zq]at this;rw[hl,<-r.length,this]
 refine⟨tS (by rw[Zq];exact e1) λj x u hx hu'=>?_,e1.symm⟩;obtain⟨k,y,h1,h2⟩:=hu j u hu';have e2:=r.keys;have e3:(vs.map (·.1))[j]?=some k:=by rw[Zk,h1];rfl
 rw[<-e2,hn,Zk]at e3;obtain⟨n,q1,q2⟩:=Xv.mp e3;subst q2;rw[Zk,q1]at hx;cases hx;exact JM h2
theorem zI(hc:X.calm=true):fE X (.type "list") (λxs H Q=>∃(d:Addr) (kvs:List (Key×V)) (ns:List Int),xs=[.ref d]/\Rd H d (.dK kvs)/\kvs.map (·.1)=ns.map Sum.inl/\∀l,H l=none->Q (.ref l) (upd H l (.lst (ns.map V.int)))):=by
 intro pins s σ H xs us Q I r h;obtain⟨d,kvs,ns,rfl,hd,hn,q⟩:=h;obtain⟨u,rfl,rx⟩:=vals1 r;cases rx;obtain⟨hz,ne,vs,kv,dd⟩:=tH I.hok hd;obtain⟨ep,hat⟩:=dd.dictAt;have hlen:=kv.length;refine PySem.W.kdl_call (PySem.W.kdl_dict (kvs:=vs) (ep:=ep) ne) (I.ok.hd hc) hat (by lia) λh' tk acc' c' k e' it=>?_;obtain⟨hv,hl⟩:=tE kv hn (us:=acc'.toList) (by rw[Array.length_toList];exact it.1) λi v hi=>it.2 i v (by rw[<-Array.getElem?_toList];exact hi);refine(aH (.ref s.heap.objs.size) _ (I.laid (t':=tk) k (ZC _) (show cC X.prog X.w _ h' _ (.lst (ns.map V.int)) from(fF ?_ acc'.toList c' hv (by rw[e'])))) rfl (q _ I.fresh));have:=congrArg List.length hn;simp only[Zq]at this;rw[Zq]
 lia
theorem uV(hc:X.calm=true):fE X (.builtin "sorted") (λxs H Q=>∃(d:Addr) (kvs:List (Key×V)) (ns:List Int),xs=[.ref d]/\Rd H d (.dK kvs)/\kvs.map (·.1)=ns.map Sum.inl/\ns.length<64 /\
  ∀(l:Addr) (ns':List Int),H l=none->ns'.Perm ns->ns'.Pairwise (·<=·)->Q (.ref l) (upd H l (.lst (ns'.map V.int)))):=by
 intro pins s σ H xs us Q I r h;obtain⟨d,kvs,ns,rfl,hd,hn,h64,q⟩:=h;obtain⟨u,rfl,rx⟩:=vals1 r;cases rx;obtain⟨hz,ne,vs,kv,dd⟩:=tH I.hok hd;obtain⟨ep,hat⟩:=dd.dictAt;have hlen:=kv.length;refine Calls.call_function_entry kind_sorted plain_sorted entry_sorted (args_sorted1 _) ?_;unfold Builtin.«sorted»;refine ZZ (m:=checkCount "sorted" 1 1 _) (ZY ?_);refine ZZ (PySem.W.kdu_collect (PySem.W.kdl_dict (kvs:=vs) (ep:=ep) ne) (I.ok.hd hc) hat (by lia) λh' tk acc hk it=>?_);obtain⟨hv,hl⟩:=tE kv hn (us:=acc.toList) (by rw[Array.length_toList];exact it.1) λi v hi=>it.2 i v (by rw[<-Array.getElem?_toList];exact hi);have hl':acc.toList.length<64:=by lia
 have hz':acc.toList.length<=ZW:=YQ (by lia:acc.toList.length<=64) (by decide);refine ZZ (wpAny_newList ?_ hz');have ho:(h'.push (seqObj "list" acc.toList.toArray 0)).get? h'.objs.size=some (seqObj "list" acc.toList.toArray 0):=YU _ rfl;refine ZZ (ZU (wpAny_call_entry slot_list_sort (xWP _ ho rfl) entry_list_sort
  (list_sort_tree (s:={ s with heap:=h'.push (seqObj "list" acc.toList.toArray 0),toks:=tk }) ho (intsAre_of hv) hl' λout ns' a1 a2 a3=>(xWP _ rfl ?_)) (args_list_sort _)))
 refine ZY (xWP _ rfl ?_);have I1:Inv X pins σ H { s with heap:=h',toks:=tk }:=I.kept hk;obtain⟨e,he⟩:=sortedHeap_at (out:=out) ho;refine(aH (.ref h'.objs.size) _ (I1.laid (t':=tk) (λb o eb=>?_) (ZC _) (show cC X.prog X.w _ _ _ (.lst (ns'.map V.int)) from(fF ?_ out.toList e (kJ a1) he))) rfl (q _ ns' I1.fresh a2 a3))
 ·have hlt:=YV eb;show(sortedHeap _ _ _ _).get? b=_;rw[sortedHeap_old (ZA hlt) (by rw[Heap.size_push];exact Xj hlt)];exact YW _ eb
 ·rw[Zq,a2.length_eq];exact YQ (by lia:ns.length<=64) (by decide)
theorem kX:entryFor table "dict_itemiterator.__iter__" = some Builtin.«dict_keyiterator.__iter__» :=
 entryFor_alias (id':="dict_keyiterator.__iter__") (by kernel_rfl) rfl (by decide +kernel) (by kernel_rfl)
theorem Inv.freeze{pins:List (Addr×Obj)}{σ:St}{H:Hp}{s:Shared}{d:Addr}{kvs:List (Key×V)}{o:Obj}(I:Inv X pins σ H s)(hd:H d=some (.dK kvs))(ho:s.heap.get? d=some o):Inv X pins σ (upd H d (.frz o (.dK kvs))) s:=by
 have ne:∀b u,H b=some u->(∀z,u≠.dK z)->b≠d:=λb u e z q=>by subst q;rw[hd]at e;cases e;exact z _ rfl
 refine I.step (h':=s.heap) (g':=s.gens) (d':=s.drawn) (t':=s.toks) (ch:=[]) (λ_ z=>nomatch z) (λb o' _ _ _ e _=>e) (λb o' _ _ _ e _=>⟨o'.slots,e⟩) (λb o' _ _ e=>?_) (λb o' _ e=>⟨o',e⟩) (λb xs e=>?_) (λb ob u e=>?_) (λb ps e=>⟨#[],?_⟩) (λm h=>h) (λb u e=>?_) I.bare
 ·rw[aE (λq=>by subst q;rw[hd]at e;cases e)];exact e
 ·rw[aE (ne b _ e λz q=>by cases q)];exact e
 ·rw[aE (ne b _ e λz q=>by cases q)];exact e
 ·rw[aE (ne b _ e λz q=>by cases q),e];simp
 ·by_cases hb:b=d
  ·subst hb;rw[aA]at e;cases e;exact⟨ho,I.hok _ _ hd⟩
  ·rw[aE hb]at e;exact(I.hok b u e).stay (λc v _ q=>q) (λc q=>by rw[aE (ne c _ q λz q'=>by cases q')];exact q) λc xs q=>by rw[aE (ne c _ q λz q'=>by cases q')];exact q
def ItD(d:Addr)(o:Obj)(kvs:List (Key×V)):It :=
 ⟨λi H=>H d=some (.frz o (.dK kvs))/\i<kvs.length,λi H v H'=>∃T p,kvs[i]?=some p/\v=.ref T/\H T=none/\H'=upd H T (.tup [kV p.1,p.2]),λi H=>H d=some (.frz o (.dK kvs))/\kvs.length<=i⟩
theorem OO{P:Program}{w:World}{k:Key}{v:Value}(h:(cN P w).is k v=true):RelV (kV k) v:=by
 rcases cI (show oO k v=true from h) with⟨i,t,rfl,rfl⟩ | ⟨x,t,rfl,rfl⟩
 ·exact⟨t,rfl⟩
 ·exact⟨t,rfl⟩
theorem KV.get{κ:Type}:∀{kvs:List (κ×V)}{vs:List (κ×Value)}{i:Nat}{p:κ×V},KV kvs vs->kvs[i]?=some p->∃u,vs[i]?=some (p.1,u)/\RelV p.2 u
 |_,_,_,_,.nil,e=>by simp at e
 |_,_,0,_,.cons (b:=q) r _,e=>by
  simp at e;subst e;exact(xWP q.2 (by rw[r.1];rfl) r.2)
 |_,_,i+1,p,.cons _ t,e=>by
  obtain⟨u,h1,h2⟩:=KV.get (i:=i) (p:=p) t (by simpa using e);exact(xWP u (by simpa using h1) h2)
theorem x8{P:Program}{w:World}{K:PySem.W.Frag}{elts:List Expr}{k:Nat}{pos:Pos}(d it:Addr)(o:Obj)(kvs:List (Key×V)){es:Array DictEntry}{ep:Nat}(hdat:o.data=.dict es ep) :
  Turn P w K (.Tuple elts k pos) (ItD d o kvs) [it] it (λi h=>∃ok ov,IsItemIter h it d i kvs.length ep ok ov) where
 mem:=by simp
 obj:=λi h st b hb=>by
  obtain⟨ok,ov,he⟩:=st;have e':=Zb.mp hb;subst e';exact(xWP _ he (λv z=>by
   have z':Data.fields _=Data.cell v:=z;cases z'))
 keep:=λi h h' st k=>by
  obtain⟨ok,ov,he⟩:=st;exact(xWW ok ov (k it (by simp) _ he))
 item:=by
  intro X hP hw hK hc i pins s σ H E I hf st hg;subst hP hw hK;obtain⟨ok,ov,hit⟩:=st;obtain⟨hfz,hi⟩:=hg;obtain⟨ho,hz,ne,vs,kv,dd⟩:=(show cC X.prog X.w H s.heap d (.frz o (.dK kvs)) from I.hok d _ hfz)
  obtain⟨ep',hat⟩:=dd.dictAt;obtain⟨o2,es2,ho2,a1,hd2,a3⟩:=id hat;rw[ho]at ho2;cases ho2;rw[hdat]at hd2;cases hd2;have hlen:=kv.length;rw[hlen]at hit;obtain⟨u,hu,ru⟩:=KV.get kv (Zz hi);have fi:=hf it (by simp);refine wpAny_pyNext_items_item hit hat hu λkey h' hkey hout hT hsz hk=>?_;refine(xWP _ rfl ?_);have hTi:it≠s.heap.objs.size:=ZA (YV hit);have I1:Inv X pins σ (upd H s.heap.objs.size (.tup [kV kvs[i].1,kvs[i].2])) { s with heap:=h',toks:=s.toks } :=
   I.turnedNew (ch:=[it]) (λb v hb q=>hk b v (λz=>hb (by simp[z])) q) (λb v q=>by
    by_cases h1:b=it
    ·subst h1;exact⟨_,hout⟩
    ·exact⟨v,hk b v h1 q⟩) (ZC _) hf (gJ (by show 2<=ZW;decide) ([key,u]) (.cons (OO hkey) (.cons ru .nil)) (aQ _ hT rfl ⟨ _,rfl⟩))
  refine wpAny_letOwnedTupleGo_items hout λh2 he2 hs2=>?_;have I2:Inv X pins σ (upd H s.heap.objs.size (.tup [kV kvs[i].1,kvs[i].2])) { s with heap:=h2,toks:=s.toks } :=
   Inv.turned (s:={ s with heap:=h',toks:=s.toks }) (h':=h2) (t':=s.toks) (it:=it) I1 (λb o hb q=>(hs2.2 b hb).trans q) (by rw[aE hTi];exact fi.1) fi.2.1 fi.2.2.2.1 fi.2.2.2.2.1 fi.2.2.2.2.2
  refine(dI (.ref s.heap.objs.size) _ I2 rfl (aP s.heap.objs.size (kvs[i]) (Zz hi) rfl I.fresh rfl) (xWW _ _ (by rw[hlen];exact he2)) (λb hb=>?_));have e':=Zb.mp hb;subst e';rw[aE hTi];exact fi.1
 done:=by
  intro X hP hw hK hc i pins s σ H E I hf st hg;subst hP hw hK;obtain⟨ok,ov,hit⟩:=st;obtain⟨hfz,hi⟩:=hg;obtain⟨ho,hz,ne,vs,kv,dd⟩:=(show cC X.prog X.w H s.heap d (.frz o (.dK kvs)) from I.hok d _ hfz)
  obtain⟨ep',hat⟩:=dd.dictAt;obtain⟨o2,es2,ho2,a1,hd2,a3⟩:=id hat;rw[ho]at ho2;cases ho2;rw[hdat]at hd2;cases hd2;have hlen:=kv.length;rw[hlen]at hit;obtain⟨f0,f1,f2,f3,f4,f5⟩:=hf it (by simp);refine wpAny_pyNext_items_end (I.ok.hd hc) hit hat (Zr (by lia)) λh' eb=>⟨rfl,?_⟩
  exact I.turned (t':=s.toks) (λb o hb q=>eb b o hb q) f0 f1 f3 f4 f5
 self:=λ_ _ s _ _ st h=>by
  obtain⟨ok,ov,he⟩:=st;have hT:s.TypeIs (.ref it) "dict_itemiterator":=(xWP _ he rfl)
  refine wpAny_pyIter_slot hT F.slot_dict_itemiterator_iter (wpAny_call_entry F.slot_dict_itemiterator_iter hT kX ?_ (F.args_dict_itemiterator_iter_1 _));show wpAny _ _ (ret (.ref it)) _ _ s;exact ZY (zP _ rfl ("dict_itemiterator") _ hT F.slot_dict_itemiterator_next.lookup h)
end
section
variable{X:Cx}
def M0(to:TE):TI:=λσ H R=>to σ H λx H1=>x.gr λd=>∃(kvs:List (Key×V)),H1 d=some (.dK kvs)/\∀o,R (ItD d o kvs) (upd H1 d (.frz o (.dK kvs)))
theorem EV{o:Expr}{to:TE}{elts:List Expr}{k:Nat}{tpos apos cpos:Pos}(ho:PE X o to)
  (hbase:attributeBase o "items" X.env (eval o X.env)=eval o X.env:=by rfl) (hline:(apos.endLine==cpos.line)=true:=by rfl):PI X (.Tuple elts k tpos) (.Call (.Attribute o "items" apos) [] [] cpos) (M0 to):=by
 intro pins s σ H R I h;refine wpAny_Call_method0_late hbase hline (cW (ho pins s σ H _ I h) λv s1 x H1 I1 r1 zz=>?_);obtain⟨d,ex,kvs,hd,q1⟩:=bN zz;subst ex;cases r1;obtain⟨h1,h2⟩:=xZ (T:="dict") I1 (show RelV (.ref d) (.ref d) from rfl) (.inr (.inl ⟨rfl,.inl ⟨kvs,hd⟩⟩));obtain⟨hz,ne,vs,kv,dd⟩:=KQ I1.hok hd;refine(hJ ("dict") ("dict.items") PySem.F.plainAttrs_dict PySem.F.slot_dict_items PySem.F.type_dict_items h1 h2 (Calls.callWith_builtin rfl (PySem.evalArgs_none ?_)));refine call_meetsIn PySem.F.slot_dict_items h1 PySem.F.entry_dict_items (PySem.F.args_dict_items_1 _) (meets_dict_items (cN X.prog X.w) d ne) ⟨⟨vs,dd⟩,?_⟩;obtain⟨ep,hat⟩:=dd.dictAt;obtain⟨o,es,ho',a1,hdat,a3⟩:=id hat;refine wpAny_pyIter_items (v:=s1.heap.objs.size) (d:=d) (knd:=cN X.prog X.w) (kvs:=vs) (ep:=ep) (aQ _ (YU _ rfl) rfl rfl) (hat.push _) ?_;have I2:=(I1.freeze hd ho').kept (t':=s1.toks) (h':=s1.heap.push { cls:=.type "dict_items",data:=.fields #[.ref d] }) λb u e=>YW _ e;have I3:=I2.kept (t':=s1.toks) (h':=(s1.heap.push { cls:=.type "dict_items",data:=.fields #[.ref d] }).push { cls:=.type "dict_itemiterator",data:=.fields #[.none,.bool false,.ref d,.int 0 0,.int vs.length 0,.int ep 0,.none,.none] }) λb u e=>YW _ e;refine(bB ((s1.heap.push { cls:=.type "dict_items",data:=.fields #[.ref d] }).objs.size) ([(s1.heap.push { cls:=.type "dict_items",data:=.fields #[.ref d] }).objs.size]) _ _ _ rfl I3 (x8 d _ o kvs hdat) (xWW .none .none ?_) ⟨ λb hb=>?_,q1 o⟩)
 ·rw[kv.length];exact YU _ rfl
 ·have e':=Zb.mp hb;subst e';exact I2.fpOk (ZC _) (I2.hok.fresh (ZC _))
end
theorem CS{d:Addr}{o:Obj}{kvs:List (Key×V)}{g:TG}{tb:TS}{D:Ends}{σ:St}{H:Hp}(Pv:Nat->St->Hp->Prop)(h0:Pv 0 σ H)(hl:∀i σ H,i<=kvs.length->Pv i σ H->H d=some (.frz o (.dK kvs)))
  (hs:∀(i:Nat) p σ H T,kvs[i]?=some p->Pv i σ H->H T=none->g (.ref T) σ (upd H T (.tup [kV p.1,p.2])) λσ2 H2=>tb { D with nx:=Pv (i+1),ct:=Pv (i+1),bk:=D.nx } σ2 H2) (hd:∀σ H,Pv kvs.length σ H->D.nx σ H) :
  ∃W:Nat->Nat->St->Hp->Prop,(∃m,W 0 m σ H)/\∀i m σ H,W i m σ H ->
   ((ItD d o kvs).stop i H/\D.nx σ H)\/((ItD d o kvs).go i H/\∃N:St->Hp->Prop,(∀σ' H',N σ' H'->∃m',m' < m/\W (i+1) m' σ' H')/\∀x H',(ItD d o kvs).yld i H x H'->g x σ H' λσ2 H2=>tb { D with nx:=N,ct:=N,bk:=D.nx } σ2 H2):=by
 refine(xWP (λi m σ H=>m=kvs.length-i/\i<=kvs.length/\Pv i σ H) (aQ kvs.length (by simp) (YZ _) h0) ?_);rintro i m σ H ⟨rfl,hi,p⟩;have q:=hl i σ H hi p;by_cases hlt:i<kvs.length
 ·refine .inr (gJ ⟨q,hlt⟩ (Pv (i+1)) (λσ' H' p'=>(dA (kvs.length-(i+1)) (by omega) rfl hlt p')) (λx H' y=>?_));obtain⟨T,kv,e,rfl,hT,rfl⟩:=y;exact hs i kv σ _ T e p hT
 ·have e:i=kvs.length:=by lia
  subst e;exact .inl ⟨⟨q,ZC _⟩,hd σ H p⟩
section
variable{X:Cx}{pins:List (Addr×Obj)}{σ:St}{H:Hp}{s:Shared}{h':Heap}
theorem Inv.turnedCh{t':Nat}{ch:List Addr}(I:Inv X pins σ H s)(k:∀b u,b∉ch->s.heap.get? b=some u->h'.get? b=some u)(hf:∀b∈ch,oX X pins H b):Inv X pins σ H { s with heap:=h',toks:=t' }:=by
 have nit:∀b u,H b=some u->b∉ch:=λb u e z=>by rw[(hf b z).1]at e;cases e
 refine I.step (g':=s.gens) (d':=s.drawn) (ch:=ch) (λb hb=>?_) (λb o _ _ hc e _=>k b o hc e) (λb o _ _ hc e _=>⟨o.slots,k b o hc e⟩) (λb u hc e n=>n) (λb u hc e=>⟨u,k b u hc e⟩)
  (λb xs e=>e) (λb ob u e=>e) (λb ps e=>⟨#[],by rw[e];simp⟩) (λm hm=>?_) (λb u e=>?_) I.bare
 ·exact(cH ((hf b hb).2.2.2.1) ((hf b hb).2.1) ((hf b hb).2.2.2.2.1) ((hf b hb).2.2.2.2.2))
 ·obtain⟨ob,es,ep,ho,r⟩:=hm;exact(jH ob es ep (k _ ob (λz=>(hf _ z).2.1 rfl) ho) r)
 ·refine(I.hok b u e).stay (λc v hc q=>k c v ?_ q) (λc q=>q) λc xs q=>q;rcases hc with z | z
  ·rw[z];exact nit b u e
  ·exact nit c _ z
end
def Itz(a b:Addr):It :=
 ⟨λi H=>∃xs ys x y,H a=some (.lst xs)/\H b=some (.lst ys)/\xs[i]?=some x/\ys[i]?=some y,λi H v H'=>∃T x y,v=.ref T/\H T=none/\H'=upd H T (.tup [x,y])/\(∀xs,H a=some (.lst xs)->xs[i]?=some x)/\∀ys,H b=some (.lst ys)->ys[i]?=some y,λi H=>∃xs ys,H a=some (.lst xs)/\H b=some (.lst ys)/\(xs.length<=i\/ys.length<=i)⟩
theorem DG{P:Program}{w:World}{K:PySem.W.Frag}{elts:List Expr}{k:Nat}{pos:Pos}(a b z TI TO i1 i2:Addr)(d:[z,TI,TO,i1,i2].Nodup) :
  Turn P w K (.Tuple elts k pos) (Itz a b) [z,TI,TO,i1,i2] z (λi h=>IsZip h z TI TO .none/\IsPair h TI (.ref i1) (.ref i2)/\(∃u v,IsPair h TO u v)/\h.IsListIter i1 a i/\h.IsListIter i2 b i):=by
 simp only[List.nodup_cons,Zn,ZL,or_false,not_or]at d;obtain⟨⟨d1,d2,d3,d4⟩,⟨d5,d6,d7⟩,⟨d8,d9⟩,d10,_⟩:=d;have apart:∀{H:Hp}{l l':Addr}{xs ys:List V},H l=some (.lst xs)->H l'=some (.lst ys)->(∀c∈[z,TI,TO,i1,i2],H c=none)->ZipApart z TI TO i1 i2 l l':=λ{H l l' xs ys} h h' hn =>
  ⟨Yh d1,Yh d2,Yh d3,Yh d4,d5,d6,d7,d8,d9,d10,aC h (hn z (by simp)),aC h (hn TO (by simp)),aC h (hn i1 (by simp)),aC h (hn i2 (by simp)),
   aC h' (hn z (by simp)),aC h' (hn TO (by simp)),aC h' (hn i1 (by simp)),aC h' (hn i2 (by simp))⟩
 refine⟨by simp,?_,?_,?_,?_,?_⟩
 ·rintro i h ⟨hz,hTI,⟨u,v,hTO⟩,⟨o1,h1,c1,e1⟩,⟨o2,h2,c2,e2⟩⟩ b' hb;simp only[Zn,ZL,or_false]at hb;rcases hb with rfl | rfl | rfl | rfl | rfl
  ·exact(xWP _ hz (λv q=>by have q':Data.fields _=Data.cell v:=q;cases q'))
  ·exact(xWP _ hTI (λv q=>by have q':Data.seq _ _=Data.cell v:=q;cases q'))
  ·exact(xWP _ hTO (λv q=>by have q':Data.seq _ _=Data.cell v:=q;cases q'))
  ·exact(xWP _ h1 (λv q=>by rw[e1]at q;cases q))
  ·exact(xWP _ h2 (λv q=>by rw[e2]at q;cases q))
 ·rintro i h h' ⟨hz,hTI,⟨u,v,hTO⟩,h1,h2⟩ kk;exact(bU (kk z (by simp) _ hz) (kk TI (by simp) _ hTI) (xWW u v (kk TO (by simp) _ hTO)) (h1.at λo e=>kk i1 (by simp) o e) (h2.at λo e=>kk i2 (by simp) o e))
 ·intro X hP hw hK hc i pins s σ H E I hf st hg;subst hP hw hK;obtain⟨hz,hTI,⟨u,v,hTO⟩,h1,h2⟩:=st;obtain⟨xs,ys,x,y,ha,hb,hx,hy⟩:=hg;have D:=apart ha hb λc hc=>(hf c hc).1;obtain⟨_,its,n,rv,hl,e⟩:=I.lstM ha;obtain⟨_,its2,n2,rv2,hl2,e2⟩:=I.lstM hb;obtain⟨u1,hu1,ru1⟩:=rv.get hx;obtain⟨u2,hu2,ru2⟩:=rv2.get hy;have hux:its.toArray[i]?=some u1:=by simpa using hu1
  have huy:its2.toArray[i]?=some u2:=by simpa using hu2
  refine wpAny_pyNext_zip_item D hz hTI hTO h1 h2 (aQ _ e rfl ⟨ n,rfl⟩) (aQ _ e2 rfl ⟨ n2,rfl⟩) hux huy λh' a1 a2 a3 a4 a5 a6 hk=>?_;refine(xWP _ rfl ?_);have kk:∀c o,c∉[z,TO,i1,i2]->s.heap.get? c=some o->h'.get? c=some o:=λc o hc q=>hk c o (λx=>hc (by simp[x])) (λx=>hc (by simp[x])) (λx=>hc (by simp[x])) (λx=>hc (by simp[x])) q;have th:∀c o,s.heap.get? c=some o->∃o',h'.get? c=some o':=λc o q=>by
   by_cases c1:c=z
   ·subst c1;exact⟨_,a1⟩
   ·by_cases c2:c=TO
    ·subst c2;exact⟨_,a2⟩
    ·by_cases c3:c=i1
     ·subst c3;obtain⟨o',q1,_⟩:=a3;exact⟨_,q1⟩
     ·by_cases c4:c=i2
      ·subst c4;obtain⟨o',q1,_⟩:=a4;exact⟨_,q1⟩
      ·exact⟨o,hk c o c1 c2 c3 c4 q⟩
  have sub:∀c∈[z,TO,i1,i2],c∈[z,TI,TO,i1,i2]:=λc hc=>by simp at hc ⊢;rcases hc with rfl | rfl | rfl | rfl<;>simp
  have I1:Inv X pins σ (upd H s.heap.objs.size (.tup [x,y])) { s with heap:=h',toks:=s.toks } :=
   I.turnedNew (ch:=[z,TO,i1,i2]) kk th (ZC _) (λc hc=>hf c (sub c hc)) (gJ (by show 2<=ZW;decide) ([u1,u2]) (.cons ru1 (.cons ru2 .nil)) (aQ _ a5 rfl ⟨ _,rfl⟩))
  have fz:=hf z (by simp);have neT:∀c∈[z,TI,TO,i1,i2],c≠s.heap.objs.size:=λc hc=>by
   simp only[Zn,ZL,or_false]at hc;rcases hc with rfl | rfl | rfl | rfl | rfl
   ·exact ZA (YV hz)
   ·exact ZA (YV hTI)
   ·exact ZA (YV hTO)
   ·obtain⟨_,q,_⟩:=h1;exact ZA (YV q)
   ·obtain⟨_,q,_⟩:=h2;exact ZA (YV q)
  refine wpAny_letOwnedTupleGo_zip a1 λh2' hz2 hs2=>?_;have I2:Inv X pins σ (upd H s.heap.objs.size (.tup [x,y])) { s with heap:=h2',toks:=s.toks } :=
   Inv.turned (s:={ s with heap:=h',toks:=s.toks }) (h':=h2') (t':=s.toks) (it:=z) I1 (λc o hc q=>(hs2.2 c hc).trans q) (by rw[aE (neT z (by simp))];exact fz.1) fz.2.1 fz.2.2.2.1 fz.2.2.2.2.1 fz.2.2.2.2.2
  refine(dI (.ref s.heap.objs.size) _ I2 rfl (dY s.heap.objs.size x y rfl I.fresh rfl (λzs hzs=>by rw[ha]at hzs;cases hzs;exact hx) (λzs hzs=>by rw[hb]at hzs;cases hzs;exact hy)) (bU hz2 ((hs2.2 TI (Yh d1)).trans (hk TI _ (Yh d1) d5 d6 d7 hTI)) (xWW _ _ ((hs2.2 TO (Yh d2)).trans a2)) (a3.at λo q=>(hs2.2 i1 (Yh d3)).trans q) (a4.at λo q=>(hs2.2 i2 (Yh d4)).trans q)) (λc hc=>?_));rw[aE (neT c hc)];exact(hf c hc).1
 ·intro X hP hw hK hc i pins s σ H E I hf st hg;subst hP hw hK;obtain⟨hz,hTI,⟨u,v,hTO⟩,h1,h2⟩:=st;obtain⟨xs,ys,ha,hb,hx⟩:=hg;have D:=apart ha hb λc hc=>(hf c hc).1;obtain⟨_,its,n,rv,hl,e⟩:=I.lstM ha;obtain⟨_,its2,n2,rv2,hl2,e2⟩:=I.lstM hb;have sub:∀c∈[z,TO,i1,i2],c∈[z,TI,TO,i1,i2]:=λc hc=>by simp at hc ⊢;rcases hc with rfl | rfl | rfl | rfl<;>simp
  refine wpAny_pyNext_zip_end (I.ok.hd hc) D hz hTI hTO h1 h2 (aQ _ e rfl ⟨ n,rfl⟩) (aQ _ e2 rfl ⟨ n2,rfl⟩) ?_ λh' hk=>⟨rfl,?_⟩
  ·rcases hx with q | q
   ·left;simp;lia
   ·right;simp;lia
  ·exact I.turnedCh (t':=s.toks) (ch:=[z,TO,i1,i2]) (λc o hc q=>hk c o (λx=>hc (by simp[x])) (λx=>hc (by simp[x])) (λx=>hc (by simp[x])) (λx=>hc (by simp[x])) q) λc hc=>hf c (sub c hc)
 ·intro A i s Q E st h;exact wpAny_pyIter_zip st.1 h
section
variable{X:Cx}
def QJ(ta:TA):TI:=λσ H R=>ta σ H λvs H1=>∃a b xs ys,vs=[.ref a,.ref b]/\H1 a=some (.lst xs)/\H1 b=some (.lst ys)/\R (Itz a b) H1
theorem lP{a b:Expr}{ta:TA}{p pos:Pos}{elts:List Expr}{k:Nat}{tpos:Pos}(hg:Gl X "zip")(hm:X.mg "zip" = none)(ha:PA X [a,b] ta)(hs:starEach [a,b] X.env=[(false,eval a X.env),(false,eval b X.env)]:=by rfl)(hs2:starEach [b] X.env=[(false,eval b X.env)]:=by rfl) :
  PI X (.Tuple elts k tpos) (.Call (.Name "zip" p) [a,b] [] pos) (QJ ta):=by
 intro pins s σ H R I h;refine Call_ (jV I hg hm boot_zip (PyProof.Rows.callWith_type1 (oT (ha pos pins s σ H _ I h) λus s1 vs H1 I1 r1 q1=>?_) (by rw[hs,hs2]) (by rw[hs2];rfl)));obtain⟨l,l2,xs,ys,e,hx,hy,q⟩:=q1;subst e;cases r1 with
 |cons r rr =>
  cases rr with
  |cons r' rr =>
   cases rr;cases r;cases r';obtain⟨_,its,n,rv,hl,e⟩:=I1.lstM hx;obtain⟨_,its2,n2,rv2,hl2,e2⟩:=I1.lstM hy;refine call_zip_2 (aQ _ e rfl ⟨ n,rfl⟩) (aQ _ e2 rfl ⟨ n2,rfl⟩) λh' z1 z2 z3 z4 z5 hsz hk=>?_;refine wpAny_pyIter_zip z1 ?_;have I2:Inv X pins σ H1 { s1 with heap:=h' }:=I1.kept (t':=s1.toks) hk;refine(bB (s1.heap.objs.size+4) ([s1.heap.objs.size+4,s1.heap.objs.size+2,s1.heap.objs.size+3,s1.heap.objs.size,s1.heap.objs.size+1]) _ _ H1 rfl I2 (DG l l2 _ _ _ _ _ (by simp)) (bU z1 z2 (xWW _ _ z3) z4 z5) ⟨ λc hc=>?_,q⟩);have hc':s1.heap.objs.size<=c:=by
    simp only[Zn,ZL,or_false]at hc;rcases hc with rfl | rfl | rfl | rfl | rfl<;>lia
   exact I1.fpOk hc' (I1.hok.fresh hc')
end
theorem pM{a b:Addr}{xs ys:List V}{g:TG}{tb:TS}{D:Ends}{σ:St}{H:Hp}(Pv:Nat->St->Hp->Prop)(hlen:xs.length=ys.length)(h0:Pv 0 σ H)(hl:∀i σ H,i<=xs.length->Pv i σ H->H a=some (.lst xs)/\H b=some (.lst ys))
  (hs:∀(i:Nat) x y σ H T,xs[i]?=some x->ys[i]?=some y->Pv i σ H->H T=none->g (.ref T) σ (upd H T (.tup [x,y])) λσ2 H2=>tb { D with nx:=Pv (i+1),ct:=Pv (i+1),bk:=D.nx } σ2 H2) (hd:∀σ H,Pv xs.length σ H->D.nx σ H) :
  ∃W:Nat->Nat->St->Hp->Prop,(∃m,W 0 m σ H)/\∀i m σ H,W i m σ H ->
   ((Itz a b).stop i H/\D.nx σ H)\/((Itz a b).go i H/\∃N:St->Hp->Prop,(∀σ' H',N σ' H'->∃m',m' < m/\W (i+1) m' σ' H')/\∀x H',(Itz a b).yld i H x H'->g x σ H' λσ2 H2=>tb { D with nx:=N,ct:=N,bk:=D.nx } σ2 H2):=by
 refine(xWP (λi m σ H=>m=xs.length-i/\i<=xs.length/\Pv i σ H) (aQ xs.length (by simp) (YZ _) h0) ?_);rintro i m σ H ⟨rfl,hi,p⟩;obtain⟨q1,q2⟩:=hl i σ H hi p;by_cases hlt:i<xs.length
 ·refine .inr (gJ (l7 xs ys (xs[i]) (ys[i]'(by lia)) q1 q2 (by simp[hlt]) (by rw[Zz (by lia)])) (Pv (i+1)) (λσ' H' p'=>(dA (xs.length-(i+1)) (by lia) rfl hlt p')) (λx H' y=>?_));obtain⟨T,x',y',rfl,hT,rfl,y1,y2⟩:=y;exact hs i x' y' σ _ T (y1 xs q1) (y2 ys q2) p hT
 ·have e:i=xs.length:=by lia
  subst e;exact .inl ⟨(aH xs ys q1 q2 (.inl (ZC _))),hd σ H p⟩
end L2
namespace L2
open PySem PyProof.Rows
theorem mZ:∀xs ys:List Int,PyData.eqvAll (xs.map PyData.int) (ys.map PyData.int)=decide (xs=ys)
 |[],[]=>rfl
 |[],_::_=>rfl
 |_::_,[]=>rfl
 |x::xs,y::ys=>by
  simp only[ZI,PyData.eqvAll,mZ xs ys,PyData.eqv];by_cases h:x=y
  ·subst h;simp
  ·simp[h]
theorem nW(xs ys:List Int):PyData.eqv (.list (xs.map PyData.int)) (.list (ys.map PyData.int))=decide (xs=ys):=by
 rw[PyData.eqv,mZ]
end L2
namespace FL
structure En where
 d:Int
 v:Nat
 k:Nat
 by_:Int
section
variable(rest:Nat->Int)(src dst:Nat->Int->Nat)(len:Nat->Int->Int)(op:Nat->Int->Prop)
def Led(R:List En)(e:En):Prop:=op e.k e.by_/\dst e.k e.by_=e.v/\e.by_≠0/\∃u∈R,u.v=src e.k e.by_/\e.d=u.d+len e.k e.by_
def tP(e:En):Prop:=e.by_=0/\e.d=0/\0<rest e.v
structure Rch(n:Nat)(pr:Nat->Int->Prop)(R W:List En)(nr:Nat->Option Int):Prop where
 old:∀(i:Nat) e,R[i]?=some e->tP rest e\/Led src dst len op (R.take i) e
 wait:∀e∈W,tP rest e\/Led src dst len op R e
 lt:∀e∈R++W,e.v<n
 nd:(R.map (·.v)).Nodup
 up:R.Pairwise λa b=>a.d<=b.d
 mono:∀u∈R,∀e∈W,u.d<=e.d
 dom:∀k by_,pr k by_->op k by_->∃x,nr (dst k by_)=some x/\∃u∈R,u.v=src k by_/\x<=u.d+len k by_
 near:∀v x,nr v=some x->∃e∈R++W,e.v=v/\e.d<=x
 pos:∀v,v<n->0<rest v->∃e∈R++W,e.v=v/\e.d<=0
variable{rest src dst len op}{n:Nat}{pr pr':Nat->Int->Prop}{R W W':List En}{nr:Nat->Option Int}{e:En}
theorem Led.more{R R':List En}(h:Led src dst len op R e)(s:∀u∈R,u∈R'):Led src dst len op R' e:=by
 obtain⟨a,b,c,u,hu,r⟩:=h;exact(KY a b c u (s u hu) r)
theorem Rch.start(hW:∀e∈W,tP rest e/\e.v<n)(all:∀v,v<n->0<rest v->∃e∈W,e.v=v):Rch rest src dst len op n (λ_ _=>False) [] W (λ_=>none) where
 old:=λi e h=>by simp at h
 wait:=λe he=>.inl (hW e he).1
 lt:=λe he=>(hW e (by simpa using he)).2
 nd:=List.nodup_nil
 up:=.nil
 mono:=λu hu=>by cases hu
 dom:=λ_ _ h=>h.elim
 near:=λ_ _ h=>by cases h
 pos:=λv hv h=>by
  obtain⟨e,he,ev⟩:=all v hv h;exact(aQ e (by simpa using he) ev (by rw[(hW e he).1.2.1];exact Int.le_refl _))
theorem Rch.drop(h:Rch rest src dst len op n pr R W nr)(p:W.Perm (e::W'))(he:∃u∈R,u.v=e.v):Rch rest src dst len op n pr R W' nr:=by
 have sub:∀x∈W',x∈W:=λx hx=>p.mem_iff.mpr (.tail _ hx);have inst:∀{v:Nat}{x:Int},(∃e∈R++W,e.v=v/\e.d<=x)->∃e∈R++W',e.v=v/\e.d<=x:=λ{v x} ⟨y,hy,yv,yd⟩=>by
  rcases Zf.mp hy with hy | hy
  ·exact(aQ y (ZO _ hy) yv yd)
  ·rcases Zn.mp (p.mem_iff.mp hy) with rfl | hy'
   ·obtain⟨u,hu,uv⟩:=he;exact(aQ u (ZO _ hu) (uv.trans yv) (Int.le_trans (h.mono u hu _ hy) yd))
   ·exact(aQ y (ZN _ hy') yv yd)
 exact{ old:=h.old,wait:=λx hx=>h.wait x (sub x hx),lt:=λx hx=>h.lt x ((Zf.mp hx).elim (ZO _) λz=>ZN _ (sub x z)),nd:=h.nd,up:=h.up,mono:=λu hu x hx=>h.mono u hu x (sub x hx),dom:=h.dom,near:=λv x hv=>inst (h.near v x hv),pos:=λv hv hp=>inst (h.pos v hv hp) }
theorem Rch.take(h:Rch rest src dst len op n pr R W nr)(p:W.Perm (e::W'))(least:∀x∈W',e.d<=x.d)(he:∀u∈R,u.v≠e.v):Rch rest src dst len op n pr (R++[e]) W' nr:=by
 have me:e∈W:=p.mem_iff.mpr (.head _);have sub:∀x∈W',x∈W:=λx hx=>p.mem_iff.mpr (.tail _ hx);have inst:∀{v:Nat}{x:Int},(∃e∈R++W,e.v=v/\e.d<=x)->∃y∈(R++[e])++W',y.v=v/\y.d<=x:=λ{v x} ⟨y,hy,yv,yd⟩=>by
  refine(aQ y ?_ yv yd);rcases Zf.mp hy with hy | hy
  ·exact ZO _ (ZO _ hy)
  ·rcases Zn.mp (p.mem_iff.mp hy) with rfl | hy'
   ·exact ZO _ (ZN _ (.head _))
   ·exact ZN _ hy'
 exact{
  old:=λi x hx=>by
   rcases Xk i R.length with hi | hi
   ·rw[Zx hi]at hx;rw[List.take_append_of_le_length (YX hi)];exact h.old i x hx
   ·rw[Zy hi]at hx;have hz:i-R.length=0:=by
     have:=(Zj.mp hx).1;simp at this
     lia
    rw[hz]at hx;have ex:e=x:=by simpa using hx
    subst ex;have ei:i=R.length:=by lia
    subst ei;rw[List.take_left];exact h.wait _ me
  wait:=λx hx=>(h.wait x (sub x hx)).imp id λz=>z.more λu hu=>ZO _ hu
  lt:=λx hx=>by
   rcases Zf.mp hx with hx | hx
   ·rcases Zf.mp hx with hx | hx
    ·exact h.lt x (ZO _ hx)
    ·cases hx with
     |head=>exact h.lt _ (ZN _ me)
     |tail _ z=>cases z
   ·exact h.lt x (ZN _ (sub x hx))
  nd:=by
   rw[Zt];refine List.nodup_append.mpr (xPP h.nd (by simp) ?_);intro a ha b hb;obtain⟨u,hu,rfl⟩:=Zh.mp ha;have:b=e.v:=by simpa using hb
   rw[this];exact he u hu
  up:=List.pairwise_append.mpr (xPP h.up (List.pairwise_singleton _ _) (λa ha b hb=>by
   have:b=e:=by simpa using hb
   rw[this];exact h.mono a ha e me))
  mono:=λu hu x hx=>by
   rcases Zf.mp hu with hu | hu
   ·exact h.mono u hu x (sub x hx)
   ·have:u=e:=by simpa using hu
    rw[this];exact least x hx
  dom:=λk by_ hp ho=>by
   obtain⟨x,h1,u,hu,r⟩:=h.dom k by_ hp ho;exact(u4 x h1 u (ZO _ hu) r)
  near:=λv x hv=>inst (h.near v x hv)
  pos:=λv hv hp=>inst (h.pos v hv hp) }
theorem Rch.pass{k:Nat}{by_:Int}(h:Rch rest src dst len op n pr R W nr)(c:op k by_->∃x,nr (dst k by_)=some x/\∃u∈R,u.v=src k by_/\x<=u.d+len k by_)(sub:∀k' b',pr' k' b'->pr k' b'\/(k'=k/\b'=by_)):Rch rest src dst len op n pr' R W nr :=
 ⟨h.old,h.wait,h.lt,h.nd,h.up,h.mono,λk' b' hp ho=>(sub k' b' hp).elim (λz=>h.dom k' b' z ho) λz=>by
  obtain⟨rfl,rfl⟩:=z;exact c ho,h.near,h.pos⟩
theorem Rch.put{k:Nat}{by_:Int}{u:En}(h:Rch rest src dst len op n pr R W nr)(ho:op k by_)(hb:by_≠0)(hu:u∈R)(uv:u.v=src k by_)(top:∀x∈R,x.d<=u.d)(hl:0<=len k by_)(hd:dst k by_<n)
  (better:∀x,nr (dst k by_)=some x->u.d+len k by_<=x) (p:W'.Perm (⟨u.d+len k by_,dst k by_,k,by_⟩::W)) (sub:∀k' b',pr' k' b'->pr k' b'\/(k'=k/\b'=by_)) :
  Rch rest src dst len op n pr' R W' (λv=>if v=dst k by_ then some (u.d+len k by_) else nr v):=by
 have new:(⟨u.d+len k by_,dst k by_,k,by_⟩:En)∈W':=p.mem_iff.mpr (.head _);have grow:∀{v:Nat}{x:Int},(∃e∈R++W,e.v=v/\e.d<=x)->∃e∈R++W',e.v=v/\e.d<=x:=λ{v x} ⟨y,hy,r⟩=>by
  refine(xWP y ?_ r);rcases Zf.mp hy with hy | hy
  ·exact ZO _ hy
  ·exact ZN _ (p.mem_iff.mpr (.tail _ hy))
 exact{
  old:=h.old
  wait:=λx hx=>by
   rcases Zn.mp (p.mem_iff.mp hx) with rfl | hx
   ·exact .inr (GY ho rfl hb u hu uv rfl)
   ·exact h.wait x hx
  lt:=λx hx=>by
   rcases Zf.mp hx with hx | hx
   ·exact h.lt x (ZO _ hx)
   ·rcases Zn.mp (p.mem_iff.mp hx) with rfl | hx
    ·exact hd
    ·exact h.lt x (ZN _ hx)
  nd:=h.nd
  up:=h.up
  mono:=λy hy x hx=>by
   rcases Zn.mp (p.mem_iff.mp hx) with rfl | hx
   ·show y.d<=u.d+len k by_;have:=top y hy
    lia
   ·exact h.mono y hy x hx
  dom:=λk' b' hp ho'=>by
   by_cases z:dst k' b'=dst k by_
   ·refine(xWP _ (Yb z) ?_);rcases sub k' b' hp with y | ⟨rfl,rfl⟩
    ·obtain⟨x,h1,w,hw,wv,hx⟩:=h.dom k' b' y ho';rw[z]at h1;have:=better x h1;exact(aQ w hw wv (by lia))
    ·exact(aQ u hu uv (Int.le_refl _))
   ·rcases sub k' b' hp with y | ⟨rfl,rfl⟩
    ·obtain⟨x,h1,r⟩:=h.dom k' b' y ho';exact(xWP x ((Ya z).trans h1) r)
    ·exact Yg rfl z
  near:=λv x hv=>by
   by_cases z:v=dst k by_
   ·rw[Yb z]at hv;cases hv;exact(aQ _ (ZN _ new) z.symm (Int.le_refl _))
   ·rw[Ya z]at hv;exact grow (h.near v x hv)
  pos:=λv hv hp=>grow (h.pos v hv hp) }
theorem Rch.have_pos(h:Rch rest src dst len op n pr R [] nr){v:Nat}(hv:v<n)(hp:0<rest v):∃u∈R,u.v=v:=by
 obtain⟨e,he,ev,_⟩:=h.pos v hv hp;rw[List.append_nil]at he;exact(xWP e he ev)
noncomputable def lift(R:List En)(D:Int)(v:Nat):Int:=match R.find? λu=>u.v==v with
 |some u=>D-u.d
 |none=>0
theorem iG(nd:(R.map (·.v)).Nodup){u:En}(hu:u∈R)(D:Int):lift R D u.v=D-u.d:=by
 unfold lift;have:R.find? (λw=>w.v==u.v)=some u:=by
  induction R with
  |nil=>cases hu
  |cons a l ih =>
   rw[ZI,List.nodup_cons]at nd;rcases Zn.mp hu with rfl | hu
   ·exact List.find?_cons_of_pos (by simp)
   ·have ne:¬(a.v==u.v)=true:=λz=>nd.1 (by rw[Yi z];exact Zh.mpr (xWP u hu rfl));rw[List.find?_cons_of_neg (p:=λw:En=>w.v==u.v) ne];exact ih nd.2 hu
 rw[this]
theorem qX{v:Nat}(h:∀u∈R,u.v≠v)(D:Int):lift R D v=0:=by
 unfold lift;have:R.find? (λw=>w.v==v)=none:=List.find?_eq_none.mpr λu hu z=>h u hu (Yi z);rw[this]
theorem Rch.slack(h:Rch rest src dst len op n pr (R++[e]) W nr)(all:∀k by_,op k by_->(∃u∈R,u.v=src k by_)->pr k by_)(nn:∀k by_,op k by_->0<=len k by_){k:Nat}{by_:Int}(ho:op k by_) :
  0<=len k by_-lift (R++[e]) e.d (src k by_)+lift (R++[e]) e.d (dst k by_):=by
 have top:∀u∈R++[e],u.d<=e.d:=λu hu=>by
  rcases Zf.mp hu with hu | hu
  ·exact(List.pairwise_append.mp h.up).2.2 u hu e (.head _)
  ·have:u=e:=by simpa using hu
   rw[this];exact Int.le_refl _
 have nn':=nn k by_ ho;have lo:0<=lift (R++[e]) e.d (dst k by_):=by
  by_cases z:∃u∈R++[e],u.v=dst k by_
  ·obtain⟨u,hu,uv⟩:=z;rw[<-uv,iG h.nd hu];have:=top u hu
   lia
  ·rw[qX λu hu uv=>z (xWP u hu uv)];exact Int.le_refl _
 by_cases z:∃u∈R++[e],u.v=src k by_
 ·obtain⟨u,hu,uv⟩:=z;rw[<-uv,iG h.nd hu];rcases Zf.mp hu with hu' | hu'
  ·obtain⟨x,h1,w,hw,wv,hx⟩:=h.dom k by_ (all k by_ ho (xWP u hu' uv)) ho;have ew:w.d=u.d:=by
    have a1:=iG h.nd hw 0;have a2:=iG h.nd hu 0;rw[wv,<-uv,a2]at a1
    lia
   obtain⟨y,hy,yv,yd⟩:=h.near _ _ h1;rcases Zf.mp hy with hy | hy
   ·rw[<-yv,iG h.nd hy]
    lia
   ·have:=h.mono e (ZN _ (.head _)) y hy
    lia
  ·have:u=e:=by simpa using hu'
   rw[this]
   lia
 ·rw[qX λu hu uv=>z (xWP u hu uv)]
  lia
theorem Rch.tight(h:Rch rest src dst len op n pr R W nr){i:Nat}(hi:R[i]?=some e)(hb:e.by_≠0)(D:Int):op e.k e.by_/\dst e.k e.by_=e.v/\len e.k e.by_-lift R D (src e.k e.by_)+lift R D (dst e.k e.by_)=0/\∃u j,j<i/\R[j]?=some u/\u.v=src e.k e.by_:=by
 rcases h.old i e hi with z | ⟨a,b,_,u,hu,uv,ud⟩
 ·exact Yg z.1 hb
 ·have hu':=List.mem_of_mem_take hu;obtain⟨j,hj,ej⟩:=Yy.mp hu;rw[Yw]at hj;refine(C9 a b ?_ u j (by lia) ?_ uv)
  ·rw[b,<-uv,iG h.nd hu',iG h.nd (Zg hi)]
   lia
  ·rw[<-ej,List.getElem_take,Zz (by lia)]
end
section
variable{rest:Nat->Int}{src dst:Nat->Int->Nat}{len:Nat->Int->Int}{op:Nat->Int->Prop}{n:Nat}{pr:Nat->Int->Prop}{R W:List En}{nr:Nat->Option Int}
inductive Back(src:Nat->Int->Nat)(R:List En):Nat->List (Nat×Int)->Nat->Prop
 |stop {i:Nat}{e:En}:R[i]?=some e->e.by_=0->Back src R i [] e.v
 |step {i j b:Nat}{e u:En}{ps:List (Nat×Int)}:R[i]?=some e->e.by_≠0->j<i->R[j]?=some u->u.v=src e.k e.by_->Back src R j ps b->Back src R i ((e.k,e.by_)::ps) b
theorem Back.there(h:Rch rest src dst len op n pr R W nr):∀(m i:Nat),i<m->i<R.length->∃ps b,Back src R i ps b/\b<n/\0<rest b
 |0,_,hm,_=>Yg hm (Nat.not_lt_zero _)
 |m+1,i,hm,hi=>by
  have g:=Zz hi;by_cases hb:(R[i]).by_=0
  ·refine(aH ([]) _ (.stop g hb) (h.lt _ (ZO _ (Zp hi))) ?_);rcases h.old i _ g with z | z
   ·exact z.2.2
   ·exact Yg hb z.2.2.1
  ·obtain⟨_,_,_,u,j,hj,gj,uv⟩:=h.tight g hb 0;obtain⟨ps,b,hp,r⟩:=Back.there h m j (by lia) (by lia);exact(cG _ b (.step g hb hj gj uv hp) r)
theorem Back.open_(h:Rch rest src dst len op n pr R W nr){i b:Nat}{ps:List (Nat×Int)}(p:Back src R i ps b):∀q∈ps,op q.1 q.2/\∃(j:Nat) (e:En),j<=i/\R[j]?=some e/\e.k=q.1/\e.by_=q.2/\dst q.1 q.2=e.v/\∃(l:Nat) (u:En),l<j/\R[l]?=some u/\u.v=src q.1 q.2:=by
 induction p with
 |stop _ _=>intro q hq;cases hq
 |@step i j b e u ps g hb hj gj uv _ ih =>
  intro q hq;rcases Zn.mp hq with rfl | hq
  ·obtain⟨t1,t2,_,_⟩:=h.tight g hb 0;exact(kF t1 i e (ZC _) g rfl rfl t2 (aH j u hj gj uv))
  ·obtain⟨o,j',e',hj',r⟩:=ih q hq;exact(fF o j' e' (by lia) r)
theorem GL(nd:(R.map (·.v)).Nodup){i j:Nat}{e u:En}(hi:R[i]?=some e)(hj:R[j]?=some u)(h:e.v=u.v):i=j:=by
 have a:(R.map (·.v))[i]?=some e.v:=by rw[Zk,hi];rfl
 have b:(R.map (·.v))[j]?=some e.v:=by rw[Zk,hj,h];rfl
 obtain⟨hi',ei⟩:=Zj.mp a;obtain⟨hj',ej⟩:=Zj.mp b;exact(List.getElem_inj nd).mp (ei.trans ej.symm)
theorem Back.once(h:Rch rest src dst len op n pr R W nr)(flip:∀k by_,op k by_->src k (-by_)=dst k by_)(one:∀k by_,op k by_->by_=1\/by_ = -1){i b:Nat}{ps:List (Nat×Int)}(p:Back src R i ps b):(ps.map (·.1)).Nodup:=by
 induction p with
 |stop _ _=>exact List.nodup_nil
 |@step i j b e u ps g hb hj gj uv p ih =>
  rw[ZI,List.nodup_cons];refine⟨λz=>?_,ih⟩;obtain⟨q,hq,eq⟩:=Zh.mp z;obtain⟨oq,j',e',hj',g',k',b',d',l,w,hl,gl,wv⟩:=Back.open_ h p q hq;obtain⟨oe,de,_,_⟩:=h.tight g hb 0;have eq':q.1=e.k:=eq;have nd:=h.nd;by_cases s:q.2=e.by_
  ·rw[eq',s,de]at d';have:=GL nd g g' d'
   lia
  ·have sgn:q.2 = - e.by_:=by
    rcases one _ _ oq with x | x<;>rcases one _ _ oe with y | y<;>rw[x,y]at s ⊢<;>first | rfl | exact Yg rfl s
   have f:=flip _ _ oe;rw[eq',sgn,f,de]at wv;have:=GL nd gl g wv
   lia
end
def sm(m:Nat)(f:Nat->Int):Int:=((ZR m).map f).sum
theorem AB(f:Nat->Int):sm 0 f=0:=rfl
theorem dC(m:Nat)(f:Nat->Int):sm (m+1) f=sm m f+f m:=by
 unfold sm;rw[ZH,Zt,List.sum_append];simp
theorem fG{m:Nat}{f g:Nat->Int}(h:∀k,k<m->f k=g k):sm m f=sm m g:=by
 induction m with
 |zero=>rfl
 |succ m ih=>rw[dC,dC,ih λk hk=>h k (by lia),h m (by lia)]
theorem D9{m k:Nat}(hk:k<m)(f:Nat->Int)(x:Int):sm m (λj=>f j+if j=k then x else 0)=sm m f+x:=by
 induction m with
 |zero=>exact Yg hk (Nat.not_lt_zero _)
 |succ m ih =>
  rw[dC,dC];by_cases z:k=m
  ·subst z;rw[fG (g:=f) λj hj=>by rw[Ya (by lia)];lia,Yb rfl]
   lia
  ·rw[ih (by lia),Ya (λh=>z h.symm)]
   lia
def rs(m:Nat)(a b:Nat->Nat)(need g:Nat->Int)(v:Nat):Int:=need v-sm m (λk=>if a k=v then g k else 0)+sm m (λk=>if b k=v then g k else 0)
theorem N9{m k:Nat}{a b:Nat->Nat}{need g:Nat->Int}(hk:k<m)(x:Int)(v:Nat):rs m a b need (λj=>g j+if j=k then x else 0) v=rs m a b need g v-(if a k=v then x else 0)+(if b k=v then x else 0):=by
 have e:∀c:Nat->Nat,sm m (λj=>if c j=v then g j+(if j=k then x else 0) else 0)=sm m (λj=>if c j=v then g j else 0)+(if c k=v then x else 0):=λc=>by
  rw[<-D9 hk];refine fG λj _=>?_;by_cases z:j=k
  ·subst z;rw[Yb rfl,Yb rfl];split<;>lia
  ·rw[Ya z,Ya z];split<;>lia
 unfold rs;rw[e a,e b]
 lia
def eA(g:Nat->Int)(x:Int):List (Nat×Int)->Nat->Int
 |[]=>g
 |(k,by_)::ps=>eA (λj=>g j+if j=k then by_*x else 0) x ps
def sd(a b:Nat->Nat)(k:Nat)(by_:Int):Nat:=if 0<by_ then a k else b k
def fr(a b:Nat->Nat)(k:Nat)(by_:Int):Nat:=if 0<by_ then b k else a k
theorem HU{m k:Nat}{a b:Nat->Nat}{need g:Nat->Int}{by_:Int}(hk:k<m)(one:by_=1\/by_ = -1)(x:Int)(v:Nat) :
  rs m a b need (λj=>g j+if j=k then by_*x else 0) v=rs m a b need g v-(if sd a b k by_=v then x else 0)+(if fr a b k by_=v then x else 0):=by
 rw[N9 hk];rcases one with rfl | rfl
 ·have e1:sd a b k 1=a k:=rfl;have e2:fr a b k 1=b k:=rfl;rw[e1,e2,Int.one_mul]
 ·have e1:sd a b k (-1)=b k:=rfl;have e2:fr a b k (-1)=a k:=rfl;have e3 : -1*x = -x:=by lia
  rw[e1,e2,e3];by_cases z:a k=v<;>by_cases y:b k=v<;>simp only[z,y,if_true,if_false]<;>lia
theorem BZ{rest:Nat->Int}{len:Nat->Int->Int}{op:Nat->Int->Prop}{n m:Nat}{pr:Nat->Int->Prop}{R W:List En}{nr:Nat->Option Int}{a b:Nat->Nat}{need:Nat->Int}
  (h:Rch rest (sd a b) (fr a b) len op n pr R W nr) (one:∀k by_,op k by_->by_=1\/by_ = -1) (hm:∀k by_,op k by_->k<m) (x:Int) {i c:Nat}{ps:List (Nat×Int)}(p:Back (sd a b) R i ps c) :
  ∀(g:Nat->Int) (e:En),R[i]?=some e->∀v,rs m a b need (eA g x ps) v=rs m a b need g v-(if c=v then x else 0)+(if e.v=v then x else 0):=by
 induction p with
 |@stop i e hi hb =>
  intro g e' he' v;rw[hi]at he';cases he';show rs m a b need g v=_
  lia
 |@step i j c e u ps hi hb hj gj uv p ih =>
  intro g e' he' v;rw[hi]at he';cases he';obtain⟨oe,de,_,_⟩:=h.tight hi hb 0;show rs m a b need (eA (λl=>g l+if l=e.k then e.by_*x else 0) x ps) v=_;rw[ih _ u gj v,HU (hm _ _ oe) (one _ _ oe),de,uv]
  lia
theorem lO(x:Int):∀(ps:List (Nat×Int)) (g:Nat->Int) {j:Nat},j∉ps.map (·.1)->eA g x ps j=g j
 |[],_,_,_=>rfl
 |(k,by_)::ps,g,j,h=>by
  rw[ZI,Zn,not_or]at h;show eA (λl=>g l+if l=k then by_*x else 0) x ps j=g j;rw[lO x ps _ h.2,Ya h.1]
  lia
theorem sO(x:Int):∀(ps:List (Nat×Int)) (g:Nat->Int) {k:Nat}{by_:Int},(ps.map (·.1)).Nodup->(k,by_)∈ps->eA g x ps k=g k+by_*x
 |(k',b')::ps,g,k,by_,nd,h=>by
  rw[ZI,List.nodup_cons]at nd;show eA (λl=>g l+if l=k' then b'*x else 0) x ps k=_;rcases Zn.mp h with e | h
  ·cases e;rw[lO x ps _ nd.1,Yb rfl]
  ·have ne:k≠k':=λz=>nd.1 (Zh.mpr (xWP (k,by_) h z));rw[sO x ps _ nd.2 h,Ya ne]
   lia
section
variable{m n:Nat}{a b:Nat->Nat}{lo:Nat->Int}{hi:Nat->Option Int}{co g p:Nat->Int}
def rt(a b:Nat->Nat)(co p:Nat->Int)(k:Nat):Int:=co k-p (a k)+p (b k)
structure gG(m:Nat)(a b:Nat->Nat)(lo:Nat->Int)(hi:Nat->Option Int)(co g p:Nat->Int):Prop where
 low:∀k,k<m->lo k<=g k
 high:∀k,k<m->∀h,hi k=some h->g k<=h
 over:∀k,k<m->0<rt a b co p k->g k=lo k
 under:∀k,k<m->rt a b co p k<0->hi k=some (g k)
def opn(m:Nat)(lo:Nat->Int)(hi:Nat->Option Int)(g:Nat->Int)(k:Nat)(by_:Int):Prop:=k<m/\((by_=1/\hi k≠some (g k))\/(by_ = -1/\g k≠lo k))
def ln(a b:Nat->Nat)(co p:Nat->Int)(k:Nat)(by_:Int):Int:=by_*rt a b co p k
theorem gQ{k:Nat}{by_:Int}(h:opn m lo hi g k by_):by_=1\/by_ = -1:=h.2.imp (·.1) (·.1)
theorem HS(k:Nat){by_:Int}(h:by_=1\/by_ = -1):sd a b k (-by_)=fr a b k by_:=by
 rcases h with rfl | rfl<;>rfl
theorem gG.nn(s:gG m a b lo hi co g p){k:Nat}{by_:Int}(h:opn m lo hi g k by_):0<=ln a b co p k by_:=by
 obtain⟨hk,⟨rfl,z⟩ | ⟨rfl,z⟩⟩:=h
 ·unfold ln;rcases Int.lt_or_le (rt a b co p k) 0 with c | c
  ·exact Yg (s.under k hk c) z
  ·lia
 ·unfold ln;rcases Int.lt_or_le 0 (rt a b co p k) with c | c
  ·exact Yg (s.over k hk c) z
  ·lia
theorem gG.room(s:gG m a b lo hi co g p){k:Nat}{by_:Int}(h:opn m lo hi g k by_):(by_=1->∀x,hi k=some x->1<=x-g k)/\(by_ = -1->1<=g k-lo k):=by
 obtain⟨hk,⟨rfl,z⟩ | ⟨rfl,z⟩⟩:=h
 ·refine⟨λ_ x hx=>?_,λe=>Yg e (by decide)⟩;have:=s.high k hk x hx;have ne:g k≠x:=λe=>z (by rw[e];exact hx)
  lia
 ·refine⟨λe=>Yg e (by decide),λ_=>?_⟩;have:=s.low k hk
  lia
theorem nK(L:Nat->Int)(k:Nat):rt a b co (λv=>p v+L v) k=rt a b co p k-L (a k)+L (b k):=by
 show co k-(p (a k)+L (a k))+(p (b k)+L (b k))=co k-p (a k)+p (b k)-L (a k)+L (b k)
 lia
section
variable{rest:Nat->Int}{pr:Nat->Int->Prop}{R W:List En}{nr:Nat->Option Int}{e:En}
theorem gG.raised(s:gG m a b lo hi co g p)(h:Rch rest (sd a b) (fr a b) (ln a b co p) (opn m lo hi g) n pr (R++[e]) W nr)(all:∀k by_,opn m lo hi g k by_->(∃u∈R,u.v=sd a b k by_)->pr k by_) :
  gG m a b lo hi co g (λv=>p v+lift (R++[e]) e.d v) where
 low:=s.low
 high:=s.high
 over:=λk hk c=>by
  rw[nK]at c;by_cases z:g k=lo k
  ·exact z
  ·have o:opn m lo hi g k (-1):=⟨hk,.inr ⟨rfl,z⟩⟩
   have q:=h.slack all (λk' b' o'=>s.nn o') o;have e1:sd a b k (-1)=b k:=rfl;have e2:fr a b k (-1)=a k:=rfl;have e3:ln a b co p k (-1) = - rt a b co p k:=by unfold ln;lia
   rw[e1,e2,e3]at q
   lia
 under:=λk hk c=>by
  rw[nK]at c;by_cases z:hi k=some (g k)
  ·exact z
  ·have o:opn m lo hi g k 1:=⟨hk,.inl ⟨rfl,z⟩⟩
   have q:=h.slack all (λk' b' o'=>s.nn o') o;have e1:sd a b k 1=a k:=rfl;have e2:fr a b k 1=b k:=rfl;have e3:ln a b co p k 1=rt a b co p k:=by unfold ln;lia
   rw[e1,e2,e3]at q
   lia
theorem DH(h:Rch rest (sd a b) (fr a b) (ln a b co p) (opn m lo hi g) n pr R W nr){i c:Nat}{ps:List (Nat×Int)}(q:Back (sd a b) R i ps c)(D:Int):∀d∈ps,rt a b co (λv=>p v+lift R D v) d.1=0:=by
 intro d hd;obtain⟨o,j,u,_,gj,k1,b1,_⟩:=q.open_ h d hd;have hb:u.by_≠0:=by
  rw[b1];rcases gQ o with x | x<;>rw[x]<;>decide
 obtain⟨_,_,t,_⟩:=h.tight gj hb D;rw[k1,b1]at t;rw[nK];rcases gQ o with x | x
 ·rw[x]at t;have e1:sd a b d.1 1=a d.1:=rfl;have e2:fr a b d.1 1=b d.1:=rfl;have e3:ln a b co p d.1 1=rt a b co p d.1:=by unfold ln;lia
  rw[e1,e2,e3]at t;exact t
 ·rw[x]at t;have e1:sd a b d.1 (-1)=b d.1:=rfl;have e2:fr a b d.1 (-1)=a d.1:=rfl;have e3:ln a b co p d.1 (-1) = - rt a b co p d.1:=by unfold ln;lia
  rw[e1,e2,e3]at t
  lia
end
theorem gG.push{ps:List (Nat×Int)}{x:Int}(s:gG m a b lo hi co g p)(hx:0<=x)(nd:(ps.map (·.1)).Nodup)(op:∀d∈ps,opn m lo hi g d.1 d.2)(zero:∀d∈ps,rt a b co p d.1=0)
  (up:∀d∈ps,d.2=1->∀h,hi d.1=some h->x<=h-g d.1) (dn:∀d∈ps,d.2 = -1->x<=g d.1-lo d.1):gG m a b lo hi co (eA g x ps) p:=by
 have at_:∀k,(eA g x ps k=g k/\k∉ps.map (·.1))\/(∃by_,(k,by_)∈ps/\eA g x ps k=g k+by_*x):=λk=>by
  by_cases z:k∈ps.map (·.1)
  ·obtain⟨d,hd,rfl⟩:=Zh.mp z;exact .inr (xWP d.2 hd (sO x ps g nd hd))
  ·exact .inl ⟨lO x ps g z,z⟩
 refine⟨λk hk=>?_,λk hk h hh=>?_,λk hk c=>?_,λk hk c=>?_⟩
 ·have l:=s.low k hk;rcases at_ k with⟨e,_⟩ | ⟨by_,hd,e⟩
  ·rw[e];exact l
  ·rw[e];rcases gQ (op _ hd) with y | y
   ·rw[show by_=1 from y];lia
   ·have:=dn _ hd y;rw[show by_ = -1 from y];have t:x<=g k-lo k:=this
    lia
 ·have l:=s.high k hk h hh;rcases at_ k with⟨e,_⟩ | ⟨by_,hd,e⟩
  ·rw[e];exact l
  ·rw[e];rcases gQ (op _ hd) with y | y
   ·have t:x<=h-g k:=up _ hd y h hh;rw[show by_=1 from y];lia
   ·rw[show by_ = -1 from y];lia
 ·rcases at_ k with⟨e,_⟩ | ⟨by_,hd,e⟩
  ·rw[e];exact s.over k hk c
  ·have t:rt a b co p k=0:=zero _ hd
   lia
 ·rcases at_ k with⟨e,_⟩ | ⟨by_,hd,e⟩
  ·rw[e];exact s.under k hk c
  ·have t:rt a b co p k=0:=zero _ hd
   lia
end
theorem EA(m:Nat)(f g:Nat->Int):sm m (λk=>f k+g k)=sm m f+sm m g:=by
 induction m with
 |zero=>rfl
 |succ m ih=>rw[dC,dC,dC,ih];lia
theorem LR(m:Nat)(f g:Nat->Int):sm m (λk=>f k-g k)=sm m f-sm m g:=by
 induction m with
 |zero=>rfl
 |succ m ih=>rw[dC,dC,dC,ih];lia
theorem D8(m:Nat):sm m (λ_=>0)=0:=by
 induction m with
 |zero=>rfl
 |succ m ih=>rw[dC,ih];rfl
theorem BX{m:Nat}{f:Nat->Int}(h:∀k,k<m->0<=f k):0<=sm m f:=by
 induction m with
 |zero=>exact Int.le_refl _
 |succ m ih =>
  rw[dC];have:=ih λk hk=>h k (by lia);have:=h m (by lia)
  lia
theorem D6{m:Nat}{f:Nat->Int}(z:sm m f=0){v:Nat}(hv:v<m)(h:f v≠0):∃u,u<m/\0<f u:=by
 by_cases c:∃u,u<m/\0<f u
 ·exact c
 ·exfalso;have neg:∀k,k<m->f k<=0:=λk hk=>Int.not_lt.mp λx=>c (xWP k hk x);have key:∀j,j<=m->sm j f<=0/\(v<j->sm j f<0):=by
   intro j;induction j with
   |zero=>exact λ_=>⟨Int.le_refl _,λx=>Yg x (Nat.not_lt_zero _)⟩
   |succ j ih =>
    intro hj;obtain⟨i1,i2⟩:=ih (by lia);have n1:=neg j (by lia);rw[dC];refine⟨by lia,λx=>?_⟩;by_cases e:v=j
    ·subst e
     lia
    ·have:=i2 (by lia)
     lia
  have:=(key m (ZC _)).2 hv
  lia
theorem y6{n c l:Nat}{r r':Nat->Int}{x:Int}(hc:c<n)(e:∀v,v<n->r' v=r v-(if c=v then x else 0)+(if l=v then x else 0))(h1:x<=r c)(h2:x<=- r l)(hx:1<=x) :
  sm n (λv=>max (r' v) 0)=sm n (λv=>max (r v) 0)-x:=by
 have ne:c≠l:=λz=>by subst z;lia
 have:=D9 hc (λv=>max (r v) 0) (-x);rw[<-Int.sub_eq_add_neg]at this;rw[<-this];refine fG λv hv=>?_;rw[e v hv];by_cases z:v=c
 ·subst z;rw[Yb rfl,Ya (λy=>ne y.symm),Yb rfl]
  lia
 ·rw[Ya (λy=>z y.symm),Ya z];by_cases y:l=v
  ·subst y;rw[Yb rfl]
   lia
  ·rw[Ya y]
   lia
end FL
namespace FL
open SO
def Dn(w:List (List Int)):Prop:=w.Pairwise λx y=>lx x y=false
theorem uG{e x y:List Int}(h:lx e y=true)(g:lx x y=false):lx e x=true:=by
 have a:=fQ [e,x,y] (x:=e) (y:=y) (by simp) (by simp);have b:=fQ [e,x,y] (x:=x) (y:=y) (by simp) (by simp);have c:=fQ [e,x,y] (x:=e) (y:=x) (by simp) (by simp);rw[h]at a;rw[g]at b;rw[<-c];have a':=Yf a;have b':=of_decide_eq_false b;exact Ye (by omega)
theorem JH{e x y:List Int}(h:lx e x=false)(g:lx x y=false):lx e y=false:=by
 cases z:lx e y with
 |false=>rfl
 |true=>rw[uG z g]at h;cases h
theorem LZ{w:List (List Int)}{e:List Int}{i:Nat}(h:Dn w)(hi:i<=w.length)(f:∀j x,j<i->w[j]?=some x->lx e x=true)(b:∀j x,i<=j->w[j]?=some x->lx e x=false):Dn (w.take i++e::w.drop i):=by
 have tk:∀x∈w.take i,lx e x=true:=λx hx=>by
  obtain⟨j,hj,rfl⟩:=Yy.mp hx;rw[Yw]at hj;refine f j _ (by lia) ?_;rw[List.getElem_take,Zz (by lia)]
 have dr:∀x∈w.drop i,lx e x=false:=λx hx=>by
  obtain⟨j,hj,rfl⟩:=Yy.mp hx;rw[Yp]at hj;refine b (i+j) _ (by lia) ?_;rw[List.getElem_drop,Zz (by lia)]
 have h':(w.take i++w.drop i).Pairwise λx y=>lx x y=false:=by rw[List.take_append_drop];exact h
 obtain⟨h1,h2,h3⟩:=List.pairwise_append.mp h';refine List.pairwise_append.mpr (xPP h1 (List.pairwise_cons.mpr ⟨dr,h2⟩) (λx hx y hy=>?_));rcases Zn.mp hy with rfl | hy
 ·cases z:lx x y with
  |false=>rfl
  |true =>
   have:=uG z (x:=y) (uF y);have q:=tk x hx;have a:=fQ [x,y] (x:=x) (y:=y) (by simp) (by simp);have b:=fQ [x,y] (x:=y) (y:=x) (by simp) (by simp);rw[z]at a;rw[q]at b;have a':=Yf a;have b':=Yf b
   lia
 ·exact h3 x hx y hy
theorem JI{w:List (List Int)}{e x:List Int}{m:Nat}(h:Dn w)(hm:w[m]?=some x)(z:lx e x=true):∀j y,j<m+1->w[j]?=some y->lx e y=true:=λj y hj hy=>by
 by_cases c:j=m
 ·subst c;rw[hm]at hy;cases hy;exact z
 ·obtain⟨h1,e1⟩:=Zj.mp hy;obtain⟨h2,e2⟩:=Zj.mp hm;have:=List.pairwise_iff_getElem.mp h j m h1 h2 (by lia);rw[e1,e2]at this;exact uG z this
theorem JJ{w:List (List Int)}{e x:List Int}{m:Nat}(h:Dn w)(hm:w[m]?=some x)(z:lx e x=false):∀j y,m<=j->w[j]?=some y->lx e y=false:=λj y hj hy=>by
 by_cases c:j=m
 ·subst c;rw[hm]at hy;cases hy;exact z
 ·obtain⟨h1,e1⟩:=Zj.mp hy;obtain⟨h2,e2⟩:=Zj.mp hm;have:=List.pairwise_iff_getElem.mp h m j h2 h1 (by lia);rw[e1,e2]at this;exact JH z this
theorem y8{w:List (List Int)}{d d':Int}{r r':List Int}(h:Dn (w++[d::r]))(hx:(d'::r')∈w):d<=d':=by
 have:=(List.pairwise_append.mp h).2.2 _ hx _ (.head _);unfold lx at this;by_cases z:d'=d
 ·lia
 ·rw[Ya z]at this;have:=of_decide_eq_false this
  lia
theorem gG.step{m n c:Nat}{a b:Nat->Nat}{lo:Nat->Int}{hi:Nat->Option Int}{co g p need:Nat->Int}{pr:Nat->Int->Prop}{R W:List En}{nr:Nat->Option Int}{e:En}{ps:List (Nat×Int)}{x:Int}
  (s:gG m a b lo hi co g p) (h:Rch (rs m a b need g) (sd a b) (fr a b) (ln a b co p) (opn m lo hi g) n pr (R++[e]) W nr) (all:∀k by_,opn m lo hi g k by_->(∃u∈R,u.v=sd a b k by_)->pr k by_)
  (q:Back (sd a b) (R++[e]) R.length ps c) (hx:1<=x) (up:∀d∈ps,d.2=1->∀h,hi d.1=some h->x<=h-g d.1) (dn:∀d∈ps,d.2 = -1->x<=g d.1-lo d.1) :
  gG m a b lo hi co (eA g x ps) (λv=>p v+lift (R++[e]) e.d v)/\∀v,rs m a b need (eA g x ps) v=rs m a b need g v-(if c=v then x else 0)+(if e.v=v then x else 0):=by
 refine⟨(s.raised h all).push (by lia) (q.once h (λk b' o=>HS k (gQ o)) λk b' o=>gQ o) (λd hd=>(q.open_ h d hd).1) (DH h q e.d) up dn,λv=>?_⟩;refine BZ h (λk b' o=>gQ o) (λk b' o=>o.1) x q g e ?_ v;rw[Zy (ZC _),Nat.sub_self];rfl
theorem LU{n c:Nat}(hc:c<n)(f:Nat->Int)(x:Int):sm n (λv=>f v*if c=v then x else 0)=f c*x:=by
 have:=D9 hc (λ_=>0) (f c*x);rw[D8,Int.zero_add]at this;rw[<-this];refine fG λv _=>?_;by_cases z:c=v
 ·subst z;rw[Yb rfl,Yb rfl];lia
 ·rw[Ya z,Ya (λy=>z y.symm),Int.mul_zero];rfl
theorem AC{n:Nat}(f:Nat->Int)(c:Nat->Nat)(g:Nat->Int):∀m,(∀k,k<m->c k<n)->sm n (λv=>f v*sm m (λk=>if c k=v then g k else 0))=sm m (λk=>f (c k)*g k)
 |0,_=>by
  rw[fG (g:=λ_=>0) λv _=>by rw[AB,Int.mul_zero],D8];rfl
 |m+1,h=>by
  rw[dC,<-AC f c g m λk hk=>h k (by lia),<-LU (h m (by lia)) f (g m),<-EA];refine fG λv _=>?_;rw[dC,Int.mul_add]
end FL
namespace AW
abbrev Ts:=List (Int×Int)
abbrev Os:=List (List Int)
def plc(ts:Ts)(e:Nat):Int:=((ts[e / 2]?).map λt=>if e%2=0 then t.1 else t.2).getD (-1)
def InW(m:Int)(ts:Ts):Prop:=∀t∈ts,(0<=t.1/\t.1<m)/\0<=t.2/\t.2<m
def all2(ts:Ts):List Int:=(ZR (2*ts.length)).map λn:Nat=>(n:Int)
def endsAt(ts:Ts)(p:Int):List Int:=(all2 ts).filter λe=>plc ts e.toNat==p
inductive Rch(ts:Ts):Int->Prop
 |zero:Rch ts 0
 |fwd {t:Int×Int}:t∈ts->Rch ts t.1->Rch ts t.2
 |bwd {t:Int×Int}:t∈ts->Rch ts t.2->Rch ts t.1
def BD(m:Int)(ts:Ts):Prop:=∀p:Int,0<=p->p<m->Rch ts p
def Fit(ts:Ts)(os:Os):Prop:=∀(i:Nat) (o:List Int),os[i]?=some o->o.length<=4/\o.Perm (endsAt ts i)
def O3(m:Int)(ts:Ts):Prop:=(1<=m/\m<=200)/\1<=ts.length/\ts.length<=400
def BH(m:Int)(ts:Ts)(os:Os):Prop:=O3 m ts/\InW m ts/\(os.length:Int)=m/\Fit ts os/\BD m ts
theorem v5{ts:Ts}{e:Int}:e∈all2 ts↔0<=e/\e<2*ts.length:=by
 unfold all2;rw[Zh];constructor
 ·rintro⟨n,hn,rfl⟩;have:=Zs.mp hn
  lia
 ·rintro⟨h0,h1⟩;exact(xWP e.toNat (Zs.mpr (by lia)) (by lia))
theorem nR{α β:Type}{f:α->β}(hf:∀a b,f a=f b->a=b):∀{l:List α},l.Nodup->(l.map f).Nodup
 |[],_=>List.nodup_nil
 |a::l,h=>by
  obtain⟨h1,h2⟩:=List.nodup_cons.mp h;rw[ZI,List.nodup_cons];refine⟨λq=>?_,nR hf h2⟩;obtain⟨b,hb,e⟩:=Zh.mp q;exact h1 (hf _ _ e▸hb)
theorem yT(ts:Ts):(all2 ts).Nodup:=nR (λa b h=>by lia) List.nodup_range
theorem yV{ts:Ts}{p e:Int}:e∈endsAt ts p↔(0<=e/\e<2*ts.length)/\plc ts e.toNat=p:=by
 unfold endsAt;rw[Yz,v5,beq_iff_eq]
theorem uC(ts:Ts)(p:Int):(endsAt ts p).Nodup:=(yT ts).filter _
theorem EX{l l':List Int}(h:l.Nodup)(h':l'.Nodup)(e:∀a,a∈l↔a∈l'):l.Perm l':=(List.perm_ext_iff_of_nodup h h').mpr e
theorem BV{l l':List Int}(p:l.Perm l')(h:l.Pairwise (·<=·))(h':l'.Pairwise (·<=·)):l=l' :=
 p.eq_of_pairwise (λa b _ _ h1 h2=>Int.le_antisymm h1 h2) h h'
theorem G2(ts:Ts):(all2 ts).Pairwise (·<=·):=by
 unfold all2;rw[List.pairwise_map];exact List.pairwise_lt_range.imp λh=>by lia
theorem BL(ts:Ts)(p:Int):(endsAt ts p).Pairwise (·<=·):=(G2 ts).filter _
theorem IE{ts:Ts}{t:Int×Int}{e:Nat}(h:e<2*ts.length):plc (ts++[t]) e=plc ts e:=by
 unfold plc;rw[Zx (by lia)]
theorem ET(ts:Ts)(t:Int×Int):plc (ts++[t]) (2*ts.length)=t.1:=by
 unfold plc;rw[show 2*ts.length / 2=ts.length by lia,Yx];show(if 2*ts.length%2=0 then t.1 else t.2)=t.1;rw[Yb (by lia)]
theorem ES(ts:Ts)(t:Int×Int):plc (ts++[t]) (2*ts.length+1)=t.2:=by
 unfold plc;rw[show(2*ts.length+1) / 2=ts.length by lia,Yx];show(if (2*ts.length+1)%2=0 then t.1 else t.2)=t.2;rw[Ya (by lia)]
theorem CY(ts:Ts)(t:Int×Int):all2 (ts++[t])=all2 ts++[(2*ts.length:Int),2*ts.length+1]:=by
 unfold all2;rw[Zm,show 2*(ts.length+[t].length)=2*ts.length+1+1 by simp;lia,ZH,ZH];simp
theorem wQ(ts:Ts)(t:Int×Int)(p:Int):endsAt (ts++[t]) p=endsAt ts p++((if t.1=p then [(2*ts.length:Int)] else [])++if t.2=p then [(2*ts.length+1:Int)] else []):=by
 unfold endsAt;rw[CY,List.filter_append];congr 1
 ·refine List.filter_congr λe he=>?_;obtain⟨h0,h1⟩:=v5.mp he;rw[IE (by lia)]
 ·have e0:plc (ts++[t]) (2*(ts.length:Int)).toNat=t.1:=by rw[show(2*(ts.length:Int)).toNat=2*ts.length by lia,ET]
  have e1:plc (ts++[t]) (2*(ts.length:Int)+1).toNat=t.2:=by rw[show(2*(ts.length:Int)+1).toNat=2*ts.length+1 by lia,ES]
  simp only[List.filter_cons,List.filter_nil,e0,e1,beq_iff_eq];by_cases h1:t.1=p<;>by_cases h2:t.2=p<;>simp[h1,h2]
def nb(t:Int×Int)(p:Int):List Int:=(if t.1=p then [t.2] else [])++if t.2=p then [t.1] else []
def nbs(ts:Ts)(p:Int):List Int:=ts.flatMap λt=>nb t p
theorem FN(ts:Ts)(t:Int×Int)(p:Int):nbs (ts++[t]) p=nbs ts p++nb t p:=by
 unfold nbs;rw[List.flatMap_append];simp
theorem pK{ts:Ts}{p q:Int}:q∈nbs ts p↔∃t∈ts,(t.1=p/\t.2=q)\/(t.2=p/\t.1=q):=by
 unfold nbs nb;rw[List.mem_flatMap];constructor
 ·rintro⟨t,ht,h⟩;refine(xWP t ht ?_);rcases Zf.mp h with h | h
  ·split at h
   ·exact .inl ⟨by assumption,(Zb.mp h).symm⟩
   ·cases h
  ·split at h
   ·exact .inr ⟨by assumption,(Zb.mp h).symm⟩
   ·cases h
 ·rintro⟨t,ht,⟨h1,h2⟩ | ⟨h1,h2⟩⟩
  ·exact(xWP t ht (ZO _ (by rw[Yb h1,h2];simp)))
  ·exact(xWP t ht (ZN _ (by rw[Yb h1,h2];simp)))
theorem Rch.step{ts:Ts}{p q:Int}(h:Rch ts p)(hq:q∈nbs ts p):Rch ts q:=by
 obtain⟨t,ht,⟨rfl,rfl⟩ | ⟨rfl,rfl⟩⟩:=pK.mp hq
 ·exact h.fwd ht
 ·exact h.bwd ht
theorem FO{m:Int}{ts:Ts}(h:InW m ts){p q:Int}(hq:q∈nbs ts p):0<=q/\q<m:=by
 obtain⟨t,ht,⟨rfl,rfl⟩ | ⟨rfl,rfl⟩⟩:=pK.mp hq
 ·exact(h t ht).2
 ·exact(h t ht).1
theorem Rch.within{ts:Ts}{S:Int->Prop}(h0:S 0)(hs:∀p,S p->∀q∈nbs ts p,S q){p:Int}(h:Rch ts p):S p:=by
 induction h with
 |zero=>exact h0
 |fwd ht _ ih=>exact hs _ ih _ (pK.mpr (xWP _ ht (.inl ⟨rfl,rfl⟩)))
 |bwd ht _ ih=>exact hs _ ih _ (pK.mpr (xWP _ ht (.inr ⟨rfl,rfl⟩)))
structure gG(m:Nat)(ts:Ts)(R:List Bool)(W:List Int):Prop where
 len:R.length=m
 zero:R[0]?=some true
 ok:∀p:Nat,R[p]?=some true->Rch ts p
 win:∀p∈W,∃n:Nat,p=n/\R[n]?=some true
 cl:∀p:Nat,R[p]?=some true->(p:Int)∈W\/∀q∈nbs ts p,R[q.toNat]?=some true
structure j6(m:Nat)(ts:Ts)(R:List Bool)(W:List Int)(p0 k:Nat):Prop where
 len:R.length=m
 zero:R[0]?=some true
 ok:∀p:Nat,R[p]?=some true->Rch ts p
 win:∀p∈W,∃n:Nat,p=n/\R[n]?=some true
 own:R[p0]?=some true
 cl:∀p:Nat,R[p]?=some true->(p:Int)∈W\/(p=p0/\∀(j:Nat) q,j<k->(nbs ts p0)[j]?=some q->R[q.toNat]?=some true)\/∀q∈nbs ts p,R[q.toNat]?=some true
theorem gG.start{m:Nat}{ts:Ts}(h:0<m):gG m ts ((ZR m).map λp=>decide (p=0)) [0] where
 len:=by simp
 zero:=by simp[h]
 ok:=λp hp=>by
  rw[Zk]at hp;cases e:(ZR m)[p]? with
  |none=>rw[e]at hp;cases hp
  |some n =>
   obtain⟨hn,rfl⟩:=Zj.mp e;rw[e]at hp;simp at hp;subst hp;exact .zero
 win:=λp hp=>(xWP 0 (by simpa using hp) (by simp[h]))
 cl:=λp hp=>by
  rw[Zk]at hp;cases e:(ZR m)[p]? with
  |none=>rw[e]at hp;cases hp
  |some n =>
   obtain⟨hn,rfl⟩:=Zj.mp e;rw[e]at hp;simp at hp;subst hp;exact .inl (by simp)
theorem gG.done{m:Nat}{ts:Ts}{R:List Bool}(hin:InW m ts)(h:gG m ts R []):R.all id=true↔BD m ts:=by
 rw[ZD];constructor
 ·intro ha p h0 h1;obtain⟨n,rfl⟩:=Xy h0;have hn:n<R.length:=by rw[h.len];lia
  refine h.ok n ?_;rw[Zz hn];have:=ha _ (Zp hn);exact congrArg some this
 ·intro hw b hb;obtain⟨n,hn,rfl⟩:=Yy.mp hb;have hr:Rch ts (n:Int):=hw n (by lia) (by rw[h.len]at hn;lia);have e:=(hr.within (S:=λp=>0<=p/\R[p.toNat]?=some true) ⟨Int.le_refl _,h.zero⟩ λp hp q hq=>by
   obtain⟨k,rfl⟩:=Xy hp.1;refine⟨(FO hin hq).1,?_⟩;rcases h.cl k (by simpa using hp.2) with z | z
   ·cases z
   ·exact z q hq).2
  rw[show(n:Int).toNat=n by lia,Zz hn]at e;exact Option.some.inj e
theorem j6.start{m:Nat}{ts:Ts}{R:List Bool}{W:List Int}{p0:Nat}(h:gG m ts R (W++[(p0:Int)])):j6 m ts R W p0 0 where
 len:=h.len
 zero:=h.zero
 ok:=h.ok
 win:=λp hp=>h.win p (ZO _ hp)
 own:=by
  obtain⟨n,e,hn⟩:=h.win (p0:Int) (by simp);have:n=p0:=by lia
  exact this▸hn
 cl:=λp hp=>by
  rcases h.cl p hp with z | z
  ·rcases Zf.mp z with z | z
   ·exact .inl z
   ·have:p=p0:=by have:=Zb.mp z;lia
    exact .inr (.inl ⟨this,λj q hj=>Yg hj (Nat.not_lt_zero _)⟩)
  ·exact .inr (.inr z)
theorem j6.skip{m:Nat}{ts:Ts}{R:List Bool}{W:List Int}{p0 k:Nat}{q:Int}(h:j6 m ts R W p0 k)(hq:(nbs ts p0)[k]?=some q)(hr:R[q.toNat]?=some true):j6 m ts R W p0 (k+1) where
 len:=h.len
 zero:=h.zero
 ok:=h.ok
 win:=h.win
 own:=h.own
 cl:=λp hp=>by
  rcases h.cl p hp with z | ⟨z1,z2⟩ | z
  ·exact .inl z
  ·refine .inr (.inl ⟨z1,λj q' hj hq'=>?_⟩);by_cases hjk:j<k
   ·exact z2 j q' hjk hq'
   ·have:j=k:=by lia
    subst this;rw[hq]at hq';cases hq';exact hr
  ·exact .inr (.inr z)
theorem jL{R:List Bool}{i j:Nat}(hi:i<R.length):(R.set i true)[j]?=some true↔j=i\/R[j]?=some true:=by
 by_cases e:i=j
 ·subst e;rw[ZK hi];simp
 ·rw[ZJ e];constructor
  ·exact .inr
  ·rintro(z | z)
   ·exact Yg z.symm e
   ·exact z
theorem j6.reach{m:Nat}{ts:Ts}{R:List Bool}{W:List Int}{p0 k q:Nat}(h:j6 m ts R W p0 k)(hq:(nbs ts p0)[k]?=some (q:Int))(hm:q<m):j6 m ts (R.set q true) (W++[(q:Int)]) p0 (k+1):=by
 have hl:q<R.length:=by rw[h.len];exact hm
 have up:∀j:Nat,R[j]?=some true->(R.set q true)[j]?=some true:=λj hj=>(jL hl).mpr (.inr hj);have hrq:Rch ts q:=(h.ok p0 h.own).step (Zg hq);refine⟨by rw[ZP];exact h.len,up 0 h.zero,λp hp=>?_,λp hp=>?_,up _ h.own,λp hp=>?_⟩
 ·rcases(jL hl).mp hp with rfl | hp
  ·exact hrq
  ·exact h.ok p hp
 ·rcases Zf.mp hp with z | z
  ·obtain⟨n,e,hn⟩:=h.win p z;exact(xWP n e (up n hn))
  ·exact(xWP q (Zb.mp z) ((jL hl).mpr (.inl rfl)))
 ·rcases(jL hl).mp hp with rfl | hp
  ·exact .inl (by simp)
  ·rcases h.cl p hp with z | ⟨z1,z2⟩ | z
   ·exact .inl (ZO _ z)
   ·refine .inr (.inl ⟨z1,λj q' hj hq'=>?_⟩);by_cases hjk:j<k
    ·exact up _ (z2 j q' hjk hq')
    ·have:j=k:=by lia
     subst this;rw[hq]at hq';cases hq';exact(jL hl).mpr (.inl (by lia))
   ·exact .inr (.inr λq' hq'=>up _ (z q' hq'))
theorem j6.finish{m:Nat}{ts:Ts}{R:List Bool}{W:List Int}{p0 k:Nat}(h:j6 m ts R W p0 k)(hk:(nbs ts p0).length<=k):gG m ts R W where
 len:=h.len
 zero:=h.zero
 ok:=h.ok
 win:=h.win
 cl:=λp hp=>by
  rcases h.cl p hp with z | ⟨rfl,z2⟩ | z
  ·exact .inl z
  ·refine .inr λq hq=>?_;obtain⟨j,hj,e⟩:=Yy.mp hq;exact z2 j q (by lia) (by rw[Zz hj,e])
  ·exact .inr z
def h8(R:List Bool):Nat:=(R.filter (! ·)).length
theorem rJ:∀{R:List Bool}{i:Nat},R[i]?=some false->h8 (R.set i true)+1=h8 R
 |[],_,h=>by simp at h
 |b::R,0,h=>by
  have e:b=false:=by simpa using h
  subst e;simp[h8]
 |b::R,i+1,h=>by
  have h':R[i]?=some false:=by simpa using h
  have ih:=rJ h';unfold h8 at ih ⊢;rw[List.set_cons_succ];cases b<;>simp<;>lia
end AW
namespace L2
open PySem PySem.Spec PyProof.Rows
theorem scm{N P:List Str}{sc:Scope}(a:sc.kind=.function:=by rfl)(b:sc.isCoroutine=false:=by rfl)(c:sc.isGenerator=false:=by rfl)(d:N.Nodup:=by decide +kernel)(e:N.take P.length=P:=by rfl)(f:∀x∈P,sc.names.lookup x=some .local\/sc.names.lookup x=some .cell:=by decide +kernel)(g:∀y∈sc.names,y.2≠.free:=by decide +kernel):cV N P sc:=⟨a,b,c,d,e,f,g⟩
structure Fn4(K:PySem.W.Frag)(mg:Str->Option Value)(x:Str)(s:Stmt)(ps:List Str)(a:Addr)(d:FuncData):Prop where
 F:Fun K x x s a d
 m:mg x=some (.ref a)
 k:PySem.W.keepIn K (.ref a)=true
 b:Binds K d ps []
abbrev FnX(K:PySem.W.Frag)(x:Str)(s:Stmt):Prop:=∃f:Addr,PySem.W.nsIn K ZV x=some (some (.ref f))/\∃(oc:Value) (od:Option Addr) (kV dc pm:Value) (an:Option Addr) (cd ct:Value) (sl:Array (Option Value)),K.lookup f=some ⟨oc,od,.func (PySem.W.fnOf x x (fK s) (dU s) (bJ s) .none kV dc pm an cd ct),sl⟩/\PySem.W.codeIn K cd x=true/\PySem.W.keepIn K (.ref f)=true
theorem QP{K:PySem.W.Frag}{mg:Str->Option Value}{h:Heap}{x:Str}{s:Stmt}{ps:List Str}(X:K.In h)(G:h.Ns ZV mg)(e:FnX K x s)(hb:∀(kV doc pm:Value) (an:Option Addr) (cdv ct:Value) (us:List Value),us.length=ps.length->bindArgs (PySem.W.fnOf x x (fK s) (dU s) (bJ s) .none kV doc pm an cdv ct) ⟨us,[]⟩=pure (ps.zip us)):∃f d,Fn4 K mg x s ps f d:=by
 obtain⟨f,a,oc,od,kV,dc,pm,an,cd,ct,sl,l,c,k⟩:=e;have F:=zD (st:=s) l c k;exact(xWW f _ ⟨ F,PySem.W.mg_of X G a,k,F.binds hb⟩)
theorem M3{K:PySem.W.Frag}{mg:Str->Option Value}{h:Heap}{x:Str}{s:Stmt}{ps:List Str}(X:K.In h)(G:h.Ns ZV mg)(e:FnX K x s)(hb:∀(kV doc pm:Value) (an:Option Addr) (cdv ct:Value) (us:List Value),us.length=ps.length->bindArgs (PySem.W.fnOf x x (fK s) (dU s) (bJ s) .none kV doc pm an cdv ct) ⟨us,[]⟩=pure (ps.zip us)):∃f d,Fn4 K mg x s ps f d/\∀(s:Shared) (us:List Value),us.length=ps.length->BindsTo s d ⟨us,[]⟩ (ps.zip us):=by
 obtain⟨f,a,oc,od,kV,dc,pm,an,cd,ct,sl,l,c,k⟩:=e;have F:=zD (st:=s) l c k;exact(cG f _ ⟨F,PySem.W.mg_of X G a,k,F.binds hb⟩ (λs us hl=>.of_eq (hb _ _ _ _ _ _ us hl)))
theorem bT{X:Cx}{CX:CXT}{k:Nat}{f:Addr}{fd:FuncData}{ps:List Str}{sp:Sp}{E:XK}{x:Str}{p pos:Pos}{e:Expr}{es:List Expr}{s:Stmt}{t:TA}(F:jE X.prog X.w X.K X.mg X.base CX k f fd ps sp){j:Nat}(hr:fM j X.A)(c:Fn4 X.K X.mg x s ps f fd)(hx:oG CX X E)
  (ha:PA X (e::es) t) (hj:k<=j:=by decide) (hg:Gl X x:=by rfl) (hdb:(x==("__debug__" : Str))=false:=by decide) (he:starEach (e::es) X.env=(false,eval e X.env)::starEach es X.env:=by rfl) (hpl:(backTo pos (starEach es X.env)).any (·.1)=false:=by rfl) :
  PE X (.Call (.Name x p) (e::es) [] pos) (J8 sp [] E t):=IJ F (hr.mono hj) hg c.m c.k c.b .nil hx ha hdb he hpl
structure Mth(T:String)(name:Str)(id:String):Prop where
 a:PlainAttrs T
 b:Slot T name id
 c:typeOf (.builtin id)=pure (.type "method_descriptor")
theorem mAp:Mth "list" "append" "list.append":=⟨YO,PySem.F.slot_list_append,PySem.F.type_list_append⟩
theorem mSp:Mth "str" "split" "str.split":=⟨PySem.F.plainAttrs_str,PySem.F.slot_str_split,PySem.F.type_str_split⟩
theorem mJn:Mth "str" "join" "str.join":=⟨PySem.F.plainAttrs_str,PySem.F.slot_str_join,PySem.F.type_str_join⟩
theorem mCo:Mth "str" "count" "str.count":=⟨PySem.F.plainAttrs_str,PySem.F.slot_str_count,PySem.F.type_str_count⟩
theorem MB{X:Cx}{o e:Expr}{es:List Expr}{to:TE}{t:TA}{name:Str}{apos cpos:Pos}{T id:String}{r:V->List V->Hp->VK->Prop}(M:Mth T name id)(hm:MtR X id r)(ho:PE X o to)(ha:PA X (e::es) t)
  (hbase:attributeBase o name X.env (eval o X.env)=eval o X.env:=by rfl)
  (hfew:((backTo cpos (starEach (e::es) X.env)).all (λx=>!x.1)&&(backToKw cpos (keywordEach [] X.env)).all (λx=>x.1.isSome)
   && decide ((e::es).length+([]:List Keyword).length+(if ([]:List Keyword).isEmpty then 0 else 1)<30))=true:=by rfl)
  (hline:(apos.endLine==cpos.line)=true:=by rfl) (hs:starEach (e::es) X.env=(false,eval e X.env)::starEach es X.env:=by rfl) (hplain:(backTo cpos (starEach es X.env)).any (·.1)=false:=by rfl) :
  PE X (.Call (.Attribute o name apos) (e::es) [] cpos) (tBM T r to t):=iE M.a M.b M.c hm ho ha hbase hfew hline hs hplain
theorem eZ{X:Cx}{pos:Pos}(i:Nat){x:Str}{e:Expr}{te:TE}{pos':Pos}(hN:X.N.Nodup)(he:PE X e te)(hi:X.N[i]?=some x:=by rfl)(hx:Loc X.env.scope x:=by first | exact Or.inl rfl | exact Or.inr rfl)(hs:swapsWith e (some (.Name x pos')) pos.line X.env=pure false:=by rfl)(hf:X.fn x=true\/X.env.scope.names.lookup x=some .local:=by first | exact .inl rfl | exact .inr rfl | assumption) :
  PS X (.Assign [.Name x pos'] e pos) (BP te (b0 i)):=EN hN hi hx he hs hf
def fH(s:Stmt):List Str:=(fK s).args.map (·.arg)
def CD(s:Stmt):List Str:=((bJ s).names.filter λy=>match y.2 with | .local=>true | .cell=>true | _=>false).map (·.1)
structure Adr where
 a:Nat->Addr
 d:Nat->FuncData
 c:Nat->Addr
 ai:Addr
 di:FuncData
structure Prg where
 top:Nat->Stmt
 ix:List (Nat×Str)
 zs:List (Nat×Str)
 gs:List (Nat×Str×Int)
 cs:List (Nat×Str)
 si:Stmt
structure SrG(K:PySem.W.Frag)(c ai:Addr)(di:FuncData)(s:Stmt):Prop where
 l:Cls K c
 n0:h9 K c "ways"
 n1:h9 K c "prices"
 n2:h9 K c "going"
 n3:h9 K c "resting"
 n4:h9 K c "doors"
 k:Mk K c ai
 F:Fun K "__init__" "Search.__init__" s ai di
 b:Binds K di ["self","net","prices"] []
abbrev HX(p:Prg)(K:PySem.W.Frag):Prop:=∃(y:Str) (c f:Addr) (oc:Value) (od:Option Addr) (kV dc pm:Value) (an:Option Addr) (cd ct:Value) (sl:Array (Option Value)),p.cs.lookup 0=some y/\PySem.W.nsIn K ZV y=some (some (.ref c))/\PySem.W.findIn K (.ref c) "__init__" = some (some (.ref f))/\PySem.W.isFn K (.ref f)=true /\
 K.lookup f=some ⟨oc,od,.func (PySem.W.fnOf "__init__" "Search.__init__" (fK p.si) (dU p.si) (bJ p.si) .none kV dc pm an cd ct),sl⟩/\PySem.W.codeIn K cd "Search.__init__" = true/\PySem.W.keepIn K (.ref f)=true /\
 PySem.W.plainGet K c Str.empty=true/\PySem.W.hasDictIn K c=true/\PySem.W.plainOver K c=true/\PySem.W.findIn K (.ref c) "__setattr__" = some (some (.builtin "object.__setattr__"))/\PySem.W.makesIn K c=true/\PySem.W.keepIn K (.ref c)=true/\PySem.W.findIn K (.ref c) "ways" = some none/\PySem.W.findIn K (.ref c) "prices" = some none/\PySem.W.findIn K (.ref c) "going" = some none/\PySem.W.findIn K (.ref c) "resting" = some none/\PySem.W.findIn K (.ref c) "doors" = some none /\
 ∀(kV doc pm:Value) (an:Option Addr) (cdv ct:Value) (us:List Value),us.length=3->bindArgs (PySem.W.fnOf "__init__" "Search.__init__" (fK p.si) (dU p.si) (bJ p.si) .none kV doc pm an cdv ct) ⟨us,[]⟩=pure ((["self","net","prices"]:List Str).zip us)
def AlL{β:Type}(p:Nat->β->Prop):List (Nat×β)->Prop
 |[]=>True
 |(i,x)::l=>p i x/\AlL p l
theorem AlL.get{β:Type}{p:Nat->β->Prop}:∀{l:List (Nat×β)},AlL p l->∀{i x},l.lookup i=some x->p i x
 |(j,y)::l,h,i,x,e=>by
  rw[List.lookup_cons]at e;split at e
  ·rename_i q
   cases e;exact Yi q▸h.1
  ·exact AlL.get h.2 e
def BA(x:Str)(s:Stmt):Prop:=∃n,(fH s).length=n/\∀(kV doc pm:Value) (an:Option Addr) (cdv ct:Value) (us:List Value),us.length=n->bindArgs (PySem.W.fnOf x x (fK s) (dU s) (bJ s) .none kV doc pm an cdv ct) ⟨us,[]⟩=pure ((fH s).zip us)
structure j5(p:Prg)(K:PySem.W.Frag)(mg:Str->Option Value)(t:Adr):Prop where
 fs:∀i x,p.ix.lookup i=some x->Fn4 K mg x (p.top i) (fH (p.top i)) (t.a i) (t.d i)
 bt:∀i x,p.ix.lookup i=some x->∀(s:Shared) (us:List Value),us.length=(fH (p.top i)).length->BindsTo s (t.d i) ⟨us,[]⟩ ((fH (p.top i)).zip us)
 zs:∀i x,p.zs.lookup i=some x->mg x=none
 gs:∀i x,p.gs.lookup i=some x->∃q,mg x.1=some (.int x.2 q)
 cs:∀i x,p.cs.lookup i=some x->mg x=some (.ref (t.c i))
 ss:∀i x,p.ix.lookup i=some x->cV (CD (p.top i)) (fH (p.top i)) (bJ (p.top i))
 x:SrG K (t.c 0) t.ai t.di p.si
theorem j5.f{p:Prg}{K:PySem.W.Frag}{mg:Str->Option Value}{t:Adr}(T:j5 p K mg t)(i:Nat){x:Str}(h:p.ix.lookup i=some x:=by rfl):Fn4 K mg x (p.top i) (fH (p.top i)) (t.a i) (t.d i):=T.fs i x h
theorem j5.z{p:Prg}{K:PySem.W.Frag}{mg:Str->Option Value}{t:Adr}(T:j5 p K mg t)(i:Nat){x:Str}(h:p.zs.lookup i=some x:=by rfl):mg x=none:=T.zs i x h
theorem j5.m{p:Prg}{K:PySem.W.Frag}{mg:Str->Option Value}{t:Adr}(T:j5 p K mg t)(i:Nat){x:Str}(h:p.cs.lookup i=some x:=by rfl):mg x=some (.ref (t.c i)):=T.cs i x h
abbrev OkG(p:Prg)(P:Program)(w:World)(K:PySem.W.Frag)(mg:Str->Option Value)(base:Heap)(t:Adr)(CX:CXT)(i k:Nat)(sp:Sp):Prop:=jE P w K mg base CX k (t.a i) (t.d i) (fH (p.top i)) sp
theorem j5.mk'{p:Prg}{K:PySem.W.Frag}{mg:Str->Option Value}{h:Heap}(X:K.In h)(G:h.Ns ZV mg)
  (hf:AlL (λi x=>FnX K x (p.top i)/\BA x (p.top i)/\cV (CD (p.top i)) (fH (p.top i)) (bJ (p.top i))) p.ix)
  (hz:AlL (λ_ x=>PySem.W.nsIn K ZV x=some none) p.zs)
  (hg:AlL (λ_ x=>∃q,PySem.W.nsIn K ZV x.1=some (some (.int x.2 q))) p.gs)
  (hc:AlL (λ_ x=>∃c,PySem.W.nsIn K ZV x=some (some (.ref c))) p.cs) (hx:HX p K) (L:Nat) {y:Str}(hL:p.ix.lookup L=some y):∃t,j5 p K mg t:=by
 have mk:∀i x,p.ix.lookup i=some x->∃f d,Fn4 K mg x (p.top i) (fH (p.top i)) f d/\∀(s:Shared) (us:List Value),us.length=(fH (p.top i)).length->BindsTo s d ⟨us,[]⟩ ((fH (p.top i)).zip us):=λi x e=>by
  obtain⟨h1,⟨n,hn,h2⟩,_⟩:=hf.get e;exact M3 X G h1 λ_ _ _ _ _ _ us hl=>h2 _ _ _ _ _ _ us (hl.trans hn)
 obtain⟨f0,d0,-⟩:=mk L y hL
 haveI:Nonempty FuncData:=⟨d0⟩
 have same:∀{x:Str}{c d:Addr},PySem.W.nsIn K ZV x=some (some (.ref c))->PySem.W.nsIn K ZV x=some (some (.ref d))->c=d:=λa b=>by have:=a.symm.trans b;cases this;rfl
 let A:Nat->Addr:=λi=>Classical.epsilon λa=>∀x,p.ix.lookup i=some x->mg x=some (.ref a)
 let D:Nat->FuncData:=λi=>Classical.epsilon λd=>∀x,p.ix.lookup i=some x->Fn4 K mg x (p.top i) (fH (p.top i)) (A i) d/\∀(s:Shared) (us:List Value),us.length=(fH (p.top i)).length->BindsTo s d ⟨us,[]⟩ ((fH (p.top i)).zip us)
 let C:Nat->Addr:=λi=>Classical.epsilon λa=>∀x,p.cs.lookup i=some x->PySem.W.nsIn K ZV x=some (some (.ref a))
 have hA:∀i x,p.ix.lookup i=some x->mg x=some (.ref (A i)):=λi x e=>by
  refine Classical.epsilon_spec (p:=λa=>∀x,p.ix.lookup i=some x->mg x=some (.ref a)) ?_ x e;obtain⟨f,d,h1,-⟩:=mk i x e;exact⟨f,λx' e'=>by rw[e]at e';cases e';exact h1.m⟩
 have hD:∀i x,p.ix.lookup i=some x->Fn4 K mg x (p.top i) (fH (p.top i)) (A i) (D i)/\∀(s:Shared) (us:List Value),us.length=(fH (p.top i)).length->BindsTo s (D i) ⟨us,[]⟩ ((fH (p.top i)).zip us):=λi x e=>by
  refine Classical.epsilon_spec (p:=λd=>∀x,p.ix.lookup i=some x->Fn4 K mg x (p.top i) (fH (p.top i)) (A i) d/\∀(s:Shared) (us:List Value),us.length=(fH (p.top i)).length->BindsTo s d ⟨us,[]⟩ ((fH (p.top i)).zip us)) ?_ x e;obtain⟨f,d,h1,h2⟩:=mk i x e;have e2:f=A i:=by have:=h1.m.symm.trans (hA i x e);cases this;rfl
  subst e2;exact⟨d,λx' e'=>by rw[e]at e';cases e';exact⟨h1,h2⟩⟩
 have hC:∀i x,p.cs.lookup i=some x->PySem.W.nsIn K ZV x=some (some (.ref (C i))):=λi x e=>by
  refine Classical.epsilon_spec (p:=λa=>∀x,p.cs.lookup i=some x->PySem.W.nsIn K ZV x=some (some (.ref a))) ?_ x e;obtain⟨c,h1⟩:=hc.get e;exact⟨c,λx' e'=>by rw[e]at e';cases e';exact h1⟩
 obtain⟨y1,c1,g1,oc,od,kV,dc,pm,an,cd,ct,sl,e1,e2,q1,q2,l1,l2,l3,p1,p2,p3,p4,p5,p6,n0,n1,n2,n3,n4,hb⟩:=hx;have ec1:=same e2 (hC 0 y1 e1);subst ec1;have F1:=zD (st:=p.si) l1 l2 l3;refine⟨⟨A,D,C,g1,_⟩,⟨λi x e=>(hD i x e).1,λi x e=>(hD i x e).2,λi x e=>PySem.W.mg_none_of X G (hz.get e),λi x e=>(hg.get e).imp λq h=>PySem.W.mg_of X G h,λi x e=>PySem.W.mg_of X G (hC i x e),λi x e=>(hf.get e).2.2,⟨⟨p1,p2,p3,p4⟩,n0,n1,n2,n3,n4,⟨p5,q1,q2,p6⟩,F1,F1.binds hb⟩⟩⟩
def noL(K:PySem.W.Frag):Bool:=K.all λp=>match p.2.cls with | .type n=>n != "list" | _=>true
theorem MU{K:PySem.W.Frag}(h:noL K=true){a:Addr}{o:Obj}(e:K.lookup a=some o):o.cls≠.type "list":=λc=>by
 unfold noL at h;have hm:(a,o)∈K:=by
  clear h;induction K with
  |nil=>cases e
  |cons p l ih =>
   rw[List.lookup_cons]at e;split at e
   ·rename_i q;cases e;rw[Yi q];exact Zd
   ·exact Zw _ (ih e)
 have:=List.all_eq_true.mp h _ hm;dsimp only at this;rw[c]at this;simp at this
theorem NJ(p:Prg)(L:Nat){k:Nat}{sp:Sp}{l:PySem.W.OpenLaw}{q:Program}{loose:List Str}{XP:(Str->Option Value)->Heap->Prop}{YP:World->Heap->Prop}{d:DefRec}{K:Params->PySem.W.Frag}(hn:l.most=some 63)(hdf:d.params.defaults=[])
  (hr:fM k callerA) (hL:p.ix.lookup L=some d.name) (hps:fH (p.top L)=[("_law_script" : Str)])
  (hY:∀(w:World) (h:Heap),YP w h->(K w.params).In h)
  (hsp:∀(a:Addr) (ns:List Int) (H:Hp),ns.length<=63->J4 H->SqL H a (ns.map V.int)->sp [.ref a] H (λv _=>v=.bl true) λ_ _ _=>False)
  (ok:∀{w:World}{K:PySem.W.Frag}{mg:Str->Option Value}{base:Heap}{t:Adr},j5 p K mg t->jE l.prog w K mg base CX0 k (t.a L) (t.d L) (fH (p.top L)) sp)
  (hk:∀w:World,noL (K w.params)=true)
  (hf:∀w:World,AlL (λi x=>FnX (K w.params) x (p.top i)/\BA x (p.top i)/\cV (CD (p.top i)) (fH (p.top i)) (bJ (p.top i))) p.ix)
  (hz:∀w:World,AlL (λ_ x=>PySem.W.nsIn (K w.params) ZV x=some none) p.zs)
  (hg:∀w:World,AlL (λ_ x=>∃q,PySem.W.nsIn (K w.params) ZV x.1=some (some (.int x.2 q))) p.gs)
  (hc:∀w:World,AlL (λ_ x=>∃c,PySem.W.nsIn (K w.params) ZV x=some (some (.ref c))) p.cs) (hx:∀w:World,HX p (K w.params)) :
  PySem.W.WalkO q loose XP YP l.row.toRowW d [] (λf vs=>PySem.call f vs) :=
 G1 (n:=63) (k:=k) (x:="_law_script") (CX:=λ_=>CX0) (sp:=λ_=>sp) hn (by decide) hdf hr hY (λw mg fa h KX G hm=>by
  obtain⟨t,T⟩:=j5.mk' KX G (hf w) (hz w) (hg w) (hc w) (hx w) L hL;have e:=hm.symm.trans (T.f L hL).m;cases e;refine(xWP (t.d L) (λs u=>?_) (λbase _ _=>hps▸ok T));have:=T.bt L _ hL s [u] (by rw[hps];rfl);rw[hps]at this;exact this) (λw a o e=>MU (hk w) e) (λw H a ns hl hO hS=>hsp a ns H hl hO hS) λ_ _ _ _ _ z=>z
theorem j5.g{p:Prg}{K:PySem.W.Frag}{mg:Str->Option Value}{t:Adr}(T:j5 p K mg t)(i:Nat){x:Str}{v:Int}(h:p.gs.lookup i=some (x,v):=by rfl):∃q,mg x=some (.int v q):=T.gs i _ h
theorem mK{X:Cx}{x:Str}{v:Int}{pos:Pos}(hm:∃q,X.mg x=some (.int v q))(hg:Gl X x:=by rfl)(hd:(x==("__debug__" : Str))=false:=by decide):PE X (.Name x pos) (tC (.int v)):=by
 obtain⟨q,h⟩:=hm;exact II (v:=.int v) hg h ⟨_,rfl⟩ hd
theorem FM{l:List Str}(h:decide l.Nodup=true):l.Nodup:=Yf h
theorem QC{X:Cx}{pos:Pos}(i:Nat){x:Str}(hi:X.N[i]?=some x:=by rfl)(hx:Loc X.env.scope x:=by first | exact Or.inl rfl | exact Or.inr rfl)(hf:X.fn x=true\/X.env.scope.names.lookup x=some .local:=by first | exact .inl rfl | exact .inr rfl | assumption)(hN:X.N.Nodup:=by first | assumption | exact FM rfl):PG X (.Name x pos) (b0 i):=b7 hN hi hx hf
theorem QB{X:Cx}{pos:Pos}(i:Nat){x:Str}{e:Expr}{te:TE}{pos':Pos}(he:PE X e te)(hi:X.N[i]?=some x:=by rfl)(hx:Loc X.env.scope x:=by first | exact Or.inl rfl | exact Or.inr rfl)(hs:swapsWith e (some (.Name x pos')) pos.line X.env=pure false:=by rfl)(hf:X.fn x=true\/X.env.scope.names.lookup x=some .local:=by first | exact .inl rfl | exact .inr rfl | assumption)(hN:X.N.Nodup:=by first | assumption | exact FM rfl) :
  PS X (.Assign [.Name x pos'] e pos) (BP te (b0 i)):=EN hN hi hx he hs hf
theorem j5.ok{p:Prg}{P:Program}{w:World}{K:PySem.W.Frag}{mg:Str->Option Value}{base:Heap}{t:Adr}(T:j5 p K mg t)(i:Nat){x:Str}{k:Nat}{sp:Sp}(len:∀vs H Q E,sp vs H Q E->vs.length=(fH (p.top i)).length)
  (hbody:∀(cdv:Value) (A:Around) (outer:List Env) (s:Shared) (H:Hp) (vs:List V) (Q:VK) (E:XK),fM k (A.deeper (envOfC x (bJ (p.top i)) s.heap.objs.size (t.a i) cdv))->sp vs H Q E->(CD (p.top i)).Nodup ->
   let X:=(wU CX0 P w K mg base (CD (p.top i)) x (bJ (p.top i)) (t.a i) cdv A outer s H E).nox
   ∃t,PSs X (dU (p.top i)) t/\t { nx:=λ_ H'=>Q .non H',rt:=Q } (start (CD (p.top i)) vs) H) (h:p.ix.lookup i=some x:=by rfl):jE P w K mg base CX0 (k+1) (t.a i) (t.d i) (fH (p.top i)) sp :=
 (T.fs i x h).F.ok (T.ss i x h) len λcdv A outer s H vs Q E hr q=>hbody cdv A outer s H vs Q E hr q (T.ss i x h).nd
theorem j5.okN{p:Prg}{P:Program}{w:World}{K:PySem.W.Frag}{mg:Str->Option Value}{base:Heap}{t:Adr}(T:j5 p K mg t)(i:Nat){N:List Str}(S:cV N (fH (p.top i)) (bJ (p.top i))){x:Str}{k:Nat}{sp:Sp}(len:∀vs H Q E,sp vs H Q E->vs.length=(fH (p.top i)).length)
  (hbody:∀(cdv:Value) (A:Around) (outer:List Env) (s:Shared) (H:Hp) (vs:List V) (Q:VK) (E:XK),fM k (A.deeper (envOfC x (bJ (p.top i)) s.heap.objs.size (t.a i) cdv))->sp vs H Q E->N.Nodup ->
   let X:=(wU CX0 P w K mg base N x (bJ (p.top i)) (t.a i) cdv A outer s H E).nox
   ∃t,PSs X (dU (p.top i)) t/\t { nx:=λ_ H'=>Q .non H',rt:=Q } (start N vs) H) (h:p.ix.lookup i=some x:=by rfl):jE P w K mg base CX0 (k+1) (t.a i) (t.d i) (fH (p.top i)) sp :=
 (T.fs i x h).F.ok S len λcdv A outer s H vs Q E hr q=>hbody cdv A outer s H vs Q E hr q S.nd
theorem fZ{X:Cx}(N':List Str)(js:List (Option Nat)){scope:Scope}{target iter elt:Expr}{ifs:List Expr}{pos:Pos}{wi:TI}{g:TG}{tc:TT}{te:TE}(hi:PI X target iter wi)
  (hg:∀cl C fp s H,PG (X.comp N' scope cl C fp s H) target g) (hf:∀cl C fp s H,PF (X.comp N' scope cl C fp s H) ifs tc) (he:∀cl C fp s H,PE (X.comp N' scope cl C fp s H) elt te) (hc:X.calm=true:=by rfl)
  (hk:scope.kind=.function:=by rfl) (hcell:(scope.names.all λy=>y.2 != .cell)=true:=by rfl) (hfree:(scope.names.all λy=>y.2 != .free||(X.env.kindOf y.1==some .cell||X.env.kindOf y.1==some .free))=true:=by rfl)
  (hnames:(scope.names.all λy=>y.2 != .local||scope.names.lookup y.1==some .local)=true:=by rfl) (hjs:uP X.N scope N' js=true:=by rfl) (hs:∀x,foldedSetIterable iter X.env x=pure x:=by intro _;rfl) :
  PE X (.ListComp elt [⟨target,iter,ifs,0⟩] scope pos) (zU js wi g tc te):=tZ hc hi hg hf he hk hcell hfree hnames hjs hs
theorem e8{X:Cx}(i:Nat)(N':List Str)(js:List (Option Nat)){scope:Scope}{target iter elt:Expr}{ifs:List Expr}{pos pos' spos:Pos}{x:Str}{wi:TI}{g:TG}{tc:TT}{te:TE}(hi:PI X target iter wi)
  (hg:∀cl C fp s H,PG (X.comp N' scope cl C fp s H) target g) (hf:∀cl C fp s H,PF (X.comp N' scope cl C fp s H) ifs tc) (he:∀cl C fp s H,PE (X.comp N' scope cl C fp s H) elt te)
  (hi':X.N[i]?=some x:=by rfl) (hx:Loc X.env.scope x:=by first | exact Or.inl rfl | exact Or.inr rfl) (hc:X.calm=true:=by rfl)
  (hsw:swapsWith (.ListComp elt [⟨target,iter,ifs,0⟩] scope pos) (some (.Name x pos')) spos.line X.env=pure true:=by rfl)
  (hk:scope.kind=.function:=by rfl) (hcell:(scope.names.all λy=>y.2 != .cell)=true:=by rfl) (hfree:(scope.names.all λy=>y.2 != .free||(X.env.kindOf y.1==some .cell||X.env.kindOf y.1==some .free))=true:=by rfl)
  (hnames:(scope.names.all λy=>y.2 != .local||scope.names.lookup y.1==some .local)=true:=by rfl) (hjs:uP X.N scope N' js=true:=by rfl) (hs:∀x,foldedSetIterable iter X.env x=pure x:=by intro _;rfl)
  (hfn:X.fn x=true\/X.env.scope.names.lookup x=some .local:=by first | exact .inl rfl | exact .inr rfl | assumption) (hN:X.N.Nodup:=by first | assumption | exact FM rfl) :
  PS X (.Assign [.Name x pos'] (.ListComp elt [⟨target,iter,ifs,0⟩] scope pos) spos) (BP (zU js wi g tc te) (b0 i)):=qG hN hi' hx hc hi hg hf he hsw hk hcell hfree hnames hjs hs hfn
theorem GM(env:Env):∀es:List Expr,(assignEach es env).length=es.length
 |[]=>rfl
 |e::es=>by cases e<;>exact congrArg (·+1) (GM env es)
theorem vN{X:Cx}{pos:Pos}{es:List Expr}{k:Nat}{t:TGs}(h:PGs X es t)(hc:X.calm=true:=by rfl)(hst:(assignEach es X.env).findIdx? (·.1)=none:=by rfl):PG X (.Tuple es k pos) (M1 es.length t):=EW hc h (GM _ _) hst
end L2
namespace K32
open PySem L2
abbrev nm(i:Nat)(x:Str):Nat×Str:=(i,x)
abbrev prg:Prg:=⟨λi=>PySem.Challenge.pw_fewbends_k32_papers_for_all_outer_lands.main.body.getD i (.Pass ⟨0,0,0,0⟩),[nm 11 "check_map",nm 12 "ties_name_places",nm 13 "orders_fit",nm 14 "ends_at_places",nm 15 "hangs_together",nm 16 "other_end",nm 17 "place_of",nm 18 "goes_to",nm 19 "behind",nm 20 "lands",nm 21 "land_from",nm 22 "land_numbers",nm 23 "is_flat",nm 24 "check_flat",nm 25 "check_outer",nm 27 "rate",nm 28 "rests",nm 29 "settled_prices",nm 30 "lower_prices",nm 31 "ring_behind",nm 33 "doors_of",nm 34 "filled",nm 35 "reach",nm 36 "far_side",nm 37 "room",nm 38 "put_in",nm 39 "raise_prices",nm 40 "path_to",nm 41 "push",nm 43 "check_net",nm 44 "bound",nm 45 "least_worth",nm 46 "is_lot",nm 47 "are_unlike",nm 48 "most_out",nm 49 "cheapest",nm 50 "without_costs",nm 52 "is_shape",nm 53 "places_close",nm 54 "lands_close",nm 55 "wanted_sum",nm 56 "land_sum",nm 57 "turns",nm 58 "shortened",nm 60 "keeps",nm 61 "cost",nm 62 "net_of",nm 63 "corner_ways",nm 64 "left_ways",nm 65 "fewest",nm 66 "bound_of",nm 67 "shows_none",nm 69 "best_outer",nm 70 "paper_of",nm 71 "shows_best",nm 72 "shows_no_shape",nm 73 "shows_none_below",nm 75 "_law_cell_at",nm 76 "_law_mix",nm 77 "_law_turned",nm 78 "_law_other",nm 79 "_law_place",nm 80 "_law_behind",nm 81 "_law_lands",nm 82 "_law_sum",nm 83 "_law_step",nm 84 "_law_renamed",nm 85 "_law_map",nm 86 "_law_wishes",nm 87 "_law_net",nm 88 "_law_bound",nm 89 "_law_is_lot",nm 90 "_law_is_shape",nm 91 "_law_keeps",nm 92 "_law_cost",nm 93 "_law_bent_paper",nm 94 "_law_bent",nm 95 "_law_shows",nm 96 "law"],[(0,"all"),(1,"any"),(2,"bool"),(3,"enumerate"),(4,"int"),(5,"isinstance"),(6,"len"),(7,"list"),(8,"max"),(9,"min"),(10,"range"),(11,"set"),(12,"sorted"),(13,"sum"),(14,"zip")],[(0,"QUARTERS_ROUND",4),(1,"MOST_PLACES",200),(2,"MOST_TIES",400),(3,"MOST_ENDS_AT_A_PLACE",4)],[(0,"Search")],inClass (PySem.Challenge.pw_fewbends_k32_papers_for_all_outer_lands.main.body.getD 32 (.Pass ⟨0,0,0,0⟩)) 0⟩
abbrev Txt:=j5 prg
abbrev Ok(P:Program)(w:World)(base:Heap){K:PySem.W.Frag}{mg:Str->Option Value}{t:Adr}(_:Txt K mg t)(i k:Nat)(sp:Sp):Prop:=OkG prg P w K mg base t CX0 i k sp
theorem qB:cV ["self","net","prices"] ["self","net","prices"] (bJ prg.si):=scm
end K32
set_option hygiene false in
local macro_rules
 |`(tactic| left)=>`(tactic| ((first | refine T.ok _ (λvs H Q E h=>?_) ?_ | refine T.okX _ (λvs H Q E h=>?_) ?_);(focus repeat first | (obtain⟨rfl,_⟩:=h;rfl) | obtain⟨_,h⟩:=h);intro cdv A outer s H vs Q E hr h nd X))
set_option hygiene false in
local macro_rules
 |`(tactic| and_intros)=>`(tactic| repeat (first | (change (_:Type);rotate_left) | (guard_target=PE _ _ _;first | (guard_target=PE _ (.Constant _ _ _) _;first | exact aM | exact vP | exact nP | exact MA) | (guard_target=PE _ (.BinOp _ .Sub _ _) _;refine' bI t8 ?_ ?_) | (guard_target=PE _ (.BinOp _ .Mult _ _) _;refine' bI lT ?_ ?_) | (guard_target=PE _ (.BinOp _ .Mod _ _) _;refine' bI gL ?_ ?_) | (guard_target=PE _ (.Tuple _ _ _) _;refine' nO ?_) | (guard_target=PE _ (.List _ _) _;refine' jP ?_) | (guard_target=PE _ (.UnaryOp .USub _ _) _;refine' OG K3 ?_) | (guard_target=PE _ (.Call (.Name "len" _) [_] [] _) _;refine' aN bK rfl (T.z 6) PySem.boot_len ?_) | (guard_target=PE _ (.Call (.Attribute _ "append" _) [_] [] _) _;refine' MB mAp kP ?_ ?_) | (guard_target=PE _ (.Compare _ [.Lt] _ _) _;refine' mM jI ?_ ?_ ?_)) | (guard_target=PA _ _ _;first | (guard_target=PA _ [] _;exact aO) | refine' aK ?_ ?_) | (guard_target=PSs _ _ _;first | (guard_target=PSs _ (_::_::_) _;refine' aS ?_ ?_) | (guard_target=PSs _ [_] _;refine' a0 ?_) | (guard_target=PSs _ [] _;exact cE) | (guard_target=PSs _ (dU _) _;first | refine' a0 ?_ | refine' aS ?_ ?_)) | (guard_target=PS _ _ _;first | (guard_target=PS _ (.Return (some _) _) _;refine' jN ?_) | (guard_target=PS _ (.Expr _ _) _;refine' kK ?_) | (guard_target=PS _ (.If _ _ _ _) _;refine' eQ ?_ ?_ ?_) | (guard_target=PS _ (.While _ _ _ _) _;refine' vM PassesOwn.never ?_ ?_) | (guard_target=PS _ (.For _ _ _ _ _) _;refine' i5 PassesOwn.never rfl ?_ ?_ ?_) | (guard_target=PS _ (.Return none _) _;exact ps_retN) | (guard_target=PS _ (.Break _) _;exact ps_break) | (guard_target=PS _ (.Continue _) _;exact ps_continue) | (guard_target=PS _ (.Pass _) _;exact ps_pass)) | (guard_target=PT _ _ _;first | (guard_target=PT _ (.BoolOp .And _ _) _;refine' oQ (nN ?_ ?_)) | (guard_target=PT _ (.BoolOp .Or _ _) _;refine' oQ (qF ?_ ?_)) | (guard_target=PT _ (.UnaryOp .Not _ _) _;refine' iL ?_) | (guard_target=PT _ (.Compare _ [.Lt] _ _) _;refine' bL jI ?_ ?_ ?_) | (guard_target=PT _ (.Compare _ [.LtE] _ _) _;refine' bL k9 ?_ ?_ ?_) | (guard_target=PT _ (.Compare _ [.GtE] _ _) _;refine' bL AI ?_ ?_ ?_) | (guard_target=PT _ (.Compare _ [.Gt] _ _) _;refine' bL E1 ?_ ?_ ?_)) | (guard_target=PW _ _ _;first | (guard_target=PW _ (.BoolOp .And (_::_::_) _) _;refine' nN ?_ ?_) | (guard_target=PW _ (.BoolOp .Or (_::_::_) _) _;refine' qF ?_ ?_) | (guard_target=PW _ (.BoolOp .And _ _) _;refine' mF ?_) | (guard_target=PW _ (.BoolOp .Or _ _) _;refine' yF ?_)) | (guard_target=PI _ _ _ _;first | (guard_target=PI _ _ (.Call (.Name "range" _) [_] [] _) _;refine' fR rfl (T.z 10) ?_) | (guard_target=PI _ _ (.Call (.Name "range" _) [_,_] [] _) _;refine' pi_range2 rfl (T.z 10) ?_)) | (guard_target=PG _ (.Tuple _ _ _) _;refine' vN ?_) | (guard_target=PGs _ (_::_) _;refine' dM ?_ ?_) | (guard_target=PGs _ [] _;exact mI) | (guard_target=behindInMarks _ _=false;first | exact dH _ | rfl) | (guard_target=PF _ [] _;exact tY) | (guard_target=BF _;exact λ_ _=>rfl)))
set_option hygiene false in
local macro_rules
 |`(tactic| exists $t:term)=>`(tactic| (and_intros;(first | (guard_target=PE _ (.Call (.Name _ _) _ [] _) _;refine' bT ($t T) hr (T.f _) aZ ?_) | (guard_target=PE _ (.Subscript _ _ _) _;first | refine' cP $t ?_ ?_ ?_ | refine' cP ($t (K:=K) rfl) ?_ ?_ ?_) | (guard_target=PE _ (.BinOp _ _ _ _) _;refine' bI $t ?_ ?_) | (guard_target=PE _ (.Compare _ _ _ _) _;refine' mM $t ?_ ?_ ?_) | (guard_target=PT _ (.Compare _ _ _ _) _;refine' bL $t ?_ ?_ ?_) | (guard_target=PE _ (.ListComp _ _ _ _) _;refine' $t ?_ (λ_ _ _ _ _=>?_) (λ_ _ _ _ _=>?_) (λ_ _ _ _ _=>?_)) | (guard_target=PS _ (.Assign _ (.ListComp _ _ _ _) _) _;refine' $t ?_ (λ_ _ _ _ _=>?_) (λ_ _ _ _ _=>?_) (λ_ _ _ _ _=>?_)) | refine' $t);and_intros))
 |`(tactic| exists $t:term,$ts:term,*)=>`(tactic| (exists $t;exists $ts,*))
set_option hygiene false in
local macro_rules
 |`(tactic| exists $n:num)=>`(tactic| (and_intros;(first | (guard_target=PE _ (.Name _ _) _;exact pv $n) | (guard_target=PG _ (.Name _ _) _;exact QC $n) | (guard_target=PS _ (.Assign [.Name _ _] _ _) _;refine' QB $n ?_));and_intros))
abbrev K32.lawK:Nat:=60
namespace NM
open L2 (at0)
structure Way where
 a:Nat
 b:Nat
 lo:Int
 hi:Option Int
 c:Int
def rt(ps:List Int)(w:Way):Int:=w.c-at0 ps w.a+at0 ps w.b
def mn(i j:Int):Int:=if j<i then j else i
def least(ps:List Int)(w:Way):Option Int :=
 match w.hi with
 |some h=>some (mn (w.lo*rt ps w) (h*rt ps w))
 |none=>if rt ps w<0 then none else some (w.lo*rt ps w)
def due(ps:List Int)(w:Way):Option Int :=
 if 0<rt ps w then some (rt ps w*w.lo) else if rt ps w<0 then (match w.hi with | some h=>some (rt ps w*h) | none=>none) else some 0
theorem tD(ps:List Int)(w:Way)(hb:∀h,w.hi=some h->w.lo<=h):least ps w=due ps w:=by
 unfold least due;generalize rt ps w=r;rcases hw:w.hi with _ | h
 ·dsimp only;by_cases h1:0<r
  ·rw[Yb h1,Ya (by lia),Int.mul_comm]
  ·by_cases h2:r<0
   ·rw[Ya h1,Yb h2,Yb h2]
   ·have:r=0:=by lia
    subst this;simp
 ·have hl:=hb h hw;dsimp only;by_cases h1:0<r
  ·rw[Yb h1];have:w.lo*r<=h*r:=Int.mul_le_mul_of_nonneg_right hl (by lia);unfold mn;rw[Ya (by lia),Int.mul_comm]
  ·rw[Ya h1];by_cases h2:r<0
   ·rw[Yb h2];have:h*r<=w.lo*r:=Int.mul_le_mul_of_nonpos_right hl (by lia);unfold mn;by_cases e:h*r<w.lo*r
    ·rw[Yb e,Int.mul_comm]
    ·rw[Ya e];have:w.lo*r=h*r:=by omega
     rw[this,Int.mul_comm]
   ·have:r=0:=by lia
    subst this;simp[mn]
def bnd(f:Way->Option Int):List Way->Int->Option Int
 |[],t=>some t
 |w::ws,t=>match f w with
  |none=>none
  |some l=>bnd f ws (t+l)
theorem nZ{f g:Way->Option Int}:∀(ws:List Way) (t:Int),(∀w∈ws,f w=g w)->bnd f ws t=bnd g ws t
 |[],_,_=>rfl
 |w::ws,t,h=>by
  unfold bnd;rw[h w Zd];cases g w with
  |none=>rfl
  |some l=>exact nZ ws _ λx hx=>h x (Zw _ hx)
theorem m7{f:Way->Option Int}{ws:List Way}{i:Nat}{t:Int}{w:Way}(h:ws[i]?=some w)(hf:f w=none):bnd f (ws.drop i) t=none:=by
 obtain⟨hi,rfl⟩:=Zj.mp h;rw[List.drop_eq_getElem_cons hi];show(match f ws[i]with | none=>none | some l=>bnd f (ws.drop (i+1)) (t+l))=none;rw[hf]
theorem eJ{f:Way->Option Int}{ws:List Way}{i:Nat}{t l:Int}{w:Way}(h:ws[i]?=some w)(hf:f w=some l):bnd f (ws.drop i) t=bnd f (ws.drop (i+1)) (t+l):=by
 obtain⟨hi,rfl⟩:=Zj.mp h;rw[List.drop_eq_getElem_cons hi];show(match f ws[i]with | none=>none | some l=>bnd f (ws.drop (i+1)) (t+l))=_;rw[hf]
def dot(ps l:List Int)(n:Nat):Int:=((ZR n).map λk=>at0 ps k*at0 l k).sum
theorem m8{l:List Int}{j k:Nat}{v:Int}(h:j<l.length):at0 (l.set j v) k=if k=j then v else at0 l k:=by
 unfold at0;simp only[List.getD];by_cases e:k=j
 ·subst e;rw[Yb rfl,ZK h];rfl
 ·rw[Ya e,ZJ (Yh e)]
def step(l:List Int)(w:Way)(g:Int):List Int:=(l.set w.a (at0 l w.a-g)).set w.b (at0 (l.set w.a (at0 l w.a-g)) w.b+g)
theorem vF(l:List Int)(w:Way)(g:Int):(step l w g).length=l.length:=by unfold step;simp
def left:List Way->List Int->List Int->List Int
 |w::ws,g::gs,l=>left ws gs (step l w g)
 |_,_,l=>l
theorem sY{ws:List Way}{gs l:List Int}{i:Nat}{w:Way}{g:Int}(h1:ws[i]?=some w)(h2:gs[i]?=some g):left (ws.take (i+1)) (gs.take (i+1)) l=step (left (ws.take i) (gs.take i) l) w g:=by
 induction i generalizing ws gs l with
 |zero =>
  cases ws with
  |nil=>simp at h1
  |cons x ws =>
   cases gs with
   |nil=>simp at h2
   |cons y gs =>
    simp at h1 h2;subst h1 h2;simp[left]
 |succ i ih =>
  cases ws with
  |nil=>simp at h1
  |cons x ws =>
   cases gs with
   |nil=>simp at h2
   |cons y gs =>
    simp only[List.take_succ_cons,left];exact ih (by simpa using h1) (by simpa using h2)
theorem mQ:∀(ws:List Way) (gs l:List Int),(left ws gs l).length=l.length
 |w::ws,g::gs,l=>by rw[left,mQ,vF]
 |[],_,l=>by cases ‹List Int›<;>rfl
 |_::_,[],l=>rfl
end NM
namespace FL
open NM L2
def aF(ws:List Way)(k:Nat):Nat:=(ws[k]?.map (·.a)).getD 0
def bF(ws:List Way)(k:Nat):Nat:=(ws[k]?.map (·.b)).getD 0
def loF(ws:List Way)(k:Nat):Int:=(ws[k]?.map (·.lo)).getD 0
def hiF(ws:List Way)(k:Nat):Option Int:=ws[k]?.bind (·.hi)
def coF(ws:List Way)(k:Nat):Int:=(ws[k]?.map (·.c)).getD 0
section
variable{ws:List Way}{k:Nat}{w:Way}
theorem oP(h:ws[k]?=some w):aF ws k=w.a:=by unfold aF;rw[h];rfl
theorem rL(h:ws[k]?=some w):bF ws k=w.b:=by unfold bF;rw[h];rfl
theorem yZ(h:ws[k]?=some w):loF ws k=w.lo:=by unfold loF;rw[h];rfl
theorem uR(h:ws[k]?=some w):hiF ws k=w.hi:=by unfold hiF;rw[h];rfl
theorem M8(h:ws[k]?=some w):coF ws k=w.c:=by unfold coF;rw[h];rfl
theorem ED(h:ws[k]?=some w)(ps:List Int):rt (aF ws) (bF ws) (coF ws) (at0 ps) k=NM.rt ps w:=by
 unfold rt NM.rt;rw[oP h,rL h,M8 h]
end
theorem xE{l:List Int}{w:Way}{g:Int}(ha:w.a<l.length)(hb:w.b<l.length)(v:Nat):at0 (step l w g) v=at0 l v-(if w.a=v then g else 0)+(if w.b=v then g else 0):=by
 unfold step;rw[m8 (by simpa using hb),m8 ha,m8 ha];by_cases x:v=w.b<;>by_cases y:v=w.a
 ·subst x;rw[Yb rfl,Yb y,Yb y.symm,Yb rfl,y]
 ·subst x;rw[Yb rfl,Ya y,Ya (λz=>y z.symm),Yb rfl];lia
 ·subst y;rw[Ya x,Yb rfl,Yb rfl,Ya (λz=>x z.symm)];lia
 ·rw[Ya x,Ya y,Ya (λz=>y z.symm),Ya (λz=>x z.symm)];lia
theorem JK{ws:List Way}{gs ns:List Int}(hl:gs.length=ws.length)(hk:∀w∈ws,w.a<ns.length/\w.b<ns.length)(v:Nat) :
  at0 (left ws gs ns) v=rs ws.length (aF ws) (bF ws) (at0 ns) (at0 gs) v:=by
 have key:∀i,i<=ws.length->at0 (left (ws.take i) (gs.take i) ns) v=rs i (aF ws) (bF ws) (at0 ns) (at0 gs) v:=by
  intro i;induction i with
  |zero=>intro _;simp[left,rs,AB]
  |succ i ih =>
   intro hi;have h1:ws[i]?=some ws[i]:=Zz (by lia);have h2:gs[i]?=some gs[i]:=Zz (by lia);have hw:=hk ws[i] (Zp _);have ll:=mQ (ws.take i) (gs.take i) ns;rw[sY h1 h2,xE (by rw[ll];exact hw.1) (by rw[ll];exact hw.2),ih (by lia)];have eg:at0 gs i=gs[i]:=by unfold at0;simp[List.getD,h2]
   unfold rs;rw[dC,dC,oP h1,rL h1,eg]
   lia
 have:=key ws.length (ZC _)
 rwa [Yv,List.take_of_length_le (by lia)]at this
section
variable{rest rest':Nat->Int}{src dst:Nat->Int->Nat}{len:Nat->Int->Int}{op:Nat->Int->Prop}{n:Nat}{pr:Nat->Int->Prop}{R W:List En}{nr:Nat->Option Int}
theorem Rch.congr(h:Rch rest src dst len op n pr R W nr)(e:∀v,v<n->rest v=rest' v):Rch rest' src dst len op n pr R W nr:=by
 have f:∀x∈R++W,tP rest x->tP rest' x:=λx hx z=>(xPP z.1 z.2.1 (by rw[<-e _ (h.lt x hx)];exact z.2.2))
 exact⟨λi x hx=>(h.old i x hx).imp (f x (ZO _ (Zg hx))) id,λx hx=>(h.wait x hx).imp (f x (ZN _ hx)) id,h.lt,h.nd,h.up,h.mono,h.dom,h.near,λv hv hp=>h.pos v hv (by rw[e v hv];exact hp)⟩
theorem few:∀(n:Nat) (l:List Nat),l.Nodup->(∀x∈l,x<n)->l.length<=n
 |0,[],_,_=>ZC _
 |0,x::_,_,h=>Yg (h x (.head _)) (Nat.not_lt_zero _)
 |n+1,l,nd,h=>by
  have ih:=few n (l.filter λx=>decide (x≠n)) (nd.filter _) λx hx=>by
   obtain⟨h1,h2⟩:=Yz.mp hx;have:=h x h1;have:=Yf h2
   lia
  have key:∀m:List Nat,m.Nodup->m.length<=(m.filter λx=>decide (x≠n)).length+1:=by
   intro m;induction m with
   |nil=>intro _;simp
   |cons a m ihm =>
    intro hm;rw[List.nodup_cons]at hm;by_cases z:a=n
    ·have e:m.filter (λx=>decide (x≠n))=m:=List.filter_eq_self.mpr λx hx=>Ye λy=>hm.1 (by rw[z,<-y];exact hx);rw[List.filter_cons_of_neg (by simpa using z),e];simp
    ·rw[List.filter_cons_of_pos (by simpa using z)];have:=ihm hm.2;rw[Yq,Yq]
     lia
  have:=key l nd
  lia
theorem Rch.few(h:Rch rest src dst len op n pr R W nr):R.length<=n:=by
 have:=FL.few n (R.map (·.v)) h.nd λx hx=>by
  obtain⟨u,hu,rfl⟩:=Zh.mp hx;exact h.lt u (ZO _ hu)
 simpa using this
def Out(rest:Nat->Int)(src dst:Nat->Int->Nat)(len:Nat->Int->Int)(op:Nat->Int->Prop)(n:Nat)(R:List En):Prop :=
 (∃(R':List En) (e:En) (W:List En) (nr:Nat->Option Int) (pr:Nat->Int->Prop),R=R'++[e]/\Rch rest src dst len op n pr R W nr/\(∀k by_,op k by_->(∃u∈R',u.v=src k by_)->pr k by_)/\rest e.v<0) \/
 (∃(nr:Nat->Option Int) (pr:Nat->Int->Prop),Rch rest src dst len op n pr R [] nr/\(∀k by_,op k by_->(∃u∈R,u.v=src k by_)->pr k by_)/\∀u∈R,0<=rest u.v)
theorem Out.congr(h:Out rest src dst len op n R)(e:∀v,v<n->rest v=rest' v):Out rest' src dst len op n R:=by
 rcases h with⟨R',x,W,nr,pr,rfl,h,a,l⟩ | ⟨nr,pr,h,a,l⟩
 ·exact .inl (kB R' x W nr pr rfl (h.congr e) a (by rw[<-e _ (h.lt x (by simp))];exact l))
 ·exact .inr (aH nr pr (h.congr e) a (λu hu=>by rw[<-e _ (h.lt u (by simpa using hu))];exact l u hu))
end
structure zM(ws:List Way)(n:Nat)(ds:List (List (Nat×Int))):Prop where
 len:ds.length=n
 mem:∀(v:Nat) (l:List (Nat×Int)),ds[v]?=some l->∀(k:Nat) (by_:Int),(k,by_)∈l↔k<ws.length/\((by_=1/\aF ws k=v)\/(by_ = -1/\bF ws k=v))
 few:∀(v:Nat) (l:List (Nat×Int)),ds[v]?=some l->l.length<=2*ws.length
theorem zM.src{ws:List Way}{n:Nat}{ds:List (List (Nat×Int))}(h:zM ws n ds){v:Nat}{l:List (Nat×Int)}(hl:ds[v]?=some l){k:Nat}{by_:Int}(hm:(k,by_)∈l):k<ws.length/\(by_=1\/by_ = -1)/\sd (aF ws) (bF ws) k by_=v:=by
 obtain⟨h1,h2⟩:=(h.mem v l hl k by_).mp hm;rcases h2 with⟨rfl,e⟩ | ⟨rfl,e⟩
 ·exact(xPP h1 (.inl rfl) e)
 ·exact(xPP h1 (.inr rfl) e)
theorem zM.has{ws:List Way}{n:Nat}{ds:List (List (Nat×Int))}(h:zM ws n ds){k:Nat}{by_:Int}(hk:k<ws.length)(hb:by_=1\/by_ = -1){l:List (Nat×Int)}(hl:ds[sd (aF ws) (bF ws) k by_]?=some l):(k,by_)∈l:=by
 refine(h.mem _ l hl k by_).mpr ⟨hk,?_⟩;rcases hb with rfl | rfl
 ·exact .inl ⟨rfl,rfl⟩
 ·exact .inr ⟨rfl,rfl⟩
def rm(ws:List Way)(gs:List Int)(k:Nat)(by_:Int):Option Int:=if by_<0 then some (at0 gs k-loF ws k) else (hiF ws k).map λh=>h-at0 gs k
theorem EG{ws:List Way}{gs:List Int}{k:Nat}{by_:Int}(hk:k<ws.length)(hb:by_=1\/by_ = -1):opn ws.length (loF ws) (hiF ws) (at0 gs) k by_↔rm ws gs k by_≠some 0:=by
 unfold opn rm;rcases hb with rfl | rfl
 ·rw[Ya (by decide)];constructor
  ·rintro⟨_,⟨_,z⟩ | ⟨z,_⟩⟩
   ·intro y;obtain⟨h,e1,e2⟩:=Xv.mp y;exact z (by rw[e1];congr 1;lia)
   ·exact Yg z (by decide)
  ·intro z;refine⟨hk,.inl ⟨rfl,λy=>z ?_⟩⟩;rw[y];show some (at0 gs k-at0 gs k)=some 0;rw[Int.sub_self]
 ·rw[Yb (by decide)];constructor
  ·rintro⟨_,⟨z,_⟩ | ⟨_,z⟩⟩
   ·exact Yg z (by decide)
   ·intro y;have:=Option.some.inj y;exact z (by lia)
  ·intro z;refine⟨hk,.inr ⟨rfl,λy=>z ?_⟩⟩;congr 1;lia
end FL
namespace L2
open PySem PyProof.Rows NM
def wv(w:Way):List V:=[vn w.a,vn w.b,.int w.lo,vo w.hi,.int w.c]
def eK(H:Hp)(a:Addr)(ws:List Way):Prop:=∃rs:List Addr,H a=some (.lst (rs.map V.ref))/\rs.length=ws.length/\∀(i:Nat) w,ws[i]?=some w->∃r,rs[i]?=some r/\H r=some (.tup (wv w))
theorem eK.mono{H H':Hp}{a:Addr}{ws:List Way}(h:eK H a ws)(g:aJ H H'):eK H' a ws:=by
 obtain⟨rs,h1,h2,h3⟩:=h;exact(aQ rs (g _ _ h1) h2 (λi w hw=>by obtain⟨r,q1,q2⟩:=h3 i w hw;exact(xWP r q1 (g _ _ q2))))
structure gI(H:Hp)(p na wa:Addr)(ns:List Int)(ws:List Way):Prop where
 tp:H p=some (.tup [.ref na,.ref wa])
 n:H na=some (.lst (ns.map V.int))
 w:eK H wa ws
theorem gI.mono{H H':Hp}{p na wa:Addr}{ns:List Int}{ws:List Way}(h:gI H p na wa ns ws)(g:aJ H H'):gI H' p na wa ns ws:=⟨g _ _ h.tp,g _ _ h.n,h.w.mono g⟩
structure KS(n:Nat)(w:Way):Prop where
 a:w.a<n
 b:w.b<n
 lo : -1000<=w.lo/\w.lo<=1000
 hi:∀h,w.hi=some h->w.lo<=h/\h<=1000
 c : -1000<=w.c/\w.c<=1000
structure oR(ns:List Int)(ws:List Way):Prop where
 n:1<=ns.length
 n2:ns.length<=1000
 w2:ws.length<=1000
 z:ns.sum=0
 nb:∀x∈ns,-100000<=x/\x<=100000
 w:∀w∈ws,KS ns.length w
theorem lK{H:Hp}{rs:List Addr}{ws:List Way}{i:Nat}{r:Addr}(hl:rs.length=ws.length)(h3:∀(i:Nat) w,ws[i]?=some w->∃r,rs[i]?=some r/\H r=some (.tup (wv w)))(h:rs[i]?=some r):∃w,ws[i]?=some w/\H r=some (.tup (wv w)):=by
 have hi:i<ws.length:=by rw[<-hl];exact(Zj.mp h).1
 obtain⟨r',q1,q2⟩:=h3 i ws[i] (Zz hi);rw[h]at q1;cases q1;exact(xWP _ (Zz hi) q2)
theorem jC{ls:List Int}{i:Nat}{x:V}(h:(ls.map V.int)[i]?=some x):i<ls.length/\x=.int (at0 ls i):=by
 have hi:i<ls.length:=by
  have:=(Zj.mp h).1;simpa using this
 rw[bR hi]at h;exact⟨hi,(Option.some.inj h).symm⟩
end L2
variable{P:PySem.Program}{w:PySem.World}{K:PySem.W.Frag}{mg:PySem.Str->Option PySem.Value}{base:PySem.Heap}{t:L2.Adr}
namespace K32
open PySem L2 PyProof.Rows NM
def pC:Sp:=λvs H Q _=>∃(p na wa:Addr) (ns:List Int) (ws:List Way),vs=[.ref p]/\gI H p na wa ns ws/\oR ns ws/\Q .non H
theorem qT(T:Txt K mg t):Ok P w base T 43 1 pC:=by
 left
 obtain⟨p,na,wa,ns,ws,rfl,hN,hO,q⟩:=h;obtain⟨rs,e1,e2,e3⟩:=hN.w;refine(xWP _ (aS (eZ 1 nd (aN bK rfl (T.z 6) PySem.boot_len (aK (cP aG (pv 0) aM (λ_ _=>rfl)) aO)))
  (aS (eQ (bL bY (pv 1) aM (dH _)) (a0 mG) cE)
  (aS (eQ (bL e9 (aN (dR rfl) rfl (T.z 13) boot_sum (aK (cP aG (pv 0) aM (λ_ _=>rfl)) aO)) aM (dH _)) (a0 mG) cE)
  (a0 (i5 PassesOwn.never rfl (a7 (cP aG (pv 0) aM (λ_ _=>rfl))) (b7 (i:=2) nd rfl (Or.inl rfl)) (aS (eQ (iL (oQ (nN (jM k9 jI aM (cP aG (pv 2) aM (λ_ _=>rfl)) (pv 1)) (mF (jM k9 jI aM (cP aG (pv 2) aM (λ_ _=>rfl)) (pv 1)))))) (a0 mG) cE)
  (a0 (eQ (oQ (nN (bL fX (cP aG (pv 2) aM (λ_ _=>rfl)) nP (dH _)) (mF (bL jI (cP aG (pv 2) aM (λ_ _=>rfl)) (cP aG (pv 2) aM (λ_ _=>rfl)) (dH _))))) (a0 mG) cE)))))))) ?_)
 have hT:SqT H p [.ref na,.ref wa]:=SqT.of hN.tp;have hn1:=hO.n;refine(bO _ _ hT rfl na _ rfl (.inl (SqL.of hN.n)) ?_);have el:(((ns.map V.int).length:Nat):Int)=(ns.length:Int):=by rw[Zq]
 show b0 1 (V.int (((ns.map V.int).length:Nat):Int)) _ _ _;rw[el];refine(iFb (Yc (λz=>by have:=V.int.inj z;lia)) ?_);refine(bO _ _ hT rfl na _ rfl (SqL.of hN.n) ?_);refine(iFb (by rw[hO.z];rfl) ?_)
 let Pv1:Nat->L2.St->L2.Hp->Prop:=λ_ σ H'=>H'=H/\∃o:Option V,σ=[some (.ref p),some (.int ns.length),o]
 refine(aH _ _ hT rfl ⟨ ⟨_,SqL.of e1⟩,cR (xs:=rs.map V.ref) Pv1 ⟨rfl,none,rfl⟩ (λi σ H' _ h=>by obtain⟨rfl,_⟩:=h;exact SqL.of e1) ?_ ?_⟩)
 ·rintro i x σ H' hx ⟨rfl,o,rfl⟩;obtain⟨r,hr1,rfl⟩:=eU hx;obtain⟨w,hw,er⟩:=lK e2 e3 hr1;have ok:=hO.w w (Zg hw);have hW:SqT H' r (wv w):=SqT.of er;have ha:=ok.a;have hb:=ok.b;refine(aH _ _ hW rfl (iTb (Ye (by lia)) (iTb (Ye (by lia)) ?_)));refine(aH _ _ hW rfl (iTb (Ye (by lia)) (?_)));refine iFb (by rw[Ye (show(w.b:Int)<(ns.length:Int) by lia)];rfl) ?_;refine(aP _ (vo w.hi) hW rfl rfl ?_);rcases hh:w.hi with _ | h
  ·exact(iFb (by rfl) (iF ⟨rfl,_,rfl⟩))
  ·have e4:atI (wv w) 3=some (.int h):=by show some (vo w.hi)=_;rw[hh];rfl
   have:=ok.hi h hh;exact(iTb (by rfl) (bO _ _ hW e4 _ _ hW rfl (iFb (Yc (by lia)) ⟨rfl,_,rfl⟩)))
 ·rintro σ H' ⟨rfl,o,rfl⟩;exact q
end K32
namespace L2
open PySem PySem.Spec PyProof.Rows
section
variable{X:Cx}
def OF:V->V->Hp->VK->Prop:=λo i H Q=>o.gr λp=>i.gi λk=>∃xs v,SqL H p xs/\0<=k/\atI xs k=some v/\Q v H
theorem gE:O4 X (OF):=by
 intro pins s σ H o i ov iv Q I ro ri h;obtain⟨p,rfl,z1⟩:=bN h;obtain⟨k,rfl,z2⟩:=cU z1;obtain⟨xs,z,hq,h0,he,q⟩:=z2;cases ro;obtain⟨t,rfl⟩:=ri;obtain⟨its,r,pl,hz⟩:=I.list hq;obtain⟨j,h1,h2,h3,h4,h5⟩:=pN he;obtain⟨w,ew,rw'⟩:=r.get h2;have hl:=r.length;have hn:=jA;have hj:k.toNat=j:=by
  rw[seqIndex_of h0 h5]at h1;exact Option.some.inj h1
 exact wpAny_getItem_list pl.isList h0 (by lia) (by rw[hj];simpa using ew) (aH z H I rw' q)
end
end L2
namespace K32
open PySem L2 PyProof.Rows NM FL
def mX(wa pa ga ra da:Addr):List (Str×V):=bC "doors" (.ref da) (bC "resting" (.ref ra) (bC "going" (.ref ga) (bC "prices" (.ref pa) (bC "ways" (.ref wa) []))))
theorem uS(wa pa ga ra da:Addr):(mX wa pa ga ra da).lookup ("ways" : Str)=some (.ref wa):=by
 unfold mX;rw[a9,Ya (by decide +kernel),a9,Ya (by decide +kernel),a9,Ya (by decide +kernel),a9,Ya (by decide +kernel),a9,Yb rfl]
theorem nV(wa pa ga ra da:Addr):(mX wa pa ga ra da).lookup ("prices" : Str)=some (.ref pa):=by
 unfold mX;rw[a9,Ya (by decide +kernel),a9,Ya (by decide +kernel),a9,Ya (by decide +kernel),a9,Yb rfl]
theorem mY(wa pa ga ra da:Addr):(mX wa pa ga ra da).lookup ("going" : Str)=some (.ref ga):=by
 unfold mX;rw[a9,Ya (by decide +kernel),a9,Ya (by decide +kernel),a9,Yb rfl]
theorem eI(wa pa ga ra da:Addr):(mX wa pa ga ra da).lookup ("resting" : Str)=some (.ref ra):=by
 unfold mX;rw[a9,Ya (by decide +kernel),a9,Yb rfl]
theorem F3(wa pa ga ra da:Addr):(mX wa pa ga ra da).lookup ("doors" : Str)=some (.ref da):=by
 unfold mX;rw[a9,Yb rfl]
structure SA where
 w:Addr
 p:Addr
 g:Addr
 r:Addr
 d:Addr
 rows:List Addr
def rQ(H:Hp)(a:Addr)(l:List (Nat×Int)):Prop:=∃rs:List Addr,H a=some (.lst (rs.map V.ref))/\rs.length=l.length/\∀(j:Nat) q,l[j]?=some q->∃r,rs[j]?=some r/\H r=some (.tup [vn q.1,.int q.2])
theorem rQ.keep{H H':Hp}{a:Addr}{l:List (Nat×Int)}(h:rQ H a l)(k:∀b xs,(b=a->H b=some (.lst xs)->H' b=some (.lst xs))/\(H b=some (.tup xs)->H' b=some (.tup xs))):rQ H' a l:=by
 obtain⟨rs,h1,h2,h3⟩:=h;refine(aQ rs ((k a _).1 rfl h1) h2 (λj q hq=>?_));obtain⟨r,e1,e2⟩:=h3 j q hq;exact(xWP r e1 ((k r _).2 e2))
structure SAt(C:Addr)(H:Hp)(s:Addr)(A:SA)(ws:List Way)(ds:List (List (Nat×Int)))(ps gs rs:List Int):Prop where
 ob:∃dx,H s=some (.ins C dx (mX A.w A.p A.g A.r A.d))
 w:eK H A.w ws
 p:H A.p=some (.lst (ps.map V.int))
 g:H A.g=some (.lst (gs.map V.int))
 r:H A.r=some (.lst (rs.map V.int))
 d:H A.d=some (.lst (A.rows.map V.ref))
 dl:A.rows.length=ds.length
 dr:∀(i:Nat) l,ds[i]?=some l->∃a,A.rows[i]?=some a/\rQ H a l
 np:A.p∉A.w::A.d::A.rows
 ng:A.g∉A.w::A.d::A.rows
 nr:A.r∉A.w::A.d::A.rows
 pg:A.p≠A.g
 pr:A.p≠A.r
 gr:A.g≠A.r
theorem SAt.into{C:Addr}{H H':Hp}{s:Addr}{A:SA}{ws:List Way}{ds:List (List (Nat×Int))}{ps gs rs ps' gs' rs':List Int}(h:SAt C H s A ws ds ps gs rs)(k:∀b o,b≠A.p->b≠A.g->b≠A.r->(∀z,o≠.dK z)->H b=some o->H' b=some o)
  (p:H' A.p=some (.lst (ps'.map V.int))) (g:H' A.g=some (.lst (gs'.map V.int))) (r:H' A.r=some (.lst (rs'.map V.int))):SAt C H' s A ws ds ps' gs' rs':=by
 have nl:∀b o,(∀z,o≠.lst z)->(∀z,o≠.dK z)->H b=some o->H' b=some o:=λb o z z' e=>k b o (bZ e h.p (z _)) (bZ e h.g (z _)) (bZ e h.r (z _)) z' e;have mm:∀b xs,b∈A.w::A.d::A.rows->H b=some (.lst xs)->H' b=some (.lst xs):=λb xs z e=>k b _ (λy=>h.np (y▸z)) (λy=>h.ng (y▸z)) (λy=>h.nr (y▸z)) (λy z=>by cases z) e;obtain⟨dx,e⟩:=h.ob;obtain⟨wr,w1,w2,w3⟩:=h.w;refine⟨⟨dx,nl _ _ (λz y=>by cases y) (λz y=>by cases y) e⟩,(aQ wr (mm _ _ (by simp) w1) w2 (λi w hw=>?_)),p,g,r,mm _ _ (by simp) h.d,h.dl,λi l hl=>?_,h.np,h.ng,h.nr,h.pg,h.pr,h.gr⟩
 ·obtain⟨r,q1,q2⟩:=w3 i w hw;exact(xWP r q1 (nl _ _ (λz y=>by cases y) (λz y=>by cases y) q2))
 ·obtain⟨a,q1,q2⟩:=h.dr i l hl;refine(xWP a q1 (q2.keep λb xs=>⟨λz=>?_,nl b _ (λz y=>by cases y) (λz y=>by cases y)⟩));subst z;exact mm _ _ (Zw _ (Zw _ (Zg q1)))
theorem SAt.mono{C:Addr}{H H':Hp}{s:Addr}{A:SA}{ws:List Way}{ds:List (List (Nat×Int))}{ps gs rs:List Int}(h:SAt C H s A ws ds ps gs rs)(k:aJ H H'):SAt C H' s A ws ds ps gs rs :=
 h.into (λb o _ _ _ _ e=>k b o e) (k _ _ h.p) (k _ _ h.g) (k _ _ h.r)
theorem SAt.way{C:Addr}{H:Hp}{s:Addr}{A:SA}{ws:List Way}{ds:List (List (Nat×Int))}{ps gs rs:List Int}(h:SAt C H s A ws ds ps gs rs){k:Nat}{w:Way}(hw:ws[k]?=some w):∃xs r,H A.w=some (.lst xs)/\atI xs (k:Int)=some (.ref r)/\H r=some (.tup (wv w)):=by
 obtain⟨wr,w1,w2,w3⟩:=h.w;obtain⟨r,q1,q2⟩:=w3 k w hw;exact(aH _ r w1 (bM (by rw[Zk,q1];rfl)) q2)
section
def p7:Sp:=λvs H Q _=>∃(r pa:Addr) (w:Way) (ps:List Int),vs=[.ref r,.ref pa]/\SqT H r (wv w)/\H pa=some (.lst (ps.map V.int))/\w.a<ps.length/\w.b<ps.length/\Q (.int (NM.rt ps w)) H
theorem pJ(T:Txt K mg t):Ok P w base T 27 1 (p7):=by
 left
 obtain⟨r,pa,w,ps,rfl,hr1,hp,ha,hb,q⟩:=h;refine(xWP _ (by exists aX,aG,0,aI,1,aG,0,aI,1,aG,0) ?_);refine(bO _ _ hr1 rfl _ _ hr1 rfl (aH _ _ (SqL.of hp) (aU ha rfl) ?_));exact(aH _ _ hr1 rfl (aH _ _ (SqL.of hp) (aU hb rfl) q))
structure SOk(n:Nat)(ws:List Way)(ds:List (List (Nat×Int)))(ps gs rs:List Int):Prop where
 pl:ps.length=n
 gl:gs.length=ws.length
 rl:rs.length=n
 w:∀w∈ws,w.a<n/\w.b<n
 d:zM ws n ds
def z8(C:Addr):Sp:=λvs H Q _=>∃(s:Addr) (A:SA) (ws:List Way) (ds:List (List (Nat×Int))) (ps gs rs:List Int) (k:Nat) (by_:Int),vs=[.ref s,vn k,.int by_]/\SAt C H s A ws ds ps gs rs/\k<ws.length/\Q (vn (fr (aF ws) (bF ws) k by_)) H
theorem yS(T:Txt K mg t):Ok P w base T 36 1 (z8 (t.c 0)):=by
 left
 obtain⟨s',A',ws,ds,ps,gs,rs,k,by_,rfl,S,hk,q⟩:=h;refine(xWP _ (by exists aG,aI,dN (pv 0) rfl,1,jQ ?_ aM aM,2) ?_);obtain⟨dx,ob⟩:=S.ob;have hw:ws[k]?=some ws[k]:=Zz hk;obtain⟨xs,r,h1,h2,h3⟩:=S.way hw;refine(aY _ dx _ _ ob T.x.l T.x.n0 (uS _ _ _ _ _) (aH _ _ (SqL.of h1) h2 ?_));unfold fr at q;rw[oP hw,rL hw]at q;refine i2 (λc=>?_) (λc=>?_)
 ·rw[Yb (Yf c)]at q;exact(aH _ _ (SqT.of h3) rfl q)
 ·rw[Ya (λz=>c (Ye z))]at q;exact(aH _ _ (SqT.of h3) rfl q)
def yA(C:Addr):Sp:=λvs H Q _=>∃(s:Addr) (A:SA) (ws:List Way) (ds:List (List (Nat×Int))) (ps gs rs:List Int) (k:Nat) (by_:Int),vs=[.ref s,vn k,.int by_]/\SAt C H s A ws ds ps gs rs/\k<ws.length/\gs.length=ws.length/\Q (vo (rm ws gs k by_)) H
theorem AK(T:Txt K mg t):Ok P w base T 37 1 (yA (t.c 0)):=by
 left
 obtain⟨s',A',ws,ds,ps,gs,rs,k,by_,rfl,S,hk,hl,q⟩:=h;refine(xWP _ (by exists 3,aI,dN (pv 0) rfl,1,2,aI,dN (pv 0) rfl,1,aG,3,eX,aG,3,aG,3,aI,dN (pv 0) rfl,1) ?_);obtain⟨dx,ob⟩:=S.ob;have hw:ws[k]?=some ws[k]:=Zz hk;obtain⟨xs,r,h1,h2,h3⟩:=S.way hw;unfold rm at q;rw[yZ hw,uR hw]at q;have e2:atI (wv ws[k]) 3=some (vo ws[k].hi):=rfl;refine(aY _ dx _ _ ob T.x.l T.x.n0 (uS _ _ _ _ _) (aH _ _ (SqL.of h1) h2 ?_));refine(i2 (λc=>?_) (λc=>?_))
 ·rw[Yb (Yf c)]at q;exact(aY _ dx _ _ ob T.x.l T.x.n2 (mY _ _ _ _ _) (bO _ _ (SqL.of S.g) (aU (by lia) rfl) _ _ (SqT.of h3) rfl q))
 ·rw[Ya (λz=>c (Ye z))]at q;refine(aP _ _ (SqT.of h3) e2 rfl ?_);rcases hh:ws[k].hi with _ | h
  ·rw[hh]at q;exact(iT q)
  ·rw[hh]at q e2;exact(iF (gZ _ _ (SqT.of h3) e2 _ dx _ _ ob (cH T.x.l T.x.n2 (mY _ _ _ _ _) (aH _ _ (SqL.of S.g) (aU (by lia) rfl) q))))
end
def kl(e:En):List Int:=[e.d,(e.v:Int),(e.k:Int),e.by_]
abbrev ev(e:En):List V:=(kl e).map V.int
abbrev wr(W:List (Addr×En)):List V:=W.map λx=>V.ref x.1
def kvR(R:List (Addr×En)):List (Key×V):=R.map λx=>(Sum.inl (x.2.v:Int),V.ref x.1)
abbrev es(R:List (Addr×En)):List En:=R.map (·.2)
theorem BK{R:List (Addr×En)}{v:Nat}(h:∀x∈R,x.2.v≠v):eL (kvR R) (Sum.inl (v:Int))=none:=by
 induction R with
 |nil=>rfl
 |cons x R ih =>
  show eL ((Sum.inl (x.2.v:Int),V.ref x.1)::kvR R) _=none;rw[dJ (λz=>h x (.head _) (by have:=Sum.inl.inj z;lia))];exact ih λy hy=>h y (.tail _ hy)
theorem nI{R:List (Addr×En)}(nd:((es R).map (·.v)).Nodup){x:Addr×En}(hx:x∈R){v:Int}(hv:v=(x.2.v:Int)):eL (kvR R) (Sum.inl v)=some (.ref x.1):=by
 subst hv;induction R with
 |nil=>cases hx
 |cons y R ih =>
  show eL ((Sum.inl (y.2.v:Int),V.ref y.1)::kvR R) _=_;have nd:(y.2.v::(es R).map (·.v)).Nodup:=nd;rw[List.nodup_cons]at nd;rcases Zn.mp hx with rfl | hx
  ·exact dP rfl
  ·rw[dJ (λz=>nd.1 ?_)]
   ·exact ih nd.2 hx
   ·have:y.2.v=x.2.v:=by have:=Sum.inl.inj z;lia
    rw[this];exact Zh.mpr (xWP x.2 (Zh.mpr (xWP x hx rfl)) rfl)
theorem DC{R:List (Addr×En)}{v:Nat}(h:(eL (kvR R) (Sum.inl (v:Int))).isSome=true):∃x∈R,x.2.v=v:=by
 apply ZS;intro z;rw[BK λx hx e=>z (xWP x hx e)]at h;cases h
theorem wH(R:List (Addr×En)):(kvR R).map (·.1)=((es R).map λe=>(e.v:Int)).map Sum.inl:=by
 unfold kvR;rw[Ym,Ym,Ym];rfl
section
def KB:Sp:=λvs H Q _=>∃(wl ta:Addr) (W:List (Addr×En)) (e:En),vs=[.ref wl,.ref ta]/\H wl=some (.lst (wr W))/\(∀x∈W,H x.1=some (.tup (ev x.2)))/\H ta=some (.tup (ev e))/\Dn (W.map λx=>kl x.2)/\W.length<1000000 /\
 ∀W':List (Addr×En),W'.Perm ((ta,e)::W)->Dn (W'.map λx=>kl x.2)->Q .non (upd H wl (.lst (wr W')))
theorem MJ(T:Txt K mg t):Ok P w base T 38 1 KB:=by
 left
 obtain⟨wl,ta,W,e,rfl,hW,hT,hta,dn,hl,q⟩:=h;refine(xWP _ (aS (eZ 2 nd aM)
  (aS (eZ 3 nd (aN bK rfl (T.z 6) PySem.boot_len (aK (pv 0) aO)))
  (aS (vM PassesOwn.never (bL jI (pv 2) (pv 3) (dH _)) (aS (eZ 4 nd (bI bE (bI aX (pv 2) (pv 3)) aM))
  (a0 (eQ (bL (MG hr.units0) (cP aI (pv 0) (pv 4) (λ_ _=>rfl)) (pv 1) (dH _)) (a0 (eZ 2 nd (bI aX (pv 4) aM))) (a0 (eZ 3 nd (pv 4)))))))
  (a0 (kK (iE YO PySem.F.slot_list_insert PySem.F.type_list_insert gW (pv 0) (aK (pv 2) (aK (pv 1) aO)))))))) ?_)
 refine(aH wl _ rfl (.inl (SqL.of hW)) ?_);have el:(((wr W).length:Nat):Int)=(W.length:Int):=by rw[Zq]
 show b0 3 (V.int (((wr W).length:Nat):Int)) _ _ _;rw[el];have up0:∀(j:Nat) x,j<0->(W.map λx=>kl x.2)[j]?=some x->SO.lx (kl e) x=true:=λj x z=>Yg z (Nat.not_lt_zero _);have dn0:∀(j:Nat) x,W.length<=j->(W.map λx=>kl x.2)[j]?=some x->SO.lx (kl e) x=false:=λj x z y=>by
  rw[Zr (by rw[Zq];exact z)]at y;cases y
 let Wv1:Nat->L2.St->L2.Hp->Prop:=λm σ H'=>H'=H/\∃(f b:Nat) (fi bi:Int) (o:Option V),m=b-f/\fi=f/\bi=b/\f<=b/\b<=W.length/\(∀(j:Nat) x,j<f->(W.map λx=>kl x.2)[j]?=some x->SO.lx (kl e) x=true) /\
  (∀(j:Nat) x,b<=j->(W.map λx=>kl x.2)[j]?=some x->SO.lx (kl e) x=false)/\σ=[some (.ref wl),some (.ref ta),some (.int fi),some (.int bi),o]
 refine(xWP Wv1 (pS _ rfl 0 W.length _ _ none rfl rfl (gK rfl (YZ _) (ZC _) up0 dn0 rfl)) ?_);rintro m σ H' ⟨rfl,f,b,fi,bi,o,rfl,rfl,rfl,hfb,hb,hup,hdn,rfl⟩;refine(i2 (λc=>?_) (λc=>?_))
 ·have c':(f:Int)<(b:Int):=Yf c;refine(xWP _ (λσ' H'' h=>h) ?_);have hm:(f+b) / 2<W.length:=by lia
  have gm:W[(f+b) / 2]?=some W[(f+b) / 2]:=Zz hm;have gk:(W.map λx=>kl x.2)[(f+b) / 2]?=some (kl W[(f+b) / 2].2):=by rw[Zk,gm];rfl
  have ei:((f:Int)+(b:Int)) / 2=(((f+b) / 2:Nat):Int):=by lia
  refine⟨⟨by decide,by decide⟩,?_⟩;refine(aH _ (.ref W[(f+b) / 2].1) (SqL.of hW) (by rw[ei];exact bM (by rw[Zk,gm];rfl)) (aH (kl W[(f+b) / 2].2) (kl e) (SqT.of (hT _ (Zp _))) (SqT.of hta) ?_));refine i2 (λz=>?_) (λz=>?_)
  ·exact(pT (b-((f+b) / 2+1)) (by omega) rfl ((f+b) / 2+1) b _ _ _ rfl (iA (by lia) rfl (by lia) hb (JI dn gk z) hdn rfl))
  ·exact(pT ((f+b) / 2-f) (by lia) rfl f ((f+b) / 2) _ _ _ rfl (iA rfl ei (by lia) (by lia) hup (JJ dn gk (by simpa using z)) rfl))
 ·have c':¬(f:Int)<(b:Int):=λz=>c (Ye z);have e':f=b:=by lia
  subst e';refine(BJ (.inl ⟨rfl,_,SqL.of hW⟩) (wr W) f (.ref ta) rfl hW (by rw[Zq];exact hb) (by rw[Zq];exact Xz hl (by decide)) ?_);have q':=q (W.take f++(ta,e)::W.drop f) (by
   have p1:(W.take f++(ta,e)::W.drop f).Perm ((ta,e)::(W.take f++W.drop f)):=List.perm_middle
   rwa [List.take_append_drop]at p1) (by
   rw[Zt,ZI,List.map_take,List.map_drop];exact LZ dn (by rw[Zq];exact hb) hup hdn)
  have ew:wr (W.take f++(ta,e)::W.drop f)=aW (wr W) f (.ref ta):=by
   unfold aW wr;rw[Zt,ZI,List.map_take,List.map_drop]
  rw[ew]at q';exact q'
theorem CJ{E:List En}{x:En}(nd:((E++[x]).map (·.v)).Nodup)(D:Int)(v:Nat):lift (E++[x]) D v=if v=x.v then D-x.d else lift E D v:=by
 by_cases z:v=x.v
 ·rw[Yb z,z,iG nd (by simp)]
 ·rw[Ya z];unfold lift;rw[List.find?_append];have:[x].find? (λu=>u.v==v)=none:=List.find?_eq_none.mpr λu hu y=>by
   have:u=x:=by simpa using hu
   subst this;exact z (Yi y).symm
  rw[this,Option.or_none]
def zZ(C:Addr):Sp:=λvs H Q _=>∃(s d:Addr) (A:SA) (ws:List Way) (ds:List (List (Nat×Int))) (ps gs rs:List Int) (R:List (Addr×En)) (x:Addr×En),vs=[.ref s,.ref d,vn x.2.v]/\SAt C H s A ws ds ps gs rs/\H d=some (.dK (kvR R))/\(∀y∈R,H y.1=some (.tup (ev y.2))/\y.2.v<ps.length)/\((es R).map (·.v)).Nodup/\x∈R /\
 ∀(H':Hp) (ps':List Int),(∀b o,b≠A.p->b≠d->H b=some o->H' b=some o)->H' A.p=some (.lst (ps'.map V.int))->Rd H' d (.dK (kvR R))->ps'.length=ps.length->(∀v,at0 ps' v=at0 ps v+lift (es R) x.2.d v)->Q .non H'
theorem E7(T:Txt K mg t):Ok P w base T 39 1 (zZ (t.c 0)):=by
 left
 obtain⟨s',d,A',ws,ds,ps,gs,rs,R,x,rfl,S,hd,hR,ndp,hx,q⟩:=h;have hu:=AV hr;refine(xWP _ (by exists EV (pv 1),3,4,iC ?_ (pv 3) gE ?_ jX set_list,dN (pv 0) rfl,aG,i6 hu (pv 1) (pv 2) (λ_ _=>rfl),aG,4) ?_);refine(xWP _ hd (λo=>?_));obtain⟨dx,ob⟩:=S.ob;have npd:A'.p≠d:=bZ S.p hd (by intro z;cases z);refine CS (λi σ H'=>(∀b o,b≠A'.p->b≠d->H b=some o->H' b=some o)/\H' d=some (.frz o (.dK (kvR R)))/\(∃ps':List Int,H' A'.p=some (.lst (ps'.map V.int))/\ps'.length=ps.length/\∀v,at0 ps' v=at0 ps v+lift ((es R).take i) x.2.d v)/\∃o3 o4:Option V,σ=[some (.ref s'),some (.ref d),some (vn x.2.v),o3,o4])
  (cH (λb o' _ h2 h=>by rw[aE h2];exact h) aA (aQ ps (by rw[aE npd];exact S.p) rfl (λv=>by rw[List.take_zero];show _=_+(0:Int);lia)) (xWW _ _ rfl)) (λi σ H' _ h=>h.2.1) ?_ ?_
 ·rintro i p σ H' Tp hp ⟨k1,kd,⟨ps',e1,l1,a1⟩,o3,o4,rfl⟩ hTp;unfold kvR at hp;rw[Zk]at hp;obtain⟨y,hy,rfl⟩:=Xv.mp hp;have my:=Zg hy;have gT:=aB hTp (.tup [kV (Sum.inl (y.2.v:Int)),.ref y.1]);have ny:∀z∈R,z.1≠A'.p/\z.1≠d:=λz hz=>⟨bZ (hR z hz).1 S.p (by intro z;cases z),bZ (hR z hz).1 hd (by intro z;cases z)⟩
  have tup:∀z∈R,(upd H' Tp (.tup [kV (Sum.inl (y.2.v:Int)),.ref y.1])) z.1=some (.tup (ev z.2)):=λz hz=>gT _ _ (k1 _ _ (ny z hz).1 (ny z hz).2 (hR z hz).1);have ob':=gT _ _ (k1 _ _ (bZ ob S.p (by intro z;cases z)) (bZ ob hd (by intro z;cases z)) ob);have hv:=(hR y my).2;refine(aQ _ (SqT.of aA) rfl ?_);refine(aY _ dx _ _ ob' T.x.l T.x.n1 (nV _ _ _ _ _) (aP _ _ (SqL.of (gT _ _ e1)) (by show 0<=(y.2.v:Int);lia) (aU (j:=y.2.v) (by lia) rfl) ?_));refine(xWP (.ref x.1) (by have:=iO.r (H:=upd H' Tp (.tup [kV (Sum.inl (y.2.v:Int)),.ref y.1])) (a:=d) (kvs:=kvR R) (k:=Sum.inl (x.2.v:Int)) (.inr ⟨o,gT _ _ kd⟩);rw[nI ndp hx rfl]at this;exact this) (aH _ _ (SqT.of (tup x hx)) rfl ?_));refine(aH _ _ (SqT.of (tup y my)) rfl (aH _ y.2.v (gT _ _ e1) (fV (by rw[Zq];lia) rfl) ?_));have e2:=gT _ _ e1;refine(cH (λb o' h1 h2 h=>by rw[aE h1];exact gT _ _ (k1 b o' h1 h2 h)) (by rw[aE npd.symm];exact gT _ _ kd) (aQ (ps'.set y.2.v (at0 ps' y.2.v+(x.2.d-y.2.d))) (by rw[aA,ZG]) (by rw[ZP];exact l1) (λv=>?_)) (xWW _ _ rfl));have ey:(es R)[i]?=some y.2:=by rw[Zk,hy];rfl
  obtain⟨hi,ei⟩:=Zj.mp ey;have tk:(es R).take (i+1)=(es R).take i++[y.2]:=by rw[List.take_succ,ey];rfl
  have ndt:(((es R).take i++[y.2]).map (·.v)).Nodup:=by
   rw[<-tk,List.map_take];exact(List.take_sublist _ _).nodup ndp
  rw[tk,CJ ndt,m8 (by lia)];by_cases z:v=y.2.v
  ·subst z;rw[Yb rfl,Yb rfl,a1];have:lift ((es R).take i) x.2.d y.2.v=0:=qX (λu hu e=>by
    rw[Zt,List.nodup_append]at ndt;exact ndt.2.2 u.v (Zh.mpr (xWP u hu rfl)) y.2.v (by simp) e) _
   lia
  ·rw[Ya z,Ya z];exact a1 v
 ·rintro σ H' ⟨k1,kd,⟨ps',e1,l1,a1⟩,o3,o4,rfl⟩;have ek:(kvR R).length=(es R).length:=by unfold kvR;rw[Zq,Zq]
  rw[ek,Yv]at a1;exact q H' ps' k1 e1 (.inr ⟨o,kd⟩) l1 a1
end
theorem rN{xs:List V}{x:V}(h:xs.getLast?=some x):atI xs (-1)=some x:=by
 have hn:xs≠[]:=λz=>by rw[z]at h;cases h
 have hl:0<xs.length:=List.length_pos_iff.mpr hn;rw[List.getLast?_eq_getElem?]at h;unfold atI ixN;rw[Ya (by lia),Yb (by lia)];show xs[((-1:Int)+(xs.length:Int)).toNat]?=_;rw[show((-1:Int)+(xs.length:Int)).toNat=xs.length-1 by lia];exact h
theorem AY(a b:Nat->Nat)(k:Nat){by_:Int}(h:by_=1\/by_ = -1):fr a b k (-by_)=sd a b k by_:=by
 rcases h with rfl | rfl<;>rfl
theorem oK(x:Int)(q:Nat×Int):∀(bs:List (Nat×Int)) (g:Nat->Int) (j:Nat),eA g x (bs++[q]) j=eA g x bs j+if j=q.1 then q.2*x else 0
 |[],g,j=>rfl
 |p::bs,g,j=>oK x q bs _ j
theorem rQ.mono{H H':Hp}{a:Addr}{l:List (Nat×Int)}(h:rQ H a l)(g:aJ H H'):rQ H' a l:=h.keep λb xs=>⟨λ_=>g _ _,g _ _⟩
section
def DU(C:Addr):Sp:=λvs H Q _=>∃(s d:Addr) (A:SA) (ws:List Way) (ds:List (List (Nat×Int))) (ps gs rs:List Int) (R:List (Addr×En)) (x:Addr×En) (i c:Nat) (bs:List (Nat×Int)),vs=[.ref s,.ref d,vn x.2.v]/\SAt C H s A ws ds ps gs rs/\Rd H d (.dK (kvR R))/\(∀y∈R,H y.1=some (.tup (ev y.2)))/\((es R).map (·.v)).Nodup/\R[i]?=some x/\Back (sd (aF ws) (bF ws)) (es R) i bs c /\
 (∀q∈bs,q.1<ws.length/\(q.2=1\/q.2 = -1))/\bs.length<=1000/\∀(l:Addr) (H':Hp),H l=none->aJ H H'->rQ H' l bs->Q (.ref l) H'
theorem IQ(T:Txt K mg t)(G_far_side:Ok P w base T 36 1 (z8 (t.c 0))):Ok P w base T 40 2 (DU (t.c 0)):=by
 left
 obtain⟨s',d,A',ws,ds,ps,gs,rs,R,x,i,c,bs,rfl,S,hd,hR,ndp,hi,hB,hbs,hbl,q⟩:=h;have hu:=AV hr;refine(xWP _ (by exists 3,4,i6 hu (pv 1) (pv 2) (λ_ _=>rfl),e9,aG,4,3,aG,4,aG,4,4,i6 hu (pv 1) ?_ (λ_ _=>rfl),bT G_far_side hr (T.f 36) aZ ?_,0,aG,4,aG,4,3) ?_);refine⟨(by show 0<=ZW;decide),λl hl=>?_⟩;have g1:=aB hl (.lst []);have rd:∀{H':Hp},aJ H H'->Rd H' d (.dK (kvR R)):=λ{H'} g=>hd.imp (g _ _) λ⟨o,z⟩=>⟨o,g _ _ z⟩
 have dg:∀{H':Hp}{y:Addr×En}{v:Int},aJ H H'->y∈R->v=(y.2.v:Int)->iO H' d (.int v) (some (.ref y.1)):=λ{H' y v} g hy hv=>by
  have:=iO.r (k:=Sum.inl v) (rd g);rw[nI ndp hy hv]at this;exact this
 have mx:=Zg hi;refine(xWP _ (dg g1 mx rfl) ?_)
 let Wv1:Nat->L2.St->L2.Hp->Prop:=λm σ H'=>∃(j:Nat) (y:Addr×En) (b1 b2:List (Nat×Int)),m=b2.length/\R[j]?=some y/\Back (sd (aF ws) (bF ws)) (es R) j b2 c/\bs=b1++b2/\aJ H H'/\rQ H' l b1/\σ=[some (.ref s'),some (.ref d),some (vn x.2.v),some (.ref l),some (.ref y.1)]
 refine(xWP Wv1 (bB _ i x ([]) bs rfl hi hB rfl (xPP g1 (aQ ([]) aA rfl (λj q hq=>by simp at hq)) rfl)) ?_);rintro m σ H' ⟨j,y,b1,b2,rfl,hj,hB',rfl,g2,dr,rfl⟩;have my:=Zg hj;have ey:(es R)[j]?=some y.2:=by rw[Zk,hj];rfl
 have ty:=g2 _ _ (hR y my);refine(aH _ _ (SqT.of ty) rfl ?_);cases hB' with
 |stop g hb =>
  rw[ey]at g;cases g;refine iNS (by rw[hb]) (?_);rw[List.append_nil]at q;exact q l H' hl g2 dr
 |@step _ j' _ e u b2' g hb hj' gu uv hB'' =>
  rw[ey]at g;cases g;obtain⟨y',hy',eu⟩:=Xv.mp (show(R[j']?).map (·.2)=some u by rw[<-Zk];exact gu);have my':=Zg hy';obtain⟨hk,h1⟩:=hbs (y.2.k,y.2.by_) (by simp);refine iTb (by rw[Yc (λz=>hb (V.int.inj z))];rfl) (xWP _ (λσ' H'' h=>h) ?_);obtain⟨rs',d1,d2,d3⟩:=dr;refine(xS (.inl ⟨rfl,_,SqL.of d1⟩) _ _ (SqT.of ty) rfl _ _ (SqT.of ty) rfl ⟨ (by show 2<=ZW;decide),λTq hTq=>?_⟩);have g3:=aB hTq (.tup [vn y.2.k,.int y.2.by_]);have hlen:(rs'.map V.ref).length<ZW:=by
   rw[Zq,d2];rw[Zm,Yq]at hbl;exact Xz (by lia:b1.length<1000) (by decide)
  refine(aQ _ (g3 _ _ d1) hlen ?_);have nlT:Tq≠l:=(aC d1 hTq).symm;have g4:aJ H (upd (upd H' Tq (.tup [vn y.2.k,.int y.2.by_])) l (.lst (rs'.map V.ref++[.ref Tq]))):=λb o h=>by rw[aE (aC h hl)];exact g3 _ _ (g2 _ _ h)
  have ntl:∀{r:Addr}{xs:List V},H' r=some (.tup xs)->r≠l:=λh=>bZ h d1 (by intro z;cases z);have ty4:=g4 _ _ (hR y my);refine(bO _ _ (SqT.of ty4) rfl _ _ (SqT.of ty4) rfl (b8 s' A' ws ds ps gs rs y.2.k (-y.2.by_) (cH rfl (S.mono g4) hk ?_)));refine(xWP _ (dg g4 my' (by rw[AY _ _ _ h1,<-uv,eu])) ?_);refine(xJ b2'.length (by rw[Yq];lia) j' y' (b1++[(y.2.k,y.2.by_)]) b2' rfl hy' hB'' (cH (by rw[Yn];rfl) g4 (aQ (rs'++[Tq]) (by rw[aA,Zt];rfl) (by rw[Zm,Zm,d2];rfl) (λi' q' hq'=>?_)) rfl));rcases Xk i' b1.length with z | z
  ·rw[Zx z]at hq';obtain⟨r,r1,r2⟩:=d3 i' q' hq';exact(xWP r (by rw[Zx (by lia)];exact r1) (by rw[aE (ntl r2)];exact g3 _ _ r2))
  ·rw[Zy z]at hq';have z0:i' - b1.length=0:=by
    have:=(Zj.mp hq').1;simp at this
    lia
   rw[z0]at hq';cases hq';exact(xWP Tq (by rw[Zy (by lia),d2,z0];rfl) (by rw[aE nlT];exact aA))
def DS(C:Addr):Sp:=λvs H Q _=>∃(s l:Addr) (A:SA) (ws:List Way) (ds:List (List (Nat×Int))) (ps gs rs:List Int) (bs:List (Nat×Int)) (ql:Nat×Int) (last:Nat),vs=[.ref s,.ref l,vn last]/\SAt C H s A ws ds ps gs rs/\rQ H l bs/\l≠A.g/\l≠A.r/\bs.getLast?=some ql/\bs.length<=1000 /\
 (∀q∈bs,q.1<ws.length/\(q.2=1\/q.2 = -1))/\gs.length=ws.length/\sd (aF ws) (bF ws) ql.1 ql.2<rs.length/\last<rs.length /\
 ∀(x:Int) (H':Hp) (gs' rs':List Int),x<=at0 rs (sd (aF ws) (bF ws) ql.1 ql.2)->x<=- at0 rs last->(∀q∈bs,∀r,rm ws gs q.1 q.2=some r->x<=r)->(x=at0 rs (sd (aF ws) (bF ws) ql.1 ql.2)\/x = - at0 rs last\/∃q∈bs,rm ws gs q.1 q.2=some x) ->
  (∀b o,b≠A.g->b≠A.r->H b=some o->H' b=some o)->H' A.g=some (.lst (gs'.map V.int))->gs'.length=gs.length->(∀k,at0 gs' k=eA (at0 gs) x bs k)->H' A.r=some (.lst (rs'.map V.int))->rs'.length=rs.length ->
  (∀v,at0 rs' v=at0 rs v-(if sd (aF ws) (bF ws) ql.1 ql.2=v then x else 0)+(if last=v then x else 0))->Q .non H'
theorem IP(T:Txt K mg t)(G_far_side:Ok P w base T 36 1 (z8 (t.c 0)))(G_room:Ok P w base T 37 1 (yA (t.c 0))):Ok P w base T 41 2 (DS (t.c 0)):=by
 refine T.okN 41 (scm:cV ["search","path","last","begin","rooms","bounds","amount","number","by"] _ _) (λvs H Q E h=>?_) ?_
 ·obtain⟨s,l,A,ws,ds,ps,gs,rs,bs,ql,last,rfl,_⟩:=h;rfl
 intro cdv A outer s H vs Q E hr h nd X;obtain⟨s',l,A',ws,ds,ps,gs,rs,bs,ql,last,rfl,S,dr,nlg,nlr,hql,hbl,hbs,hgl,hc,hla,q⟩:=h;refine(xWP _ (by exists 3,bT G_far_side hr (T.f 36) aZ ?_,0,aG,aI,1,aG,aI,1,(e8 4 ["number","by","search"] [none,none,some 0]),a7 ?_,1,0,1,bT G_room hr (T.f 37) aZ ?_,2,0,1,(e8 5 ["most"] [none]),a7 ?_,4,0,qL ?_,fX,0,0,6,aN (fW rfl) rfl (T.z 9) boot_min ?_,qN,aI,dN (pv 0) rfl,3,aI,dN (pv 0) rfl,2,5,a7 ?_,1,7,8,iC ?_ (pv 7) gE ?_ jX set_list,dN (pv 0) rfl,8,6,iC ?_ (pv 3) gE (pv 6) zB set_list,dN (pv 0) rfl,iC ?_ (pv 2) gE (pv 6) jX set_list,dN (pv 0) rfl) ?_);obtain⟨lr,d1,d2,d3⟩:=id dr;obtain⟨dx,ob⟩:=S.ob;have mq:=List.mem_of_getLast? hql;obtain⟨r0,q1,q2⟩:∃r,(lr.map V.ref).getLast?=some (.ref r)/\H r=some (.tup [vn ql.1,.int ql.2]):=by
  rw[List.getLast?_eq_getElem?]at hql;obtain⟨r,e1,e2⟩:=d3 _ _ hql;refine(xWP r ?_ e2);rw[List.getLast?_eq_getElem?,Zq,Zk,d2,e1];rfl
 obtain⟨hk0,h10⟩:=hbs ql mq;refine(aH _ _ (SqL.of d1) (rN q1) (bO _ _ (SqT.of q2) rfl _ _ (SqL.of d1) (rN q1) (aH _ _ (SqT.of q2) rfl (b8 s' A' ws ds ps gs rs ql.1 (-ql.2) (cH rfl S hk0 ?_)))));rw[AY _ _ _ h10];generalize hC:sd (aF ws) (bF ws) ql.1 ql.2=c at hc q;refine⟨⟨_,SqL.of d1⟩,λD hD=>?_⟩;have at_:∀{i:Nat},i<bs.length->∃r,(lr.map V.ref)[i]?=some (.ref r)/\H r=some (.tup [vn (bs.getD i (0,0)).1,.int (bs.getD i (0,0)).2])/\bs.getD i (0,0)∈bs:=λ{i} hi=>by
  obtain⟨r,e1,e2⟩:=d3 i bs[i] (Zz hi);have e3:bs.getD i (0,0)=bs[i]:=by simp[List.getD,hi]
  rw[e3];exact(aQ r (by rw[Zk,e1];rfl) e2 (Zp hi))
 refine bD bs.length (λi=>vo (rm ws gs (bs.getD i (0,0)).1 (bs.getD i (0,0)).2)) hD (by lia) (λi H' hi g=>by obtain⟨r,e1,_⟩:=at_ hi;exact(cG _ _ (SqL.of (g _ _ d1)) e1)) (λH' g=>(xWP _ (SqL.of (g _ _ d1)) (by rw[Zq];lia))) ?_ ?_
 ·rintro i H' x H'' k hi g ⟨rfl,hx⟩ hk;obtain⟨r,e1,e2,e3⟩:=at_ hi;have ex:=hx _ (SqL.of (g _ _ d1));rw[e1]at ex;cases ex;refine(aQ _ (SqT.of (g _ _ e2)) rfl ⟨ ((Fills.refl _).set _ rfl).set _ rfl,?_⟩);exact(b8 s' A' ws ds ps gs rs _ _ (bU rfl (S.mono g) ((hbs _ e3).1) hgl (hk _ (aJ.refl _))))
 intro H1 g1 eD;obtain⟨rl,hrl⟩:∃rl:List (Option Int),rl=(ZR bs.length).map λi=>rm ws gs (bs.getD i (0,0)).1 (bs.getD i (0,0)).2:=⟨_,rfl⟩
 have erl:(ZR bs.length).map (λi=>vo (rm ws gs (bs.getD i (0,0)).1 (bs.getD i (0,0)).2))=vos rl:=by rw[hrl];unfold vos;rw[Ym];rfl
 rw[erl]at eD;have lrl:rl.length=bs.length:=by rw[hrl];simp
 refine⟨⟨_,SqL.of eD⟩,λD2 hD2=>?_⟩
 let Pv1:Nat->List L2.V->L2.Hp->Prop:=λi ys H'=>ys=((rl.take i).filterMap id).map V.int/\aJ H1 H'/\H' D2=some (.lst ys)
 refine kS rl.length Pv1 (xPP rfl (aB hD2 _) aA) ?_ ?_
 ·rintro i ys H' hi ⟨rfl,g2,e2⟩;have tk:(rl.take (i+1)).filterMap id=(rl.take i).filterMap id++([ov rl i]).filterMap id:=by
   rw[List.take_succ,List.filterMap_append];congr 1;unfold ov;simp[List.getD,hi]
  refine⟨(cG _ _ (SqL.of (g2 _ _ eD)) (xD hi)),?_⟩;rintro x H'' ⟨rfl,hx⟩;have ex:=hx _ (SqL.of (g2 _ _ eD));rw[xD hi]at ex;cases ex;refine⟨(Fills.refl _).set _ rfl,?_⟩;refine⟨rfl,?_⟩;have hlen:(((rl.take i).filterMap id).map V.int).length<ZW:=by
   rw[Zq];have:=List.length_filterMap_le id (rl.take i);rw[Yw]at this;exact Xz (by lia:((rl.take i).filterMap id).length<1001) (by decide)
  rcases ho:ov rl i with _ | z
  ·refine iF (xPP ?_ g2 e2);rw[tk,ho];simp
  ·refine iT (bU e2 hlen ?_ ?_ aA)
   ·rw[tk,ho];simp;rfl
   ·exact λb o h=>by rw[aE (aC h hD2)];exact g2 _ _ h
 rintro ys H2 ⟨rfl,g2,e2⟩;rw[Yv]at e2;refine⟨(xWP _ (SqL.of (g2 _ _ eD)) (by unfold vos;rw[Zq];exact ZC _)),?_⟩;have g02:=g1.trans g2;have ob2:=g02 _ _ ob;have hr2:=g02 _ _ S.r;refine(aY _ dx _ _ ob2 T.x.l T.x.n3 (eI _ _ _ _ _) (aH _ _ (SqL.of hr2) (aU hc rfl) ?_));refine(aY _ dx _ _ ob2 T.x.l T.x.n3 (eI _ _ _ _ _) (aH _ _ (SqL.of hr2) (aU hla rfl) ⟨ (by show 2<=ZW;decide),λl2 hl2=>?_⟩));have g3:=aB hl2 (.lst [.int (at0 rs c),.int (-at0 rs last)]);have lb:(rl.filterMap id).length<=1000:=by
  have:=List.length_filterMap_le id rl
  lia
 refine(aP _ _ aA (g3 _ _ e2) ?_ (λl3 hl3=>?_))
 ·rw[Zq];exact YQ (show 2+(rl.filterMap id).length<=1002 by lia) (by decide)
 have g4:=aB hl3 (.lst ([.int (at0 rs c),.int (-at0 rs last)]++(rl.filterMap id).map V.int));refine(aP l3 (at0 rs c::-at0 rs last::rl.filterMap id) rfl (SqL.of aA) (by simp) (λx hx hle=>?_));have g04:=g02.trans (g3.trans g4);have mrl:∀r,some r∈rl↔∃q∈bs,rm ws gs q.1 q.2=some r:=λr=>by
  rw[hrl,Zh];constructor
  ·rintro⟨i,hi,e⟩;obtain⟨_,_,_,e3⟩:=at_ (Zs.mp hi);exact(xWP _ e3 e)
  ·rintro⟨q',hq',e⟩;obtain⟨i,hi,rfl⟩:=Yy.mp hq';exact(xWP i (Zs.mpr hi) (by rw[<-e];simp[List.getD,hi]))
 have mfm:∀r,r∈rl.filterMap id↔∃q∈bs,rm ws gs q.1 q.2=some r:=λr=>by
  rw[<-mrl,List.mem_filterMap];constructor
  ·rintro⟨o,h1,h2⟩;exact h2▸h1
  ·intro h;exact(xWP _ h rfl)
 have x1:x<=at0 rs c:=hle _ (by simp);have x2:x<=- at0 rs last:=hle _ (by simp);have x3:∀q∈bs,∀r,rm ws gs q.1 q.2=some r->x<=r:=λq' hq' r e=>hle _ (by simp only[Zn];exact .inr (.inr ((mfm r).mpr (xWP q' hq' e))));have x4:x=at0 rs c\/x = - at0 rs last\/∃q∈bs,rm ws gs q.1 q.2=some x:=by
  simp only[Zn]at hx;exact hx.imp id λz=>z.imp id λz=>(mfm x).mp z
 generalize upd (upd H2 l2 (.lst [.int (at0 rs c),.int (-at0 rs last)])) l3 (.lst ([.int (at0 rs c),.int (-at0 rs last)]++(rl.filterMap id).map V.int))=H4 at g04
 let Pv2:Nat->L2.St->L2.Hp->Prop:=λi σ H'=>(∀b o,b≠A'.g->H b=some o->H' b=some o)/\(∃gs':List Int,H' A'.g=some (.lst (gs'.map V.int))/\gs'.length=gs.length/\∀k,at0 gs' k=eA (at0 gs) x (bs.take i) k) /\
  ∃o7 o8:Option V,σ=[some (.ref s'),some (.ref l),some (vn last),some (vn c),some (.ref D),some (.ref D2),some (.int x),o7,o8]
 refine⟨⟨_,SqL.of (g04 _ _ d1)⟩,cR (xs:=lr.map V.ref) Pv2 (xPP (λb o _ h=>g04 _ _ h) (aQ gs (g04 _ _ S.g) rfl (λk=>rfl)) (xWW _ _ rfl)) (λi σ H' _ h=>SqL.of (h.1 _ _ nlg d1)) ?_ ?_⟩
 ·rintro i y σ H' hy ⟨k1,⟨gs',e1,l1,a1⟩,o7,o8,rfl⟩;have hi:i<bs.length:=by
   have:=(Zj.mp hy).1;rw[Zq,d2]at this;exact this
  obtain⟨r,f1,f2,f3⟩:=at_ hi;rw[f1]at hy;cases hy;have f4:=k1 _ _ (bZ f2 S.g (by intro z;cases z)) f2;obtain⟨b1,b2⟩:=hbs _ f3;have ob':=k1 _ _ (bZ ob S.g (by intro z;cases z)) ob;refine(aQ _ (SqT.of f4) rfl ?_);refine(aY _ dx _ _ ob' T.x.l T.x.n2 (mY _ _ _ _ _) (aP _ _ (SqL.of e1) (by show 0<=((bs.getD i (0,0)).1:Int);lia) (aU (j:=(bs.getD i (0,0)).1) (by lia) rfl) ?_));refine(i3 (.inl (by rcases b2 with z | z<;>rw[z]<;>exact⟨by decide,by decide⟩)) _ ((bs.getD i (0,0)).1) e1 (fV (by rw[Zq];lia) rfl) ?_);refine(xPP (λb o h1 h=>by rw[aE h1];exact k1 b o h1 h) (aQ (gs'.set (bs.getD i (0,0)).1 (at0 gs' (bs.getD i (0,0)).1+(bs.getD i (0,0)).2*x)) (by rw[aA,ZG]) (by rw[ZP];exact l1) (λk=>?_)) (xWW _ _ rfl));have tk:bs.take (i+1)=bs.take i++[bs.getD i (0,0)]:=by
   rw[List.take_succ];congr 1;simp[List.getD,hi]
  rw[tk,oK,m8 (by lia)];by_cases z:k=(bs.getD i (0,0)).1
  ·rw[Yb z,Yb z,<-z,a1]
  ·rw[Ya z,Ya z,a1];lia
 rintro σ H5 ⟨k1,⟨gs',e5,l5,a5⟩,o7,o8,rfl⟩;rw[Zq,d2,Yv]at a5;have ob5:=k1 _ _ (bZ ob S.g (by intro z;cases z)) ob;have r5:=k1 _ _ S.gr.symm S.r;refine(aY _ dx _ _ ob5 T.x.l T.x.n3 (eI _ _ _ _ _) (aP _ _ (SqL.of r5) (by show 0<=(c:Int);lia) (aU (j:=c) hc rfl) (aH _ c r5 (fV (by rw[Zq];lia) rfl) ?_)));rw[show(rs.map V.int).set c (V.int (at0 rs c-x))=(rs.set c (at0 rs c-x)).map V.int by rw[ZG]];have ob6:(upd H5 A'.r (.lst ((rs.set c (at0 rs c-x)).map V.int))) s'=_:=(aE (bZ ob5 r5 (by intro z;cases z))).trans ob5;refine(aY _ dx _ _ ob6 T.x.l T.x.n3 (eI _ _ _ _ _) (aP _ _ (SqL.of aA) (by show 0<=(last:Int);lia) (aU (j:=last) (by rw[ZP];exact hla) rfl) (aH _ last aA (fV (by rw[Zq,ZP];lia) rfl) ?_)));refine q x _ gs' (step rs ⟨c,last,0,none,0⟩ x) x1 x2 x3 x4 (λb o h1 h2 h=>by rw[aE h2,aE h2];exact k1 b o h1 h) ?_ l5 a5 ?_ (vF _ _ _) λv=>xE (w:=⟨c,last,0,none,0⟩) hc hla v
 ·rw[aE S.gr,aE S.gr];exact e5
 ·rw[aA];unfold NM.step;simp only[ZG]
end
end K32
namespace L2
theorem Sc.of{b:Bool}{p:Prop}(h:b=true)(q:p):Sc b p:=by subst h;exact q
end L2
namespace K32
open PySem L2 PyProof.Rows NM FL
structure LS(H0 H:Hp)(wl na rd:Addr)(W R:List (Addr×En))(nr:Nat->Option Int)(c:Nat):Prop where
 g:aJ H0 H
 w:H wl=some (.lst (wr W))
 wt:∀x∈W,H x.1=some (.tup (ev x.2))
 dn:Dn (W.map λx=>kl x.2)
 r:H rd=some (.dK (kvR R))
 rt:∀x∈R,H x.1=some (.tup (ev x.2))
 q:∃kvs,H na=some (.dK kvs)/\(∀v:Nat,eL kvs (Sum.inl (v:Int))=(nr v).map V.int)/\kvs.length<=c
 wb:W.length<=64+c
 nwl:H0 wl=none
 nna:H0 na=none
 nrd:H0 rd=none
 ne:na≠rd
section
variable{H0 H H':Hp}{wl na rd:Addr}{W R:List (Addr×En)}{nr:Nat->Option Int}{c:Nat}
theorem LS.mono(h:LS H0 H wl na rd W R nr c)(k:aJ H H'):LS H0 H' wl na rd W R nr c:=by
 obtain⟨kvs,q1,q2⟩:=h.q;exact⟨h.g.trans k,k _ _ h.w,λx hx=>k _ _ (h.wt x hx),h.dn,k _ _ h.r,λx hx=>k _ _ (h.rt x hx),(xWP kvs (k _ _ q1) q2),h.wb,h.nwl,h.nna,h.nrd,h.ne⟩
theorem LS.more(h:LS H0 H wl na rd W R nr c){c':Nat}(k:c<=c'):LS H0 H wl na rd W R nr c':=by
 obtain⟨kvs,q1,q2,q3⟩:=h.q;have:=h.wb;exact⟨h.g,h.w,h.wt,h.dn,h.r,h.rt,(aQ kvs q1 q2 (by lia)),by lia,h.nwl,h.nna,h.nrd,h.ne⟩
theorem LS.setw(h:LS H0 H wl na rd W R nr c){W':List (Addr×En)}(wt:∀x∈W',H x.1=some (.tup (ev x.2)))(dn:Dn (W'.map λx=>kl x.2))(wb:W'.length<=64+c):LS H0 (upd H wl (.lst (wr W'))) wl na rd W' R nr c:=by
 obtain⟨kvs,q1,q2⟩:=h.q;have k:∀b o,(∀z,o≠.lst z)->H b=some o->upd H wl (.lst (wr W')) b=some o:=λb o z e=>by rw[aE (bZ e h.w (λy=>z _ y))];exact e
 exact⟨λb o e=>by rw[aE (aC e h.nwl)];exact h.g _ _ e,aA,λx hx=>k _ _ (λz y=>by cases y) (wt x hx),dn,k _ _ (λz y=>by cases y) h.r,λx hx=>k _ _ (λz y=>by cases y) (h.rt x hx),(xWP kvs (k _ _ (λz y=>by cases y) q1) q2),wb,h.nwl,h.nna,h.nrd,h.ne⟩
theorem LS.setr(h:LS H0 H wl na rd W R nr c){x:Addr×En}(hx:H x.1=some (.tup (ev x.2))):LS H0 (upd H rd (.dK (kvR (R++[x])))) wl na rd W (R++[x]) nr c:=by
 obtain⟨kvs,q1,q2⟩:=h.q;have k:∀b o,(∀z,o≠.dK z)->H b=some o->upd H rd (.dK (kvR (R++[x]))) b=some o:=λb o z e=>by rw[aE (bZ e h.r (λy=>z _ y))];exact e
 exact⟨λb o e=>by rw[aE (aC e h.nrd)];exact h.g _ _ e,k _ _ (λz y=>by cases y) h.w,λx hx=>k _ _ (λz y=>by cases y) (h.wt x hx),h.dn,aA,λy hy=>k _ _ (λz y=>by cases y) ((Zf.mp hy).elim (h.rt y) λz=>by
  have:y=x:=by simpa using z
  rw[this];exact hx),(xWP kvs (by rw[aE h.ne];exact q1) q2),h.wb,h.nwl,h.nna,h.nrd,h.ne⟩
theorem LS.setq(h:LS H0 H wl na rd W R nr c){kvs:List (Key×V)}(e:H na=some (.dK kvs))(f:Nat)(x:Int):LS H0 (upd H na (.dK (putK kvs (Sum.inl (f:Int)) (.int x)))) wl na rd W R (λv=>if v=f then some x else nr v) (c+1):=by
 obtain⟨kvs',q1,q2,q3⟩:=h.q;rw[e]at q1;cases q1;have k:∀b o,(∀z,o≠.dK z)->H b=some o->upd H na (.dK (putK kvs (Sum.inl (f:Int)) (.int x))) b=some o:=λb o z e'=>by rw[aE (bZ e' e (λy=>z _ y))];exact e'
 have:=h.wb;refine⟨λb o e'=>by rw[aE (aC e' h.nna)];exact h.g _ _ e',k _ _ (λz y=>by cases y) h.w,λx hx=>k _ _ (λz y=>by cases y) (h.wt x hx),h.dn,by rw[aE h.ne.symm];exact h.r,λx hx=>k _ _ (λz y=>by cases y) (h.rt x hx),(aQ _ aA (λv=>?_) (YQ (jU _ _ _) (by lia))),by lia,h.nwl,h.nna,h.nrd,h.ne⟩;rw[pY];by_cases z:v=f
 ·subst z;rw[Yb rfl,Yb rfl];rfl
 ·rw[Ya (λy=>z (by have:=Sum.inl.inj y;lia)),Ya z];exact q2 v
end
def zH(B:List (Addr×En))(a:Addr):En:=match B.find? λx=>x.1==a with
 |some x=>x.2
 |none=>⟨0,0,0,0⟩
theorem A0{B:List (Addr×En)}{a:Addr}(h:a∈B.map (·.1)):(a,zH B a)∈B:=by
 unfold zH;cases e:B.find? (λx=>x.1==a) with
 |none =>
  obtain⟨x,hx,rfl⟩:=Zh.mp h;exact Yg (by simp) (List.find?_eq_none.mp e x hx)
 |some x =>
  have h1:=List.find?_some e;have h2:=List.mem_of_find?_eq_some e;have h3:x.1=a:=Yi h1;subst h3;exact h2
theorem M4{e u:En}(h:ev e=ev u):kl e=kl u:=by
 have:∀(a b:List Int),a.map V.int=b.map V.int->a=b:=by
  intro a;induction a with
  |nil=>intro b h;cases b with
   |nil=>rfl
   |cons _ _=>cases h
  |cons x a ih=>intro b h;cases b with
   |nil=>cases h
   |cons y b =>
    rw[ZI,ZI]at h;obtain⟨h1,h2⟩:=List.cons.inj h;rw[V.int.inj h1,ih b h2]
 exact this _ _ h
section
def zY(C:Addr):Sp:=λvs H Q _=>∃(s:Addr) (A:SA) (ws:List Way) (ds:List (List (Nat×Int))) (ps gs rs:List Int) (n:Nat),vs=[.ref s]/\SAt C H s A ws ds ps gs rs/\SOk n ws ds ps gs rs/\n<64/\ws.length<=1000/\gG ws.length (aF ws) (bF ws) (loF ws) (hiF ws) (coF ws) (at0 gs) (at0 ps) /\
 ∀(d:Addr) (H':Hp) (R:List (Addr×En)),H d=none->aJ H H'->H' d=some (.dK (kvR R))->(∀y∈R,H' y.1=some (.tup (ev y.2)))->Out (at0 rs) (sd (aF ws) (bF ws)) (fr (aF ws) (bF ws)) (ln (aF ws) (bF ws) (coF ws) (at0 ps)) (opn ws.length (loF ws) (hiF ws) (at0 gs)) n (es R)->Q (.ref d) H'
theorem E6(T:Txt K mg t)(G_rate:Ok P w base T 27 1 (p7))(G_far_side:Ok P w base T 36 1 (z8 (t.c 0)))(G_room:Ok P w base T 37 1 (yA (t.c 0)))
  (G_put_in:Ok P w base T 38 1 KB):Ok P w base T 35 2 (zY (t.c 0)):=by
 refine T.okN 35 (scm:cV ["search","begun","waiting","nearest","reached","entry","knot","number","by","distance","far","nearer"] _ _) (λvs H Q E h=>?_) ?_
 ·obtain⟨s,A,ws,ds,ps,gs,rs,n,rfl,_⟩:=h;rfl
 intro cdv A outer s H vs Q E hr h nd X;obtain⟨s',A',ws,ds,ps,gs,rs,n,rfl,S,O,hn,hm,sr,q⟩:=h;have hu:=AV hr;refine(xWP _ (by exists (e8 1 ["knot","rest"] [none,none]),cL rfl (T.z 3) ?_,dN (pv 0) rfl,0,1,qL ?_,1,0,2,B4 rX rfl (T.z 12) boot_sorted ?_ (IF vP L4),1,3,mL,4,mL,bH (pv 2) (λ_=>rfl),5,EY YO PySem.F.slot_list_pop PySem.F.type_list_pop FP (pv 2),6,aG,5,L3 (sQ hu (pv 6) (pv 4)),pF hu (pv 4) (pv 6) (pv 5) rfl,aI,dN (pv 0) rfl,6,4,a7 ?_,aI,dN (pv 0) rfl,6,7,8,9,aX,aG,5,8,bT G_rate hr (T.f 27) aZ ?_,aI,dN (pv 0) rfl,7,dN (pv 0) rfl,10,bT G_far_side hr (T.f 36) aZ ?_,0,7,8,11,OH ?_ ?_,MC (sQ hu (pv 10) (pv 3)),lQ ?_,9,i6 hu (pv 3) (pv 10) (λ_ _=>rfl),bH (pv 11) (λ_=>rfl),e9,bT G_room hr (T.f 37) aZ ?_,0,7,8,pF hu (pv 3) (pv 10) (pv 9) rfl,bT G_put_in hr (T.f 38) aZ ?_,2,9,10,7,8,4) ?_);obtain⟨dx,ob⟩:=S.ob;have hrl:=O.rl;refine(aY _ dx _ _ ob T.x.l T.x.n3 (eI _ _ _ _ _) (aQ A'.r rfl ⟨_,SqL.of S.r⟩ (λD hD=>?_)))
 let Pv1:Nat->List L2.V->L2.Hp->Prop:=λi ys H'=>∃B:List (Addr×En),ys=wr B/\(∀x∈B,H' x.1=some (.tup (ev x.2))/\tP (at0 rs) x.2/\x.2.v<n)/\(∀v,v<i->0<at0 rs v->∃x∈B,x.2.v=v)/\aJ H H'/\H' D=some (.lst ys)/\B.length<=i
 refine kS n Pv1
  (kE ([]) rfl (λx hx=>(by cases hx)) (λv hv=>Yg hv (Nat.not_lt_zero _)) (aB hD _) aA (ZC _)) ?_ ?_
 ·rintro i ys H' hi ⟨B,rfl,hB,hv,g1,eD,bl⟩;refine⟨(cG _ _ (SqL.of (g1 _ _ S.r)) (bR (by lia))),?_⟩;rintro x H'' ⟨Tp,x',rfl,hTp,rfl,hx⟩;have ex:=hx _ (SqL.of (g1 _ _ S.r));rw[bR (by lia)]at ex;cases ex;have g2:=aB hTp (.tup [.int (i:Int),.int (at0 rs i)]);refine(aQ _ (SqT.of aA) rfl ⟨ ((Fills.refl _).set _ rfl).set _ rfl,?_⟩);refine(i2 (λc=>?_) (λc=>?_))
  ·have c':0<at0 rs i:=Yf c;refine⟨(by show 4<=ZW;decide),λT2 hT2=>?_⟩;have g3:=g2.trans (aB hT2 (.tup [.int 0,.int (i:Int),.int 0,.int 0]));refine(sC (g3 _ _ eD) (by rw[Zq];exact Xq bl (Xz (by lia:i<64) (by decide))) (B++[(T2,⟨0,i,0,0⟩)]) (by unfold wr;rw[Zt];rfl) (λx hx=>?_) (λv hv' hp=>?_) (λb o h=>by rw[aE (aC h hD)];exact g3 _ _ (g1 _ _ h)) aA (by rw[Zm];exact Nat.succ_le_succ bl))
   ·rcases Zf.mp hx with hx | hx
    ·obtain⟨h1,h2⟩:=hB x hx;exact⟨by rw[aE (bZ (g3 _ _ h1) (g3 _ _ eD) (by intro z;cases z))];exact g3 _ _ h1,h2⟩
    ·have:x=(T2,⟨0,i,0,0⟩):=by simpa using hx
     subst this;refine(xPP ?_ (xPP rfl rfl c') hi);rw[aE (aC (g2 _ _ eD) hT2).symm];exact aA
   ·by_cases z:v=i
    ·subst z;exact(xWP _ (ZN _ (.head _)) rfl)
    ·obtain⟨x,h1,h2⟩:=hv v (by lia) hp;exact(xWP x (ZO _ h1) h2)
  ·have c':¬0<at0 rs i:=λz=>c (Ye z);refine(kE B rfl (λx hx=>⟨g2 _ _ (hB x hx).1,(hB x hx).2⟩) (λv hv' hp=>?_) (g1.trans g2) (g2 _ _ eD) (by lia));by_cases z:v=i
   ·subst z;exact Yg hp c'
   ·exact hv v (by lia) hp
 rintro ys H1 ⟨B,rfl,hB,hv,g1,eD,bl⟩;refine⟨(xWP _ (SqL.of (g1 _ _ S.r)) (by rw[Zq];lia)),?_⟩;refine(kC D (B.map (·.1)) (λa=>kl (zH B a)) rfl rfl (by unfold wr at eD;rw[Ym];exact SqL.of eD) (λa ha=>⟨by unfold kl;simp,SqT.of (hB _ (A0 ha)).1⟩) (by rw[Zq];lia) (λwl ps' hwl hp hs=>?_));have inB:∀a∈ps',(a,zH B a)∈B:=λa ha=>A0 (hp.mem_iff.mp ha);intro na hna rd hrd;obtain⟨W0,hW0⟩:∃W0:List (Addr×En),W0=ps'.map λa=>(a,zH B a):=⟨_,rfl⟩
 have ew:ps'.map V.ref=wr W0:=by rw[hW0];unfold wr;rw[Ym];rfl
 have mW:∀x∈W0,x∈B:=λx hx=>by
  rw[hW0]at hx;obtain⟨a,ha,rfl⟩:=Zh.mp hx;exact inB a ha
 have h1wl:H wl=none:=g1.free hwl;have k1:=aB hwl (.lst (ps'.map V.ref));have k2:=aB hna (.dK []);have k3:=aB hrd (.dK []);have gg:=g1.trans (k1.trans (k2.trans k3));have nne:na≠rd:=λz=>by rw[z,aA]at hrd;cases hrd
 have ls:LS H (upd (upd (upd H1 wl (.lst (ps'.map V.ref))) na (.dK [])) rd (.dK [])) wl na rd W0 [] (λ_=>none) 0:=by
  refine⟨gg,?_,λx hx=>(k1.trans (k2.trans k3)) _ _ (hB x (mW x hx)).1,?_,aA,λx hx=>(by cases hx),(aQ ([]) (k3 _ _ aA) (λv=>rfl) (ZC _)),?_,h1wl,(g1.trans k1).free hna,(g1.trans (k1.trans k2)).free hrd,nne⟩
  ·rw[<-ew];exact(k2.trans k3) _ _ aA
  ·unfold Dn;rw[hW0,Ym,List.pairwise_map];exact hs
  ·rw[hW0,Zq,hp.length_eq,Zq];lia
 have rch0:Rch (at0 rs) (sd (aF ws) (bF ws)) (fr (aF ws) (bF ws)) (ln (aF ws) (bF ws) (coF ws) (at0 ps)) (opn ws.length (loF ws) (hiF ws) (at0 gs)) n (λ_ _=>False) (es []) (es W0) (λ_=>none):=by
  refine Rch.start (λe he=>?_) (λv hv' hp'=>?_)
  ·obtain⟨x,hx,rfl⟩:=Zh.mp he;exact(hB x (mW x hx)).2
  ·obtain⟨x,h1,h2⟩:=hv v hv' hp';have mx:x.1∈ps':=hp.mem_iff.mpr (Zh.mpr (xWP x h1 rfl));refine(xWP (zH B x.1) (Zh.mpr (xWP (x.1,zH B x.1) (by rw[hW0];exact Zh.mpr (xWP _ mx rfl)) rfl)) ?_);have t1:=(hB _ (inB x.1 mx)).1;rw[(hB x h1).1]at t1;have t2:=M4 (HO.tup.inj (Option.some.inj t1));unfold kl at t2;simp only[List.cons.injEq]at t2;have:=t2.2.1
   lia
 clear hv hB bl eD inB mW hp hs ew;generalize upd (upd (upd H1 wl (.lst (ps'.map V.ref))) na (.dK [])) rd (.dK [])=H2 at ls;clear k3 hrd k2 hna k1 hwl gg
 let Wv1:Nat->L2.St->L2.Hp->Prop:=λm σ H'=>∃(W R:List (Addr×En)) (nr:Nat->Option Int),m=(n-R.length)*(2*ws.length+1)+W.length/\LS H H' wl na rd W R nr (R.length*(2*ws.length)) /\
  Rch (at0 rs) (sd (aF ws) (bF ws)) (fr (aF ws) (bF ws)) (ln (aF ws) (bF ws) (coF ws) (at0 ps)) (opn ws.length (loF ws) (hiF ws) (at0 gs)) n (λk b=>∃u∈R,∃l,ds[u.2.v]?=some l/\(k,b)∈l) (es R) (es W) nr/\(∀u∈R,0<=at0 rs u.2.v) /\
  ∃o5 o6 o7 o8 o9 o10 o11:Option V,σ=[some (.ref s'),some (.ref D),some (.ref wl),some (.ref na),some (.ref rd),o5,o6,o7,o8,o9,o10,o11]
 refine(xWP Wv1 (aY _ W0 ([]) _ rfl (by show LS _ _ _ _ _ _ _ _ (0*_);rw[Nat.zero_mul];exact ls) (rch0.pass (k:=0) (by_:=0) (λz=>Yg z.2 (by rintro(⟨z,_⟩ | ⟨z,_⟩)<;>cases z)) (λk b z=>by obtain⟨u,hu',_⟩:=z;cases hu')) (λu hu'=>(by cases hu')) (pO _ _ _ _ _ _ _ rfl)) ?_);clear ls rch0 hW0;rintro m σ H' ⟨W,R,nr,rfl,L,rc,nn,o5,o6,o7,o8,o9,o10,o11,rfl⟩;have all:∀k b,opn ws.length (loF ws) (hiF ws) (at0 gs) k b->(∃u∈es R,u.v=sd (aF ws) (bF ws) k b)->∃u∈R,∃l,ds[u.2.v]?=some l/\(k,b)∈l:=λk b o z=>by
  obtain⟨u,hu',uv⟩:=z;obtain⟨x,hx,rfl⟩:=Zh.mp hu';have hvn:x.2.v<ds.length:=by rw[O.d.len];exact rc.lt _ (ZO _ hu')
  refine(u4 x hx (ds[x.2.v]) (Zz hvn) (O.d.has o.1 (gQ o) ?_));rw[<-uv];exact Zz hvn
 refine(xWP _ (.inl (xWP _ (SqL.of L.w) rfl)) ?_);rcases List.eq_nil_or_concat W with hW | ⟨W',x,hW⟩
 ·
  subst hW;refine iF (q rd H' R L.nrd L.g L.r L.rt (.inr (aH nr _ rc all (λu hu'=>?_))));obtain⟨y,hy,rfl⟩:=Zh.mp hu';exact nn y hy
 rw[List.concat_eq_append]at hW;subst hW;refine iTb (by unfold wr;simp) (xWP _ (λσ' H'' h=>h) ?_);have hlast:(wr (W'++[x]))[(wr (W'++[x])).length-1]?=some (.ref x.1):=by unfold wr;simp
 have hdrop:(wr (W'++[x])).dropLast=wr W':=by unfold wr;simp
 have mx:x∈W'++[x]:=by simp
 refine(i3 (.inl ⟨rfl,_,SqL.of L.w⟩) _ _ L.w hlast ?_);rw[hdrop];have hwb:=L.wb;rw[Zm,ZQ]at hwb;have dn':Dn (W'.map λx=>kl x.2):=by
  have:=L.dn;unfold Dn at this;rw[Zt]at this;exact(List.pairwise_append.mp this).1
 have L1:=L.setw (W':=W') (λy hy=>L.wt y (ZO _ hy)) dn' (by lia);have tx:(upd H' wl (.lst (wr W'))) x.1=some (.tup (ev x.2)):=by rw[aE (bZ (L.wt x mx) L.w (by intro z;cases z))];exact L.wt x mx
 generalize upd H' wl (.lst (wr W'))=H3 at L1 tx;have pW:(es (W'++[x])).Perm (x.2::es W'):=by
  unfold es;rw[Zt];exact List.perm_append_comm
 have hvn:x.2.v<n:=rc.lt _ (ZN _ (Zh.mpr (xWP x mx rfl)));refine(aH _ _ (SqT.of tx) rfl ?_);refine(xWP _ (iO.k (k:=Sum.inl (x.2.v:Int)) L1.r) ?_);cases hin:(eL (kvR R) (Sum.inl (x.2.v:Int))).isSome with
 |true =>
  obtain⟨y,hy,ey⟩:=DC hin;have rc':=rc.drop pW (xWP y.2 (Zh.mpr (xWP y hy rfl)) ey);refine iF (lI _ ?_ W' R nr rfl L1 rc' nn (pO _ _ _ _ _ _ _ rfl));rw[Zm,ZQ];lia
 |false =>
  have hno:eL (kvR R) (Sum.inl (x.2.v:Int))=none:=Option.isNone_iff_eq_none.mp (by rw[<-Option.not_isSome,hin];rfl);have hne:∀u∈es R,u.v≠x.2.v:=λu hu' e=>by
   obtain⟨y,hy,rfl⟩:=Zh.mp hu';have:=nI rc.nd hy (v:=(x.2.v:Int)) (by lia);rw[hno]at this;cases this
  have least:∀y∈es W',x.2.d<=y.d:=λy hy=>by
   obtain⟨z,hz,rfl⟩:=Zh.mp hy;have d0:=L.dn;rw[Zt]at d0;exact y8 (w:=W'.map λx=>kl x.2) (d:=x.2.d) (r:=[(x.2.v:Int),(x.2.k:Int),x.2.by_]) (d':=z.2.d) (r':=[(z.2.v:Int),(z.2.k:Int),z.2.by_]) d0 (Zh.mpr (xWP z hz rfl))
  have rc':=rc.take pW least hne;have ees:es R++[x.2]=es (R++[x]):=by unfold es;rw[Zt];rfl
  have few:=rc'.few;rw[Zm,ZQ,Zq]at few;have ekv:putK (kvR R) (Sum.inl (x.2.v:Int)) (V.ref x.1)=kvR (R++[x]):=by rw[EL _ hno];unfold kvR;rw[Zt];rfl
  refine iT (xWP _ (zN.k (k:=Sum.inl (x.2.v:Int)) L1.r (by unfold kvR;rw[Zq];exact Xz (by lia:R.length<64) (by decide))) ?_);rw[ekv];have L2':=L1.setr tx;have tx2:(upd H3 rd (.dK (kvR (R++[x])))) x.1=some (.tup (ev x.2)):=by rw[aE (bZ tx L1.r (by intro z;cases z))];exact tx
  generalize upd H3 rd (.dK (kvR (R++[x])))=H4 at L2' tx2;have S4:=S.mono L2'.g;obtain⟨dx4,ob4⟩:=S4.ob;refine(aY _ dx4 _ _ ob4 T.x.l T.x.n3 (eI _ _ _ _ _) (aH _ _ (SqL.of S4.r) (aU (j:=x.2.v) (by lia) rfl) (i2 (λc=>?_) (λc=>?_))))
  ·
   have c':at0 rs x.2.v<0:=Yf c;refine(q rd H4 (R++[x]) L2'.nrd L2'.g L2'.r L2'.rt (.inl (kB (es R) x.2 (es W') nr _ ees.symm ?_ all c')));rw[<-ees];exact rc'
  have c':¬at0 rs x.2.v<0:=λz=>c (Ye z);rw[ees]at rc';have hds:x.2.v<ds.length:=by rw[O.d.len];exact hvn
  have hrow:=Zz hds;obtain⟨ra,ra1,lr,d1,d2,d3⟩:=S4.dr x.2.v _ hrow;generalize hrw:ds[x.2.v]=row at hrow d2 d3;have hfew:=O.d.few _ _ hrow;have top:∀y∈es (R++[x]),y.d<=x.2.d:=λy hy=>by
   have u:=rc'.up;rw[<-ees]at u hy;rcases Zf.mp hy with hy | hy
   ·exact(List.pairwise_append.mp u).2.2 y hy x.2 (.head _)
   ·have:y=x.2:=by simpa using hy
    rw[this];exact Int.le_refl _
  have mxe:x.2∈es (R++[x]):=Zh.mpr (xWP x (by simp) rfl);refine(aY _ dx4 _ _ ob4 T.x.l T.x.n4 (F3 _ _ _ _ _) (aH _ (.ref ra) (SqL.of S4.d) (bM (by rw[Zk,ra1];rfl)) ⟨ ⟨_,SqL.of d1⟩,?_⟩))
  let Pv2:Nat->L2.St->L2.Hp->Prop:=λi σ H5=>∃(Wi:List (Addr×En)) (nri:Nat->Option Int),aJ H4 H4/\LS H H5 wl na rd Wi (R++[x]) nri (R.length*(2*ws.length)+i)/\Wi.length<=W'.length+i/\H5 ra=some (.lst (lr.map V.ref))/\(∀(j:Nat) q',row[j]?=some q'->∃r,lr[j]?=some r/\H5 r=some (.tup [vn q'.1,.int q'.2])) /\
   Rch (at0 rs) (sd (aF ws) (bF ws)) (fr (aF ws) (bF ws)) (ln (aF ws) (bF ws) (coF ws) (at0 ps)) (opn ws.length (loF ws) (hiF ws) (at0 gs)) n (λk b=>(∃u∈R,∃l,ds[u.2.v]?=some l/\(k,b)∈l)\/(k,b)∈row.take i) (es (R++[x])) (es Wi) nri /\
   ∃o7 o8 o9 o10 o11:Option V,σ=[some (.ref s'),some (.ref D),some (.ref wl),some (.ref na),some (.ref rd),some (.ref x.1),some (vn x.2.v),o7,o8,o9,o10,o11]
  refine cR (xs:=lr.map V.ref) Pv2
   (kD W' nr (aJ.refl _) L2' (ZC _) d1 d3 (rc'.pass (k:=0) (by_:=0) (λz=>Yg z.2 (by rintro(⟨z,_⟩ | ⟨z,_⟩)<;>cases z)) (λk b z=>by
    rcases z with z | z
    ·exact .inl z
    ·rw[List.take_zero]at z;cases z)) (pP _ _ _ _ _ rfl)) (λi σ H5 _ h=>by obtain⟨_,_,_,_,_,h,_⟩:=h;exact SqL.of h) ?_ ?_
  ·rintro i y σ H5 hy ⟨Wi,nri,_,Li,wi,e5,f5,rci,o7,o8,o9,o10,o11,rfl⟩;have hi:i<row.length:=by
    have:=(Zj.mp hy).1;rw[Zq,d2]at this;exact this
   have hq:=Zz hi;generalize hqq:row[i]=qd at hq;obtain⟨k,b⟩:=qd;obtain⟨r,f1,f2⟩:=f5 i _ hq;rw[Zk,f1]at hy;cases hy;obtain⟨hk,h1,hsd⟩:=O.d.src hrow (Zg hq);have hw:ws[k]?=some ws[k]:=Zz hk;have S5:=S.mono Li.g;obtain⟨dx5,ob5⟩:=S5.ob;obtain⟨wx,wr5,w1,w2,w3⟩:=S5.way hw;have hab:=O.w _ (Zp hk);have tx5:H5 x.1=some (.tup (ev x.2)):=Li.rt x (by simp);have pls:=O.pl;have hdst:fr (aF ws) (bF ws) k b<n:=by
    unfold fr;rw[oP hw,rL hw];split
    ·exact hab.2
    ·exact hab.1
   have elen:ln (aF ws) (bF ws) (coF ws) (at0 ps) k b=b*NM.rt ps ws[k]:=by unfold ln;rw[ED hw]
   refine(aQ _ (SqT.of f2) rfl ?_);refine(gZ _ _ (SqT.of tx5) rfl _ dx5 _ _ ob5 (cH T.x.l T.x.n0 (uS _ _ _ _ _) (gZ _ _ (SqL.of w1) w2 _ dx5 _ _ ob5 (xU T.x.l T.x.n1 (nV _ _ _ _ _) wr5 A'.p (ws[k]) ps rfl (SqT.of w3) (bU S5.p (by lia) (by lia) (.inl (show(-(2 ^ 64):Int)<b/\b<2 ^ 64 by rcases h1 with z | z<;>rw[z]<;>exact⟨by decide,by decide⟩)) ?_)))));refine(b8 s' A' ws ds ps gs rs k b (cH rfl S5 hk ?_));have hdist:x.2.d+b*NM.rt ps ws[k]=x.2.d+ln (aF ws) (bF ws) (coF ws) (at0 ps) k b:=by rw[elen]
   obtain⟨kvs,q1,q2,q3⟩:=id Li.q;have tk:row.take (i+1)=row.take i++[(k,b)]:=by rw[List.take_succ,hq];rfl
   have sub:∀k' b',((∃u∈R,∃l,ds[u.2.v]?=some l/\(k',b')∈l)\/(k',b')∈row.take (i+1))->((∃u∈R,∃l,ds[u.2.v]?=some l/\(k',b')∈l)\/(k',b')∈row.take i)\/(k'=k/\b'=b):=λk' b' z=>by
    rcases z with z | z
    ·exact .inl (.inl z)
    ·rw[tk]at z;rcases Zf.mp z with z | z
     ·exact .inl (.inr z)
     ·have:(k',b')=(k,b):=by simpa using z
      cases this;exact .inr ⟨rfl,rfl⟩
   dsimp only[b0];refine via (λσ' H6=>H6=H5/\∃nb:Bool,(nb=true->∀z,nri (fr (aF ws) (bF ws) k b)=some z->x.2.d+b*NM.rt ps ws[k]<=z)/\(nb=false->∃z,nri (fr (aF ws) (bF ws) k b)=some z/\z<=x.2.d+b*NM.rt ps ws[k]) /\
    σ'=[some (.ref s'),some (.ref D),some (.ref wl),some (.ref na),some (.ref rd),some (.ref x.1),some (vn x.2.v),some (vn k),some (.int b),some (.int (x.2.d+b*NM.rt ps ws[k])),some (vn (fr (aF ws) (bF ws) k b)),some (.bl nb)]) (λhr'=>?_) ?_
   ·refine(xWP _ (iO.k (k:=Sum.inl ((fr (aF ws) (bF ws) k b:Nat):Int)) q1) ?_);rw[q2];cases hz:nri (fr (aF ws) (bF ws) k b) with
    |none=>exact iT (hr' _ _ (kZ rfl true (λ_ z hz'=>(by rw[hz]at hz';cases hz')) (λz=>(by cases z)) rfl))
    |some z =>
     have dg:=iO.k (k:=Sum.inl ((fr (aF ws) (bF ws) k b:Nat):Int)) q1;rw[q2,hz]at dg;refine iF (xWP _ dg (hr' _ _ (kZ rfl _ (λc z' hz'=>?_) (λc=>(xWP z hz ?_)) rfl)))
     ·rw[hz]at hz';cases hz';exact Int.le_of_lt (Yf c)
     ·exact Int.not_lt.mp (of_decide_eq_false c)
   rintro σ' H6 ⟨rfl,nb,better,near,rfl⟩;have pass:(opn ws.length (loF ws) (hiF ws) (at0 gs) k b->nb=false)->∃(Wi':List (Addr×En)) (nri':Nat->Option Int),aJ H4 H4/\LS H H6 wl na rd Wi' (R++[x]) nri' (R.length*(2*ws.length)+(i+1))/\Wi'.length<=W'.length+(i+1)/\H6 ra=some (.lst (lr.map V.ref))/\(∀(j:Nat) q',row[j]?=some q'->∃r,lr[j]?=some r/\H6 r=some (.tup [vn q'.1,.int q'.2])) /\
     Rch (at0 rs) (sd (aF ws) (bF ws)) (fr (aF ws) (bF ws)) (ln (aF ws) (bF ws) (coF ws) (at0 ps)) (opn ws.length (loF ws) (hiF ws) (at0 gs)) n (λk b=>(∃u∈R,∃l,ds[u.2.v]?=some l/\(k,b)∈l)\/(k,b)∈row.take (i+1)) (es (R++[x])) (es Wi') nri':=λhop=>by
    refine(hJ Wi nri (aJ.refl _) (Li.more (by lia)) (by lia) e5 f5 (rci.pass (k:=k) (by_:=b) (λo=>?_) sub));obtain⟨z,z1,z2⟩:=near (hop o);exact(xO z z1 x.2 mxe hsd.symm (by rw[<-hdist];exact z2))
   refine(xWP nb rfl ?_);cases nb with
   |false =>
    obtain⟨Wi',nri',p⟩:=pass λ_=>rfl;exact iF (iF (kD Wi' nri' p.1 p.2.1 p.2.2.1 p.2.2.2.1 p.2.2.2.2.1 p.2.2.2.2.2 (pP _ _ _ _ _ rfl)))
   |true =>
    refine iT (b8 s' A' ws ds ps gs rs k b (bU rfl S5 hk O.gl ?_));by_cases ho:rm ws gs k b=some 0
    ·rw[ho];obtain⟨Wi',nri',p⟩:=pass λo=>Yg ho ((EG hk h1).mp o);exact iF (kD Wi' nri' p.1 p.2.1 p.2.2.1 p.2.2.2.1 p.2.2.2.2.1 p.2.2.2.2.2 (pP _ _ _ _ _ rfl))
    ·have ho':¬vo (rm ws gs k b)=V.int 0:=λz=>ho (by
      cases e:rm ws gs k b with
      |none=>rw[e]at z;cases z
      |some y=>rw[e]at z;rw[V.int.inj z])
     have op:=(EG hk h1).mpr ho;have cb:R.length*(2*ws.length)+(i+1)<=64*2000:=by
      have:R.length*(2*ws.length)<=63*2000:=Nat.mul_le_mul (by lia) (by lia)
      lia
     refine Sc.of (by cases rm ws gs k b<;>rfl) (iTb ?_ ?_)
     ·rw[Yc ho'];rfl
     refine(xWP _ (zN.k (k:=Sum.inl ((fr (aF ws) (bF ws) k b:Nat):Int)) q1 (Xq q3 (Xz (by omega:R.length*(2*ws.length)+i<200000) (by decide)))) ?_);have L7:=Li.setq q1 (fr (aF ws) (bF ws) k b) (x.2.d+b*NM.rt ps ws[k]);have nra:ra≠na:=bZ e5 q1 (by intro z;cases z);have e7:(upd H6 na (.dK (putK kvs (Sum.inl ((fr (aF ws) (bF ws) k b:Nat):Int)) (.int (x.2.d+b*NM.rt ps ws[k]))))) ra=some (.lst (lr.map V.ref)):=by rw[aE nra];exact e5
     have f7:∀(j:Nat) q',row[j]?=some q'->∃r,lr[j]?=some r/\(upd H6 na (.dK (putK kvs (Sum.inl ((fr (aF ws) (bF ws) k b:Nat):Int)) (.int (x.2.d+b*NM.rt ps ws[k]))))) r=some (.tup [vn q'.1,.int q'.2]):=λj q' hq'=>by
      obtain⟨r',z1,z2⟩:=f5 j q' hq';exact(xWP r' z1 (by rw[aE (bZ z2 q1 (by intro z;cases z))];exact z2))
     generalize upd H6 na (.dK (putK kvs (Sum.inl ((fr (aF ws) (bF ws) k b:Nat):Int)) (.int (x.2.d+b*NM.rt ps ws[k]))))=H7 at L7 e7 f7;refine⟨(by show 4<=ZW;decide),λTe hTe=>?_⟩;have k8:=aB hTe (.tup [.int (x.2.d+b*NM.rt ps ws[k]),vn (fr (aF ws) (bF ws) k b),vn k,.int b]);have L8:=L7.mono k8;have wb8:=L8.wb;refine(b9 wl Te Wi ⟨x.2.d+b*NM.rt ps ws[k],fr (aF ws) (bF ws) k b,k,b⟩ rfl L8.w L8.wt aA L8.dn ⟨ by lia,λW8 p8 dn8=>?_⟩);have nral:ra≠wl:=λz=>by
      have h0:H ra=some (.lst (lr.map V.ref)):=by
       obtain⟨ra',y1,y2⟩:=S.dr x.2.v _ (by rw[<-hrw]at hrow;exact hrow);obtain⟨lr',y3,_⟩:=y2;rw[ra1]at y1;cases y1;exact y3.trans ((L2'.g _ _ y3).symm.trans d1)
      rw[z,L8.nwl]at h0;cases h0
     have L9:=L8.setw (W':=W8) (λy hy=>by
      rcases Zn.mp (p8.mem_iff.mp hy) with rfl | hy
      ·exact aA
      ·exact L8.wt y hy) dn8 (by rw[p8.length_eq,Yq];have:=Li.wb;lia)
     refine(kD W8 _ (aJ.refl _) L9 (by rw[p8.length_eq,Yq];lia) (by rw[aE nral];exact k8 _ _ e7) (λj q' hq'=>?_) ?_ (pP _ _ _ _ _ rfl))
     ·obtain⟨r',z1,z2⟩:=f7 j q' hq';exact(xWP r' z1 (by rw[aE (bZ (k8 _ _ z2) L8.w (by intro z;cases z))];exact k8 _ _ z2))
     ·rw[hdist]at p8 ⊢;refine rci.put (k:=k) (by_:=b) (u:=x.2) op (by rcases h1 with z | z<;>rw[z]<;>decide) mxe hsd.symm top (sr.nn op) hdst (λz hz=>by rw[<-hdist];exact better rfl z hz) ?_ sub;exact p8.map (·.2)
  ·rintro σ H5 ⟨Wi,nri,_,Li,wi,e5,f5,rci,o7,o8,o9,o10,o11,rfl⟩;rw[Zq,d2,Yv]at rci;rw[Zq,d2]at Li wi;have er:(R++[x]).length=R.length+1:=by simp
   refine(lI _ ?_ Wi (R++[x]) nri rfl (Li.more (by rw[er,Nat.succ_mul R.length (2*ws.length)];lia)) (rci.pass (k:=0) (by_:=0) (λz=>Yg z.2 (by rintro(⟨z,_⟩ | ⟨z,_⟩)<;>cases z)) (λk b z=>?_)) (λu hu'=>?_) (pO _ _ _ _ _ _ _ rfl))
   ·rw[er,Zm,ZQ];have e1:n-R.length=(n-(R.length+1))+1:=by lia
    rw[e1,Nat.succ_mul (n-(R.length+1)) (2*ws.length+1)]
    lia
   ·obtain⟨u,hu',l,h1,h2⟩:=z;rcases Zf.mp hu' with hu' | hu'
    ·exact .inl (.inl (u4 u hu' l h1 h2))
    ·have:u=x:=by simpa using hu'
     subst this;rw[hrow]at h1;cases h1;exact .inl (.inr h2)
   ·rcases Zf.mp hu' with hu' | hu'
    ·exact nn u hu'
    ·have:u=x:=by simpa using hu'
     subst this
     lia
end
def j7(H:Hp)(rows:List Addr)(ds:List (List (Nat×Int))):Prop:=rows.length=ds.length/\∀(v:Nat) l,ds[v]?=some l->∃a,rows[v]?=some a/\rQ H a l
theorem j7.mono{H H':Hp}{rows:List Addr}{ds:List (List (Nat×Int))}(h:j7 H rows ds)(g:aJ H H'):j7 H' rows ds :=
 ⟨h.1,λv l hl=>let⟨a,h1,h2⟩:=h.2 v l hl;(xWP a h1 (h2.mono g))⟩
theorem j7.put{H:Hp}{rows lr:List Addr}{ds:List (List (Nat×Int))}{l:List (Nat×Int)}{v k:Nat}{b:Int}{a Tq:Addr}(h:j7 H rows ds)(nd:rows.Nodup)(hv:ds[v]?=some l)(ha:rows[v]?=some a)(d1:H a=some (.lst (lr.map V.ref)))(d2:lr.length=l.length)
  (d3:∀(j:Nat) q,l[j]?=some q->∃r,lr[j]?=some r/\H r=some (.tup [vn q.1,.int q.2])) (hT:H Tq=none):j7 (upd (upd H Tq (.tup [vn k,.int b])) a (.lst (lr.map V.ref++[.ref Tq]))) rows (ds.set v (l++[(k,b)])):=by
 have g:=aB hT (.tup [vn k,.int b]);have nT:Tq≠a:=(aC d1 hT).symm;have tp:∀{r:Addr}{xs:List V},H r=some (.tup xs)->(upd (upd H Tq (.tup [vn k,.int b])) a (.lst (lr.map V.ref++[.ref Tq]))) r=some (.tup xs):=λe=>by rw[aE (bZ e d1 (by intro z;cases z))];exact g _ _ e
 refine⟨by rw[ZP];exact h.1,λv' l' hl'=>?_⟩;by_cases z:v=v'
 ·subst z;rw[ZK (Zj.mp hv).1]at hl';cases hl';refine(xO a ha (lr++[Tq]) (by rw[aA,Zt];rfl) (by rw[Zm,Zm,d2];rfl) (λj q hq=>?_));rcases Xk j l.length with y | y
  ·rw[Zx y]at hq;obtain⟨r,r1,r2⟩:=d3 j q hq;exact(xWP r (by rw[Zx (by lia)];exact r1) (tp r2))
  ·rw[Zy y]at hq;have z0:j-l.length=0:=by
    have:=(Zj.mp hq).1;simp at this
    lia
   rw[z0]at hq;cases hq;exact(xWP Tq (by rw[Zy (by lia),d2,z0];rfl) (by rw[aE nT];exact aA))
 ·rw[ZJ z]at hl';obtain⟨a',h1,h2⟩:=h.2 v' l' hl';have na:a'≠a:=λy=>by
   subst y;obtain⟨p1,p2⟩:=Zj.mp h1;obtain⟨p3,p4⟩:=Zj.mp ha;exact z ((List.getElem_inj nd).mp (p4.trans p2.symm))
  exact(xWP a' h1 (h2.keep λc xs=>⟨λy e=>by subst y;rw[aE na];exact g _ _ e,tp⟩))
structure DrI(ws:List Way)(n i:Nat)(ds:List (List (Nat×Int))):Prop where
 len:ds.length=n
 mem:∀(v:Nat) (l:List (Nat×Int)),ds[v]?=some l->∀(k:Nat) (by_:Int),(k,by_)∈l↔k<i/\((by_=1/\aF ws k=v)\/(by_ = -1/\bF ws k=v))
 few:∀(v:Nat) (l:List (Nat×Int)),ds[v]?=some l->l.length<=2*i
theorem DrI.step{ws:List Way}{n i:Nat}{ds:List (List (Nat×Int))}(h:DrI ws n i ds){la lb:List (Nat×Int)}(h1:ds[aF ws i]?=some la)(h2:(ds.set (aF ws i) (la++[(i,1)]))[bF ws i]?=some lb) :
  DrI ws n (i+1) ((ds.set (aF ws i) (la++[(i,1)])).set (bF ws i) (lb++[(i,-1)])):=by
 have ha:=(Zj.mp h1).1;have hb:=(Zj.mp h2).1;rw[ZP]at hb;have mid:∀(v:Nat) l,(ds.set (aF ws i) (la++[(i,1)]))[v]?=some l->(∀(k:Nat) (by_:Int),(k,by_)∈l↔(k<i/\((by_=1/\aF ws k=v)\/(by_ = -1/\bF ws k=v)))\/(k=i/\by_=1/\aF ws i=v))/\l.length<=2*i+1:=λv l hl=>by
  by_cases z:aF ws i=v
  ·subst z;rw[ZK ha]at hl;cases hl;refine⟨λk b=>?_,by have:=h.few _ _ h1;rw[Zm];simp;lia⟩;rw[Zf,h.mem _ _ h1];simp
  ·rw[ZJ z]at hl;refine⟨λk b=>?_,by have:=h.few _ _ hl;lia⟩;rw[h.mem _ _ hl];simp[z]
 refine⟨by rw[ZP,ZP];exact h.len,λv l hl k b=>?_,λv l hl=>?_⟩
 ·by_cases z:bF ws i=v
  ·subst z;rw[ZK (by rw[ZP];exact hb)]at hl;cases hl;rw[Zf,(mid _ _ h2).1];constructor
   ·rintro((⟨y1,y2⟩ | ⟨rfl,rfl,y⟩) | y)
    ·exact⟨by lia,y2⟩
    ·exact⟨by lia,.inl ⟨rfl,y⟩⟩
    ·have:(k,b)=(i,-1):=by simpa using y
     cases this;exact⟨by lia,.inr ⟨rfl,rfl⟩⟩
   ·rintro⟨y1,y2⟩;by_cases e:k=i
    ·subst e;rcases y2 with⟨rfl,y⟩ | ⟨rfl,y⟩
     ·exact .inl (.inr (xPP rfl rfl y))
     ·exact .inr (by simp)
    ·exact .inl (.inl ⟨by lia,y2⟩)
  ·rw[ZJ z]at hl;rw[(mid _ _ hl).1];constructor
   ·rintro(⟨y1,y2⟩ | ⟨rfl,rfl,y⟩)
    ·exact⟨by lia,y2⟩
    ·exact⟨by lia,.inl ⟨rfl,y⟩⟩
   ·rintro⟨y1,y2⟩;by_cases e:k=i
    ·subst e;rcases y2 with⟨rfl,y⟩ | ⟨rfl,y⟩
     ·exact .inr (xPP rfl rfl y)
     ·exact Yg y z
    ·exact .inl ⟨by lia,y2⟩
 ·by_cases z:bF ws i=v
  ·subst z;rw[ZK (by rw[ZP];exact hb)]at hl;cases hl;have:=(mid _ _ h2).2;rw[Zm];simp
   lia
  ·rw[ZJ z]at hl;have:=(mid _ _ hl).2
   lia
section
def z9:Sp:=λvs H Q _=>∃(p na wa:Addr) (ns:List Int) (ws:List Way),vs=[.ref p]/\gI H p na wa ns ws/\(∀w∈ws,w.a<ns.length/\w.b<ns.length)/\ns.length<=1000/\ws.length<=1000 /\
 ∀(da:Addr) (rows:List Addr) (ds:List (List (Nat×Int))) (H':Hp),H da=none->(∀a∈rows,H a=none)->aJ H H'->H' da=some (.lst (rows.map V.ref))->j7 H' rows ds->zM ws ns.length ds->Q (.ref da) H'
theorem FF(T:Txt K mg t):Ok P w base T 33 1 z9:=by
 left
 obtain⟨p,na,wa,ns,ws,rfl,hN,hab,hn,hm,q⟩:=h;refine(xWP _ (by exists (e8 1 ["knot"] [none]),a7 ?_,aG,0,0,cL rfl (T.z 3) ?_,aG,0,2,3,aI,1,aG,3,2,aI,1,aG,3,2,1) ?_);obtain⟨wrs,e1,e2,e3⟩:=hN.w;refine(aH _ _ (SqT.of hN.tp) rfl ⟨ ⟨_,SqL.of hN.n⟩,λD hD=>?_⟩)
 let Pv1:Nat->List L2.V->L2.Hp->Prop:=λi ys H'=>∃rows:List Addr,ys=rows.map V.ref/\rows.length=i/\rows.Nodup/\(∀a∈rows,a≠D/\H a=none/\H' a=some (.lst []))/\aJ H H'/\H' D=some (.lst ys)
 refine comp_map ns.length Pv1
  (kE ([]) rfl rfl List.nodup_nil (λa ha=>(by cases ha)) (aB hD _) aA) ?_ ?_
 ·rintro i ys H' hi ⟨rows,rfl,hl,hnd,hrw,g1,eD⟩;refine⟨(cG _ _ (SqL.of (g1 _ _ hN.n)) (bR hi)),?_⟩;rintro x H'' ⟨rfl,hx⟩;refine(xPP ((Fills.refl _).set _ rfl) (by show 0<=ZW;decide) (λa ha=>?_));have g2:=aB ha (.lst []);have naD:a≠D:=(aC eD ha).symm;refine(sC (g2 _ _ eD) (by rw[Zq,hl];exact Xz (by lia:i<1000) (by decide)) (rows++[a]) (by rw[Zt];rfl) (by rw[Zm,hl];rfl) ?_ (λb hb=>?_) (λb o h=>by rw[aE (aC h hD)];exact g2 _ _ (g1 _ _ h)) aA)
  ·refine List.nodup_append.mpr (xPP hnd (by simp) (λb hb c hc=>?_));have:c=a:=by simpa using hc
   subst this;intro z;subst z;rw[(hrw _ hb).2.2]at ha;cases ha
  ·rcases Zf.mp hb with hb | hb
   ·obtain⟨r1,r2,r3⟩:=hrw b hb;exact(xPP r1 r2 (by rw[aE r1];exact g2 _ _ r3))
   ·have:b=a:=by simpa using hb
    subst this;exact(xPP naD (g1.free ha) (by rw[aE naD];exact aA))
 rintro ys H1 ⟨rows,rfl,hl,hnd,hrw,g1,eD⟩;refine⟨(xWP _ (SqL.of (g1 _ _ hN.n)) (by rw[Zq];exact ZC _)),?_⟩;refine(uZ _ _ (SqT.of (g1 _ _ hN.tp)) rfl wa rfl ⟨_,SqL.of (g1 _ _ e1)⟩ ?_)
 let Pv2:Nat->L2.St->L2.Hp->Prop:=λi σ H'=>aJ H H'/\H' D=some (.lst (rows.map V.ref))/\(∃ds,j7 H' rows ds/\DrI ws ns.length i ds)/\∃o2 o3:Option V,σ=[some (.ref p),some (.ref D),o2,o3]
 refine dD (xs:=wrs.map V.ref) Pv2
  (cH g1 eD (xWP (ZF ns.length []) ⟨by rw[hl,List.length_replicate],λv l hv=>?_⟩ ?_) (xWW _ _ rfl)) (λi σ H' _ h=>SqL.of (h.1 _ _ e1)) ?_ ?_
 ·obtain⟨hv1,hv2⟩:=Zj.mp hv;rw[List.getElem_replicate]at hv2;rw[List.length_replicate]at hv1;subst hv2;exact(xO (rows[v]) (Zz (by lia)) ([]) ((hrw _ (Zp _)).2.2) rfl (λj q' hq=>by simp at hq))
 ·refine⟨by simp,λv l hv k b=>?_,λv l hv=>?_⟩
  ·obtain⟨hv1,hv2⟩:=Zj.mp hv;rw[List.getElem_replicate]at hv2;subst hv2;simp
  ·obtain⟨hv1,hv2⟩:=Zj.mp hv;rw[List.getElem_replicate]at hv2;subst hv2;simp
 ·rintro i y σ H' Tp hy ⟨g2,eD2,⟨ds,ra,di⟩,o2,o3,rfl⟩ hTp;obtain⟨r,hr1,rfl⟩:=eU hy;obtain⟨w',hw,er⟩:=lK e2 e3 hr1;have hi:i<ws.length:=(Zj.mp hw).1;have ab:=hab w' (Zg hw);have g3:=aB hTp (.tup [vn i,.ref r]);have g23:=g2.trans g3;have ra3:=ra.mono g3;have eD3:=g3 _ _ eD2;have er3:=g23 _ _ er;have tT:(upd H' Tp (.tup [vn i,.ref r])) Tp=some (.tup [vn i,.ref r]):=aA;generalize upd H' Tp (.tup [vn i,.ref r])=H3 at g23 ra3 eD3 er3 tT;obtain⟨la,hla⟩:∃la,ds[w'.a]?=some la:=⟨_,Zz (by rw[di.len];exact ab.1)⟩
  obtain⟨a,a1,lr,d1,d2,d3⟩:=ra3.2 _ _ hla;have f1:=di.few _ _ hla;refine(aQ _ (SqT.of tT) rfl ?_);refine(aH _ _ (SqT.of er3) rfl (dI _ (.ref a) (SqL.of eD3) (bM (by rw[Zk,a1];rfl)) (.inl ⟨rfl,_,SqL.of d1⟩) (by show 2<=ZW;decide) (λT1 hT1=>?_)));have k1:=aB hT1 (.tup [vn i,.int 1]);refine(aQ _ (k1 _ _ d1) (by rw[Zq,d2];exact Xz (by lia:la.length<3000) (by decide)) ?_);have ra4:=ra3.put (k:=i) (b:=1) hnd hla a1 d1 d2 d3 hT1;have rfree:∀b∈rows,H b=none:=λb hb=>(hrw b hb).2.1;have g4:aJ H (upd (upd H3 T1 (.tup [vn i,.int 1])) a (.lst (lr.map V.ref++[.ref T1]))):=λb o h=>by rw[aE (aC h (rfree a (Zg a1)))];exact k1 _ _ (g23 _ _ h)
  have nDa:D≠a:=λz=>(hrw a (Zg a1)).1 z.symm;have eD4:(upd (upd H3 T1 (.tup [vn i,.int 1])) a (.lst (lr.map V.ref++[.ref T1]))) D=some (.lst (rows.map V.ref)):=by rw[aE nDa];exact k1 _ _ eD3
  generalize upd (upd H3 T1 (.tup [vn i,.int 1])) a (.lst (lr.map V.ref++[.ref T1]))=H4 at ra4 g4 eD4;obtain⟨lb,hlb⟩:∃lb,(ds.set w'.a (la++[(i,1)]))[w'.b]?=some lb:=⟨_,Zz (by rw[ZP,di.len];exact ab.2)⟩
  obtain⟨a',a1',lr',d1',d2',d3'⟩:=ra4.2 _ _ hlb;have e5:=di.step (la:=la) (lb:=lb) (by rw[oP hw];exact hla) (by rw[oP hw,rL hw];exact hlb);rw[oP hw,rL hw]at e5;have f2:=e5.few w'.b _ (ZK (by rw[ZP,di.len];exact ab.2));rw[Zm]at f2;refine(aH _ _ (SqT.of (g4 _ _ er)) rfl (dI _ (.ref a') (SqL.of eD4) (bM (by rw[Zk,a1'];rfl)) (.inl ⟨rfl,_,SqL.of d1'⟩) (by show 2<=ZW;decide) (λT2 hT2=>?_)));have k2:=aB hT2 (.tup [vn i,.int (-1)]);refine(aQ _ (k2 _ _ d1') (by rw[Zq,d2'];exact Xz (by lia:lb.length<3000) (by decide)) ?_);have ra5:=ra4.put (k:=i) (b:=-1) hnd hlb a1' d1' d2' d3' hT2;refine(cH (λb o h=>by rw[aE (aC h (rfree a' (Zg a1')))];exact k2 _ _ (g4 _ _ h)) ?_ (xWP _ ra5 e5) (xWW _ _ rfl));rw[aE (λz=>(hrw a' (Zg a1')).1 z.symm)];exact k2 _ _ eD4
 ·rintro σ H' ⟨g2,eD2,⟨ds,ra,di⟩,o2,o3,rfl⟩;rw[Zq,e2]at di;exact(q D rows ds H' hD (λa ha=>(hrw a ha).2.1) g2 eD2 ra ⟨di.len,di.mem,di.few⟩)
def zX:Sp:=λvs H Q _=>∃(p na wa ga:Addr) (ns:List Int) (ws:List Way) (gs:List Int),vs=[.ref p,.ref ga]/\gI H p na wa ns ws/\(∀w∈ws,w.a<ns.length/\w.b<ns.length)/\H ga=some (.lst (gs.map V.int))/\gs.length=ws.length/\∀(r:Addr) (H':Hp),H r=none->aJ H H'->H' r=some (.lst ((left ws gs ns).map V.int))->Q (.ref r) H'
theorem E5(T:Txt K mg t):Ok P w base T 28 1 zX:=by
 left
 obtain⟨p,na,wa,ga,ns,ws,gs,rfl,hN,hO,hG,hlen,q⟩:=h;obtain⟨rs,e1,e2,e3⟩:=hN.w;refine(xWP _ (by exists 2,bS dE rfl (T.z 7) boot_list ?_,aG,0,lP rfl (T.z 14) ?_,aG,0,1,3,4,iC (pv 2) ?_ gE (pv 4) zB set_list,aG,3,iC (pv 2) ?_ gE (pv 4) jX set_list,aG,3,2) ?_);refine(bO _ _ (SqT.of hN.tp) rfl na _ rfl (.inl (SqL.of hN.n)) (λla hla=>?_));have g1:=aB hla (.lst (ns.map V.int));refine(gZ _ _ (SqT.of (g1 _ _ hN.tp)) rfl wa ga _ _ rfl (xPP (g1 _ _ e1) (g1 _ _ hG) ?_));refine pM (λi σ H'=>aJ H H'/\H' la=some (.lst ((left (ws.take i) (gs.take i) ns).map V.int))/\∃o3 o4:Option V,σ=[some (.ref p),some (.ref ga),some (.ref la),o3,o4])
  (by rw[Zq,Zq,e2,hlen]) (xPP g1 aA (xWW _ _ rfl)) (λi σ H' _ h=>⟨h.1 _ _ e1,h.1 _ _ hG⟩) ?_ ?_
 ·rintro i x y σ H1 Tp hx hy ⟨g2,el,o3,o4,rfl⟩ hTp;obtain⟨r,hr1,rfl⟩:=eU hx;obtain⟨hi,rfl⟩:=jC hy;obtain⟨w,hw,er⟩:=lK e2 e3 hr1;obtain⟨ha,hb⟩:=hO w (Zg hw);have hgi:gs[i]?=some (at0 gs i):=by unfold at0;simp[List.getD,hi]
  have g3:=g2.trans (aB hTp (.tup [.ref r,.int (at0 gs i)]));have el3:=aB hTp (.tup [.ref r,.int (at0 gs i)]) _ _ el;have ll:(left (ws.take i) (gs.take i) ns).length=ns.length:=mQ _ _ _;generalize hL:left (ws.take i) (gs.take i) ns=L at el3 ll;refine(aQ _ (SqT.of aA) rfl ?_);refine(aH _ _ (SqT.of (g3 _ _ er)) rfl (aP _ _ (SqL.of el3) (by lia) (aU (j:=w.a) (by lia) rfl) (aH _ w.a el3 (fV (by rw[Zq];lia) rfl) ?_)));rw[show(L.map V.int).set w.a (V.int (at0 L w.a-at0 gs i))=(L.set w.a (at0 L w.a-at0 gs i)).map V.int by rw[ZG]];have g4:aJ H (upd (upd H1 Tp (.tup [.ref r,.int (at0 gs i)])) la (.lst ((L.set w.a (at0 L w.a-at0 gs i)).map V.int))):=λb o h=>by rw[aE (aC h hla)];exact g3 _ _ h
  refine(aH _ _ (SqT.of (g4 _ _ er)) rfl (aP _ _ (SqL.of aA) (by lia) (aU (j:=w.b) (by simp;lia) rfl) (aH _ w.b aA (fV (by simp;lia) rfl) ?_)));refine(xPP ?_ ?_ (xWW _ _ rfl))
  ·exact λb o h=>by rw[aE (aC h hla)];exact g4 _ _ h
  ·rw[aA,sY hw hgi,hL];unfold NM.step;simp only[ZG]
 ·rintro σ H1 ⟨g2,el,o3,o4,rfl⟩;rw[Zq,e2,Yv,<-hlen,Yv]at el;exact(q la H1 hla g2 el)
def g0(ps:List Int)(w:Way):Int:=if NM.rt ps w<0 then w.hi.getD 0 else w.lo
def D0(C:Addr):Sp:=λvs H Q _=>∃(x dx p pa na wa:Addr) (ns:List Int) (ws:List Way) (ps:List Int),vs=[.ref x,.ref p,.ref pa]/\H x=some (.ins C dx [])/\gI H p na wa ns ws/\H pa=some (.lst (ps.map V.int))/\ps.length=ns.length/\(∀w∈ws,w.a<ns.length/\w.b<ns.length)/\ns.length<=1000/\ws.length<=1000/\(∀w∈ws,NM.rt ps w<0->∃h,w.hi=some h) /\
 ∀(H':Hp) (A:SA) (ds:List (List (Nat×Int))),(∀b o,b≠x->H b=some o->H' b=some o)->SAt C H' x A ws ds ps (ws.map (g0 ps)) (left ws (ws.map (g0 ps)) ns)->zM ws ns.length ds->H A.p=none->H A.g=none->H A.r=none->Q .non H'
theorem IZ(T:Txt K mg t)(G_rate:Ok P w base T 27 1 (p7))(G_rests:Ok P w base T 28 1 zX)(G_doors_of:Ok P w base T 33 1 z9) :
  jE P w K mg base CX0 2 t.ai t.di ["self","net","prices"] (D0 (t.c 0)):=by
 refine T.x.F.ok qB (λvs H Q E h=>?_) (λcdv A outer s H vs Q E hr h=>?_)
 ·obtain⟨x,dx,p,pa,na,wa,ns,ws,ps,rfl,_⟩:=h;rfl
 obtain⟨x,dx,p,pa,na,wa,ns,ws,ps,rfl,hx,hN,hP,pl,hab,hn,hm,hhi,q⟩:=h;refine(xWP _ (by exists qH (pv 0) ?_ rfl,aG,1,qH (pv 0) ?_ rfl,bS dE rfl (T.z 7) boot_list ?_,2,qH (pv 0) ?_ rfl,(fZ ["way","prices"] [none,some 2]),a7 ?_,aG,1,0,jQ ?_ ?_ ?_,bT G_rate hr (T.f 27) aZ ?_,0,1,aG,0,aG,0,qH (pv 0) ?_ rfl,bT G_rests hr (T.f 28) aZ ?_,1,dN (pv 0) rfl,qH (pv 0) ?_ rfl,bT G_doors_of hr (T.f 33) aZ ?_,1) ?_);obtain⟨wrs,e1,e2,e3⟩:=hN.w;refine(xI _ _ (SqT.of hN.tp) rfl _ dx ([]) hx T.x.l (xPP T.x.n0 (by show 0<1000;decide) ?_));have K1:∀b o,b≠x->H b=some o->(upd H x (.ins (t.c 0) dx (bC "ways" (.ref wa) []))) b=some o:=λb o z h=>by rw[aE z];exact h
 have X1:(upd H x (.ins (t.c 0) dx (bC "ways" (.ref wa) []))) x=some (.ins (t.c 0) dx (bC "ways" (.ref wa) [])):=aA;have F1:∀b,(upd H x (.ins (t.c 0) dx (bC "ways" (.ref wa) []))) b=none->H b=none:=λb z=>by
  by_cases y:b=x
  ·subst y;rw[aA]at z;cases z
  ·rw[aE y]at z;exact z
 generalize upd H x (.ins (t.c 0) dx (bC "ways" (.ref wa) []))=H1 at K1 X1 F1;have nk:∀{b:Addr}{o:HO},H b=some o->(∀C' d f,o≠.ins C' d f)->b≠x:=λe z=>bZ e hx (λy=>z _ _ _ y);have wk:∀{H':Hp},(∀b o,b≠x->H b=some o->H' b=some o)->gI H' p na wa ns ws:=λk=>⟨k _ _ (nk hN.tp (λ_ _ _ y=>by cases y)) hN.tp,k _ _ (nk hN.n (λ_ _ _ y=>by cases y)) hN.n,(aQ wrs (k _ _ (nk e1 (λ_ _ _ y=>by cases y)) e1) e2 (λi w hw=>by
  obtain⟨r,r1,r2⟩:=e3 i w hw;exact(xWP r r1 (k _ _ (nk r2 (λ_ _ _ y=>by cases y)) r2))))⟩
 have hP1:=K1 _ _ (nk hP (λ_ _ _ y=>by cases y)) hP;refine(aH pa _ rfl (.inl (SqL.of hP1)) (λl1 hl1=>?_));have s1:=aB hl1 (.lst (ps.map V.int));refine(dY _ dx _ (s1 _ _ X1) T.x.l T.x.n1 (by show 1<1000;decide) ?_);have nx1:l1≠x:=(aC X1 hl1).symm;have K2:∀b o,b≠x->H1 b=some o->(upd (upd H1 l1 (.lst (ps.map V.int))) x (.ins (t.c 0) dx (bC "prices" (.ref l1) (bC "ways" (.ref wa) [])))) b=some o:=λb o z h=>by rw[aE z];exact s1 _ _ h
 have X2:(upd (upd H1 l1 (.lst (ps.map V.int))) x (.ins (t.c 0) dx (bC "prices" (.ref l1) (bC "ways" (.ref wa) [])))) x=some (.ins (t.c 0) dx (bC "prices" (.ref l1) (bC "ways" (.ref wa) []))):=aA;have P2:(upd (upd H1 l1 (.lst (ps.map V.int))) x (.ins (t.c 0) dx (bC "prices" (.ref l1) (bC "ways" (.ref wa) [])))) l1=some (.lst (ps.map V.int)):=by rw[aE nx1];exact aA
 have F2:∀b,(upd (upd H1 l1 (.lst (ps.map V.int))) x (.ins (t.c 0) dx (bC "prices" (.ref l1) (bC "ways" (.ref wa) [])))) b=none->H1 b=none:=λb z=>by
  by_cases y:b=x
  ·subst y;rw[aA]at z;cases z
  ·rw[aE y]at z;exact s1.free z
 generalize upd (upd H1 l1 (.lst (ps.map V.int))) x (.ins (t.c 0) dx (bC "prices" (.ref l1) (bC "ways" (.ref wa) [])))=H2 at K2 X2 P2 F2;have K02:∀b o,b≠x->H b=some o->H2 b=some o:=λb o z h=>K2 b o z (K1 b o z h);have N2:=wk K02;obtain⟨wrs2,e12,e22,e32⟩:=N2.w;have hP2:=K02 _ _ (nk hP (λ_ _ _ y=>by cases y)) hP;refine(aH _ _ (SqT.of N2.tp) rfl ⟨ ⟨_,SqL.of e12⟩,λl2 hl2=>?_⟩);have lr:∀{i:Nat}(hi:i<ws.length),∃r,(wrs2.map V.ref)[i]?=some (.ref r)/\H2 r=some (.tup (wv ws[i])):=λ{i} hi=>by
  obtain⟨r,q1,q2⟩:=e32 i ws[i] (Zz hi);exact(xWP r (by rw[Zk,q1];rfl) q2)
 refine bD ws.length (λi=>.int (at0 (ws.map (g0 ps)) i)) hl2 (by lia) (λi H' hi g=>by obtain⟨r,r1,_⟩:=lr hi;exact(cG _ _ (SqL.of (g _ _ e12)) r1)) (λH' g=>(xWP _ (SqL.of (g _ _ e12)) (by rw[Zq];lia))) ?_ ?_
 ·rintro i H' y H'' k hi g ⟨rfl,hy⟩ hk;obtain⟨r,r1,r2⟩:=lr hi;have ey:=hy _ (SqL.of (g _ _ e12));rw[r1]at ey;cases ey;have hw:=Zp hi;have ag:at0 (ws.map (g0 ps)) i=g0 ps ws[i]:=by unfold at0;simp[List.getD,hi]
  rw[ag]at hk;refine⟨(Fills.refl _).set _ rfl,?_⟩;refine(b9 r pa (ws[i]) ps rfl (SqT.of (g _ _ r2)) (g _ _ hP2) (by rw[pl];exact(hab _ hw).1) (by rw[pl];exact(hab _ hw).2) (i2 (λc=>?_) (λc=>?_)))
  ·have c':NM.rt ps ws[i]<0:=Yf c;obtain⟨h,eh⟩:=hhi _ hw c';have eg:g0 ps ws[i]=h:=by unfold g0;rw[Yb c',eh];rfl
   rw[eg]at hk;have e4:atI (wv ws[i]) 3=some (.int h):=by show some (vo ws[i].hi)=_;rw[eh];rfl
   exact(aH _ _ (SqT.of (g _ _ r2)) e4 (hk _ (aJ.refl _)))
  ·have c':¬NM.rt ps ws[i]<0:=λz=>c (Ye z);have eg:g0 ps ws[i]=ws[i].lo:=by unfold g0;rw[Ya c']
   rw[eg]at hk;exact(aH _ _ (SqT.of (g _ _ r2)) rfl (hk _ (aJ.refl _)))
 intro H3 g3 e3';have eg:(ZR ws.length).map (λi=>V.int (at0 (ws.map (g0 ps)) i))=(ws.map (g0 ps)).map V.int:=by
  apply Yt;intro i;by_cases hi:i<ws.length
  ·rw[Zk,Yk hi,Zk,Zk,Zz hi];unfold at0;simp[List.getD,hi]
  ·rw[Zr (by simp;lia),Zr (by simp;lia)]
 rw[eg]at e3';refine(dY _ dx _ (g3 _ _ X2) T.x.l T.x.n2 (by show 2<1000;decide) ?_);have nx2:l2≠x:=(aC X2 hl2).symm;have K4:∀b o,b≠x->H2 b=some o->(upd H3 x (.ins (t.c 0) dx (bC "going" (.ref l2) (bC "prices" (.ref l1) (bC "ways" (.ref wa) []))))) b=some o:=λb o z h=>by rw[aE z];exact g3 _ _ h
 have X4:(upd H3 x (.ins (t.c 0) dx (bC "going" (.ref l2) (bC "prices" (.ref l1) (bC "ways" (.ref wa) []))))) x=some (.ins (t.c 0) dx (bC "going" (.ref l2) (bC "prices" (.ref l1) (bC "ways" (.ref wa) [])))):=aA;have G4:(upd H3 x (.ins (t.c 0) dx (bC "going" (.ref l2) (bC "prices" (.ref l1) (bC "ways" (.ref wa) []))))) l2=some (.lst ((ws.map (g0 ps)).map V.int)):=by rw[aE nx2];exact e3'
 have F4:∀b,(upd H3 x (.ins (t.c 0) dx (bC "going" (.ref l2) (bC "prices" (.ref l1) (bC "ways" (.ref wa) []))))) b=none->H2 b=none:=λb z=>by
  by_cases y:b=x
  ·subst y;rw[aA]at z;cases z
  ·rw[aE y]at z;exact g3.free z
 generalize upd H3 x (.ins (t.c 0) dx (bC "going" (.ref l2) (bC "prices" (.ref l1) (bC "ways" (.ref wa) []))))=H4 at K4 X4 G4 F4;have K04:∀b o,b≠x->H b=some o->H4 b=some o:=λb o z h=>K4 b o z (K02 b o z h);have P4:=K4 _ _ nx1 P2;have lg:(bC "going" (.ref l2) (bC "prices" (.ref l1) (bC "ways" (.ref wa) [])):List (Str×V)).lookup ("going" : Str)=some (.ref l2):=by rw[a9,Yb rfl]
 refine(aY _ dx _ _ X4 T.x.l T.x.n2 lg (cQ p na wa l2 ns ws (ws.map (g0 ps)) rfl (wk K04) (cH hab G4 (by rw[Zq]) (λl3 H5 hl3 g5 R5=>?_))));refine(dY _ dx _ (g5 _ _ X4) T.x.l T.x.n3 (by show 3<1000;decide) ?_);have nx3:l3≠x:=(aC X4 hl3).symm;have K6:∀b o,b≠x->H4 b=some o->(upd H5 x (.ins (t.c 0) dx (bC "resting" (.ref l3) (bC "going" (.ref l2) (bC "prices" (.ref l1) (bC "ways" (.ref wa) [])))))) b=some o:=λb o z h=>by rw[aE z];exact g5 _ _ h
 have X6:(upd H5 x (.ins (t.c 0) dx (bC "resting" (.ref l3) (bC "going" (.ref l2) (bC "prices" (.ref l1) (bC "ways" (.ref wa) [])))))) x=some (.ins (t.c 0) dx (bC "resting" (.ref l3) (bC "going" (.ref l2) (bC "prices" (.ref l1) (bC "ways" (.ref wa) []))))):=aA;have R6:(upd H5 x (.ins (t.c 0) dx (bC "resting" (.ref l3) (bC "going" (.ref l2) (bC "prices" (.ref l1) (bC "ways" (.ref wa) [])))))) l3=some (.lst ((left ws (ws.map (g0 ps)) ns).map V.int)):=by rw[aE nx3];exact R5
 have F6:∀b,(upd H5 x (.ins (t.c 0) dx (bC "resting" (.ref l3) (bC "going" (.ref l2) (bC "prices" (.ref l1) (bC "ways" (.ref wa) [])))))) b=none->H4 b=none:=λb z=>by
  by_cases y:b=x
  ·subst y;rw[aA]at z;cases z
  ·rw[aE y]at z;exact g5.free z
 generalize upd H5 x (.ins (t.c 0) dx (bC "resting" (.ref l3) (bC "going" (.ref l2) (bC "prices" (.ref l1) (bC "ways" (.ref wa) [])))))=H6 at K6 X6 R6 F6;have K06:∀b o,b≠x->H b=some o->H6 b=some o:=λb o z h=>K6 b o z (K04 b o z h);have P6:=K6 _ _ nx1 P4;have G6:=K6 _ _ nx2 G4;refine(bB p na wa ns ws rfl (wk K06) hab hn ⟨ hm,λda rows ds H7 hda hrows g7 D7 ra dk=>?_⟩);refine(dY _ dx _ (g7 _ _ X6) T.x.l T.x.n4 (by show 4<1000;decide) ?_);have nxd:da≠x:=(aC X6 hda).symm;have K8:∀b o,b≠x->H7 b=some o->(upd H7 x (.ins (t.c 0) dx (mX wa l1 l2 l3 da))) b=some o:=λb o z h=>by rw[aE z];exact h
 have wk8:=wk (H':=upd H7 x (.ins (t.c 0) dx (mX wa l1 l2 l3 da))) λb o z h=>K8 _ _ z (g7 _ _ (K06 b o z h));have fr1:H l1=none:=F1 _ hl1;have fr2:H l2=none:=F1 _ (F2 _ hl2);have fr3:H l3=none:=F1 _ (F2 _ (F4 _ hl3));have no:∀{l:Addr}{o:HO},H6 l=some o->H l=none->l∉wa::da::rows:=λ{l o} h6 h0 z=>by
  rcases Zn.mp z with rfl | z
  ·rw[e1]at h0;cases h0
  ·rcases Zn.mp z with rfl | z
   ·rw[hda]at h6;cases h6
   ·rw[hrows _ z]at h6;cases h6
 refine q (upd H7 x (.ins (t.c 0) dx (mX wa l1 l2 l3 da))) ⟨wa,l1,l2,l3,da,rows⟩ ds (λb o z h=>K8 _ _ z (g7 _ _ (K06 b o z h))) ⟨⟨dx,aA⟩,wk8.w,K8 _ _ nx1 (g7 _ _ P6),K8 _ _ nx2 (g7 _ _ G6),K8 _ _ nx3 (g7 _ _ R6),K8 _ _ nxd D7,ra.1,λi l hl=>?_,no P6 fr1,no G6 fr2,no R6 fr3,?_,?_,?_⟩ dk fr1 fr2 fr3
 ·obtain⟨a,a1,a2⟩:=ra.2 i l hl;exact(xWP a a1 (a2.keep λb xs=>⟨λy e=>K8 _ _ (bZ e (g7 _ _ X6) (by intro z;cases z)) e,λe=>K8 _ _ (bZ e (g7 _ _ X6) (by intro z;cases z)) e⟩))
 ·intro z;have z:l1=l2:=z;rw[<-z,P2]at hl2;cases hl2
 ·intro z;have z:l1=l3:=z;rw[<-z,P4]at hl3;cases hl3
 ·intro z;have z:l2=l3:=z;rw[<-z,G4]at hl3;cases hl3
end
end K32
namespace K32
open PySem L2 PyProof.Rows NM
def Unl(ns:List Int)(n:Nat):Prop:=ns≠[]/\(∀x∈ns,0<=x/\x<(n:Int))/\ns.Nodup
theorem wK(x:Int)(ns:List Int):inV (.int x) (ns.map V.int)=decide (x∈ns):=by
 unfold inV;rw[Xh,List.any_eq_true,decide_eq_true_iff];constructor
 ·rintro⟨y,hy,h⟩;obtain⟨z,hz,rfl⟩:=Zh.mp hy;have:z=x:=by simpa[eqV] using h
  exact this▸hz
 ·intro h;exact(xWP (.int x) (Zh.mpr (xWP x h rfl)) (by simp[eqV]))
theorem c7(ns:List Int):(ns.map V.int).all j3=true:=by
 rw[ZD];intro y hy;obtain⟨n,_,rfl⟩:=Zh.mp hy;rfl
end K32
namespace NM
open L2 (at0)
def cc(f:Nat->Bool)(w:Way):Option Int:=if f w.a=true/\f w.b=false then w.hi else if f w.b=true/\f w.a=false then some (-w.lo) else some 0
end NM
namespace K32
open PySem L2 PyProof.Rows NM
def fof(ns:List Int)(k:Nat):Bool:=decide ((k:Int)∈ns)
def CH(ms ns:List Int):List Int:=(ZR ns.length).map λi=>at0 ms (at0 ns i).toNat
def CG(ms ns:List Int):Int:=(CH ms ns).sum
def zK(ms ns:List Int)(ws:List Way):Prop:=Unl ns ms.length/\∃m,bnd (cc (fof ns)) ws 0=some m/\m<CG ms ns
noncomputable def wB(ms ns:List Int)(ws:List Way):Bool:=@decide (zK ms ns ws) (Classical.propDecidable _)
theorem uH{ms ns:List Int}{ws:List Way}(h:zK ms ns ws):wB ms ns ws=true:=by unfold wB;simp[h]
theorem uI{ms ns:List Int}{ws:List Way}(h:¬zK ms ns ws):wB ms ns ws=false:=by unfold wB;simp[h]
theorem AO{ms ns:List Int}{ws:List Way}(h:wB ms ns ws=true):zK ms ns ws:=by unfold wB at h;simpa using h
def KC:Sp:=λvs H Q _=>∃(p na wa la:Addr) (ms:List Int) (ws:List Way) (ns:List Int),vs=[.ref p,.ref la]/\gI H p na wa ms ws/\oR ms ws/\H la=some (.lst (ns.map V.int))/\ns.length<60/\∀H',aJ H H'->Q (.bl (wB ms ns ws)) H'
end K32
namespace FL
open NM L2
theorem HQ(ns:List Int):sm ns.length (at0 ns)=ns.sum:=by
 unfold sm;congr 1;apply Yt;intro i;by_cases h:i<ns.length
 ·rw[Zk,Yk h,Zz h];unfold at0;simp[List.getD,h]
 ·rw[Zr (by simp;lia),Zr (by lia)]
theorem LW{m n:Nat}{a b:Nat->Nat}{need g:Nat->Int}(ha:∀k,k<m->a k<n)(hb:∀k,k<m->b k<n):sm n (rs m a b need g)=sm n need:=by
 have e:∀c:Nat->Nat,(∀k,k<m->c k<n)->sm n (λv=>sm m (λk=>if c k=v then g k else 0))=sm m g:=λc hc=>by
  have:=AC (n:=n) (λ_=>1) c g m hc;rw[fG (g:=λv=>sm m (λk=>if c k=v then g k else 0)) λv _=>Int.one_mul _,fG (m:=m) (g:=g) λk _=>Int.one_mul _]at this;exact this
 have e1:sm n (rs m a b need g)=sm n need-sm n (λv=>sm m (λk=>if a k=v then g k else 0))+sm n (λv=>sm m (λk=>if b k=v then g k else 0)):=by
  rw[<-LR,<-EA];rfl
 rw[e1,e a ha,e b hb]
 lia
theorem Back.len{src:Nat->Int->Nat}{R:List En}{i c:Nat}{bs:List (Nat×Int)}(h:Back src R i bs c):bs.length<=i:=by
 induction h with
 |stop _ _=>exact YZ _
 |step _ _ hj _ _ _ ih=>rw[Yq];lia
theorem Back.last{src:Nat->Int->Nat}{R:List En}{i c:Nat}{bs:List (Nat×Int)}(h:Back src R i bs c):bs=[]\/∃q,bs.getLast?=some q/\src q.1 q.2=c:=by
 induction h with
 |stop _ _=>exact .inl rfl
 |@step i j c e u ps g hb hj gu uv p ih =>
  refine .inr ?_;rcases ih with rfl | ⟨q,h1,h2⟩
  ·refine(xWP (e.k,e.by_) rfl ?_);cases p with
   |stop g' hb' =>
    rw[gu]at g';cases g';exact uv.symm
  ·refine(xWP q ?_ h2);cases ps with
   |nil=>cases h1
   |cons y ps=>rw[List.getLast?_cons_cons];exact h1
end FL
namespace K32
open PySem L2 PyProof.Rows NM FL
theorem NS{ws:List Way}{ps:List Int}(hb:∀w∈ws,∀h,w.hi=some h->w.lo<=h)(hhi:∀w∈ws,NM.rt ps w<0->∃h,w.hi=some h):gG ws.length (aF ws) (bF ws) (loF ws) (hiF ws) (coF ws) (at0 (ws.map (g0 ps))) (at0 ps):=by
 have at_:∀{k:Nat}(hk:k<ws.length),at0 (ws.map (g0 ps)) k=g0 ps ws[k]/\ws[k]?=some ws[k]:=λ{k} hk=>⟨by unfold at0;simp[List.getD,hk],Zz hk⟩
 refine⟨λk hk=>?_,λk hk h hh=>?_,λk hk c=>?_,λk hk c=>?_⟩
 ·obtain⟨e1,e2⟩:=at_ hk;rw[e1,yZ e2];unfold g0;split
  ·rename_i c
   obtain⟨h,eh⟩:=hhi _ (Zp hk) c;rw[eh];exact hb _ (Zp hk) h eh
  ·exact Int.le_refl _
 ·obtain⟨e1,e2⟩:=at_ hk;rw[uR e2]at hh;rw[e1];unfold g0;split
  ·rw[hh];exact Int.le_refl _
  ·exact hb _ (Zp hk) h hh
 ·obtain⟨e1,e2⟩:=at_ hk;rw[ED e2]at c;rw[e1,yZ e2];unfold g0;rw[Ya (by lia)]
 ·obtain⟨e1,e2⟩:=at_ hk;rw[ED e2]at c;rw[e1,uR e2];unfold g0;obtain⟨h,eh⟩:=hhi _ (Zp hk) c;rw[Yb c,eh];rfl
section
def vG:Sp:=λvs H Q _=>∃(p pa na wa:Addr) (ns:List Int) (ws:List Way) (ps:List Int),vs=[.ref p,.ref pa]/\gI H p na wa ns ws/\oR ns ws/\ns.length<60/\H pa=some (.lst (ps.map V.int))/\ps.length=ns.length/\(∀w∈ws,NM.rt ps w<0->∃h,w.hi=some h) /\
 (∀(r l1 l2 l3:Addr) (lot:List Int) (H':Hp),H l3=none->aJ H H'->H' r=some (.tup [.ref l1,.ref l2,.ref l3])->H' l3=some (.lst (lot.map V.int))->lot≠[]->lot.length<=ns.length->Q (.ref r) H') /\
 (∀(r ga pb l3:Addr) (gs ps':List Int) (H':Hp),H pb=none->aJ H H'->H' r=some (.tup [.ref ga,.ref pb,.ref l3])->H' ga=some (.lst (gs.map V.int))->H' pb=some (.lst (ps'.map V.int))->H' l3=some (.lst [])->gs.length=ws.length->ps'.length=ns.length->Q (.ref r) H')
theorem CA(T:Txt K mg t)(G_Search_init:jE P w K mg base CX0 2 t.ai t.di ["self","net","prices"] (D0 (t.c 0)))(G_reach:Ok P w base T 35 2 (zY (t.c 0)))(G_raise_prices:Ok P w base T 39 1 (zZ (t.c 0)))
  (G_path_to:Ok P w base T 40 2 (DU (t.c 0))) (G_push:Ok P w base T 41 2 (DS (t.c 0))):Ok P w base T 34 4 vG:=by
 left
 obtain⟨p,pa,na,wa,ns,ws,ps,rfl,hN,hO,h60,hP,pl,hhi,qlot,qbest⟩:=h;refine(xWP _ (by exists 2,IH T.x.k G_Search_init (hr.mono (by decide)) rfl (T.m 0) T.x.b .nil aZ ?_,0,1,bH ?_ (λ_=>rfl),aN (CW rfl) rfl (T.z 1) boot_any ?_,dN (pv 2) rfl,3,bT G_reach hr (T.f 35) aZ ?_,2,4,lX,bS (zI rfl) rfl (T.z 7) boot_list ?_,3,aI,dN (pv 2) rfl,4,aN (uV rfl) rfl (T.z 12) boot_sorted ?_,3,bT G_raise_prices hr (T.f 39) aZ ?_,2,3,4,bT G_push hr (T.f 41) aZ ?_,2,bT G_path_to hr (T.f 40) aZ ?_,2,3,4,4,dN (pv 2) rfl,dN (pv 2) rfl) ?_);have hab:∀w∈ws,w.a<ns.length/\w.b<ns.length:=λw hw=>⟨(hO.w w hw).a,(hO.w w hw).b⟩
 have haF:∀k,k<ws.length->aF ws k<ns.length:=λk hk=>by rw[oP (Zz hk)];exact(hab _ (Zp hk)).1
 have hbF:∀k,k<ws.length->bF ws k<ns.length:=λk hk=>by rw[rL (Zz hk)];exact(hab _ (Zp hk)).2
 refine(λx dx nx ndx nex=>?_);have s0:aJ H (upd (upd H dx (.own x)) x (.ins (t.c 0) dx [])):=λb o e=>by rw[aE (aC e nx),aE (aC e ndx)];exact e
 refine(b8 x dx p pa na wa ns ws ps (xV rfl aA (hN.mono s0) (s0 _ _ hP) pl hab hO.n2 hO.w2 hhi (λH1 A1 ds k1 S1 dk f1 f2 f3=>⟨rfl,?_⟩)));have g1:aJ H H1:=λb o e=>k1 _ _ (aC e nx) (s0 _ _ e);have gl0:(ws.map (g0 ps)).length=ws.length:=by rw[Zq]
 let Wv1:Nat->L2.St->L2.Hp->Prop:=λm σ H'=>∃(ps gs rs:List Int),m=(sm ns.length (λv=>max (at0 rs v) 0)).toNat/\aJ H H'/\SAt (t.c 0) H' x A1 ws ds ps gs rs/\SOk ns.length ws ds ps gs rs/\gG ws.length (aF ws) (bF ws) (loF ws) (hiF ws) (coF ws) (at0 gs) (at0 ps) /\
  (∀v,v<ns.length->at0 rs v=FL.rs ws.length (aF ws) (bF ws) (at0 ns) (at0 gs) v)/\∃o3 o4:Option V,σ=[some (.ref p),some (.ref pa),some (.ref x),o3,o4]
 refine(xWP Wv1 (b9 _ ps _ _ rfl g1 S1 ⟨pl,gl0,mQ _ _ _,hab,dk⟩ (NS (λw hw h hh=>((hO.w w hw).hi h hh).1) hhi) ⟨ λv _=>JK gl0 hab v,(xWW _ _ rfl)⟩) ?_);have fp:=s0.free f1;have fg:=s0.free f2;have fr':=s0.free f3;clear S1 k1 g1 gl0 hhi pl hP ps;rintro m σ H' ⟨ps,gs,rs,rfl,g,S,O,sr,hrs,o3,o4,rfl⟩;obtain⟨dx1,ob⟩:=S.ob;have hz:sm ns.length (at0 rs)=0:=by
  rw[fG hrs,LW haF hbF,HQ,hO.z]
 refine(aY _ dx1 _ _ ob T.x.l T.x.n3 (eI _ _ _ _ _) (l8 A1.r rs rfl (SqL.of S.r) _ rfl ?_));have hany:rs.any (· != 0)=true↔∃v,v<ns.length/\at0 rs v≠0:=by
  rw[List.any_eq_true];constructor
  ·rintro⟨y,hy,hne⟩;obtain⟨i,hi,rfl⟩:=Yy.mp hy;refine(xWP i (by rw[<-O.rl];exact hi) ?_);unfold at0;simpa[List.getD,hi] using hne
  ·rintro⟨v,hv,hne⟩;exact(xWP (at0 rs v) (fL (by rw[O.rl];exact hv)) (by simpa using hne))
 refine i2 (λc=>?_) (λc=>?_)
 ·obtain⟨v0,hv0,hne⟩:=hany.mp c;obtain⟨v1,hv1,hp1⟩:=D6 hz hv0 hne;refine(xWP _ (λσ' H'' h=>h) ?_);refine(lH x A1 ws ds ps gs rs ns.length rfl (gK S O (by lia) hO.w2 sr (λd H2 R hd g2 d2 t2 out=>?_)));have out':=out.congr (rest':=FL.rs ws.length (aF ws) (bF ws) (at0 ns) (at0 gs)) hrs;have S2:=S.mono g2;have g02:=g.trans g2;have hlast:∃(R':List (Addr×En)) (y:Addr×En),R=R'++[y]:=by
   rcases List.eq_nil_or_concat R with z | ⟨R',y,z⟩
   ·exfalso;subst z;rcases out with⟨R',e,W,nr,pr,z,_⟩ | ⟨nr,pr,h,_⟩
    ·cases R'<;>cases z
    ·obtain⟨u,hu,_⟩:=h.have_pos hv1 hp1;cases hu
   ·exact(xWW R' y (by rw[z,List.concat_eq_append]))
  obtain⟨R',y,rfl⟩:=hlast;have rdl:∀{H3:Hp},aJ H2 H3->Rd H3 d (.dK (kvR (R'++[y]))):=λg3=>.inl (g3 _ _ d2);have hyv:y.2.v<ns.length:=by
   rcases out with⟨_,_,_,_,_,_,h,_⟩ | ⟨_,_,h,_⟩
   ·exact h.lt _ (ZO _ (by unfold es;simp))
   ·exact h.lt _ (ZO _ (by unfold es;simp))
  have ndv:((es (R'++[y])).map (·.v)).Nodup:=by
   rcases out with⟨_,_,_,_,_,_,h,_⟩ | ⟨_,_,h,_⟩
   ·exact h.nd
   ·exact h.nd
  refine(dO d _ _ rfl (.inl d2) (wH _) (λl hl=>?_));have g3:=aB hl (.lst (((es (R'++[y])).map λe=>(e.v:Int)).map V.int));refine(.inl (aH _ (vn y.2.v) (SqL.of aA) (rN (by unfold es;simp)) ?_));have S3:=S2.mono g3;have g03:=g02.trans g3;have d3:=g3 _ _ d2;have t3:∀z∈R'++[y],(upd H2 l (.lst (((es (R'++[y])).map λe=>(e.v:Int)).map V.int))) z.1=some (.tup (ev z.2)):=λz hz=>g3 _ _ (t2 z hz);have fd:H d=none:=g.free hd;have fdn:d≠A1.p/\d≠A1.g/\d≠A1.r:=(xPP (λz=>(by rw[z,S.p]at hd;cases hd)) (λz=>(by rw[z,S.g]at hd;cases hd)) (λz=>(by rw[z,S.r]at hd;cases hd)))
  clear d2 t2 S2 g02 rdl hl g3;generalize upd H2 l (.lst (((es (R'++[y])).map λe=>(e.v:Int)).map V.int))=H3 at S3 g03 d3 t3;obtain⟨dx3,ob3⟩:=S3.ob;refine(aY _ dx3 _ _ ob3 T.x.l T.x.n3 (eI _ _ _ _ _) (aH _ _ (SqL.of S3.r) (aU (j:=y.2.v) (by rw[O.rl];exact hyv) rfl) ?_));have ees:es (R'++[y])=es R'++[y.2]:=by unfold es;rw[Zt];rfl
  rcases out' with⟨E',e,W,nr,pr,hE,rc,all,neg⟩ | ⟨nr,pr,rc,all,nn⟩
  ·
   rw[ees]at hE;obtain⟨rfl,hE2⟩:=List.append_inj' hE rfl;have hE3:y.2=e:=by simpa using hE2
   subst hE3;rw[ees]at rc;have negy:at0 rs y.2.v<0:=by rw[hrs _ hyv];exact neg
   refine iFb (Yc (by lia)) ?_;obtain⟨bs,cb,hB,hcn,hcp⟩:=Back.there rc ((es R').length+1) (es R').length (Nat.lt_succ_self _) (by rw[Zm];exact Nat.lt_succ_self _);have hbo:=λq hq=>(hB.open_ rc q hq).1;have hbs:∀q∈bs,q.1<ws.length/\(q.2=1\/q.2 = -1):=λq hq=>⟨(hbo q hq).1,gQ (hbo q hq)⟩
   have hbl:bs.length<=1000:=by
    have h1:=hB.len;have h2:=rc.few;rw[Zm]at h2
    lia
   have hgt:(es R'++[y.2])[(es R').length]?=some y.2:=by rw[Zy (ZC _),Nat.sub_self];rfl
   obtain⟨ql,hql,hqc⟩:∃q,bs.getLast?=some q/\sd (aF ws) (bF ws) q.1 q.2=cb:=by
    rcases hB.last with z | z
    ·exfalso;subst z;cases hB with
     |stop gg _ =>
      rw[hgt]at gg;cases gg
      lia
    ·exact z
   have hcp':0<at0 rs cb:=by rw[hrs _ hcn];exact hcp
   refine(b8 x d A1 ws ds ps gs rs (R'++[y]) (C5 y rfl S3 d3 (λz hz=>⟨t3 z hz,?_⟩) ndv (by simp) (λH4 ps' k4 p4 rd4 l4 a4=>?_)))
   ·rw[O.pl];refine rc.lt z.2 (ZO _ ?_);rw[<-ees];exact Zh.mpr (xWP z hz rfl)
   have S4:SAt (t.c 0) H4 x A1 ws ds ps' gs rs:=S3.into (λb o h1 _ _ hk h=>k4 _ _ h1 (bZ h d3 (hk _)) h) p4 (k4 _ _ S3.pg.symm fdn.2.1.symm S3.g) (k4 _ _ S3.pr.symm fdn.2.2.symm S3.r);have t4:∀z∈R'++[y],H4 z.1=some (.tup (ev z.2)):=λz hz=>k4 _ _ (bZ (t3 z hz) S3.p (by intro y;cases y)) (bZ (t3 z hz) d3 (by intro y;cases y)) (t3 z hz);have g4:aJ H H4:=λb o h=>k4 _ _ (aC h fp) (aC h fd) (g03 _ _ h);have hBl:(es R').length=R'.length:=by unfold es;rw[Zq]
   have hB':=hB;rw[<-ees,hBl]at hB';refine(b8 x d A1 ws ds ps' gs rs (R'++[y]) (b9 y R'.length cb bs rfl S4 rd4 t4 ndv (bU (by rw[Zy (ZC _),Nat.sub_self];rfl) hB' hbs hbl (λlp H5 hlp g5 dr5=>?_))));have S5:=S4.mono g5;have nlg:lp≠A1.g:=λz=>by rw[z,S4.g]at hlp;cases hlp
   have nlr:lp≠A1.r:=λz=>by rw[z,S4.r]at hlp;cases hlp
   refine(b8 x lp A1 ws ds ps' gs rs bs (pQ ql y.2.v rfl S5 dr5 nlg nlr hql hbl (bU hbs O.gl (by rw[hqc,O.rl];exact hcn) (by rw[O.rl];exact hyv) (λxx H6 gs' rs' x1 x2 x3 x4 k6 e6 l6 a6 r6 lr6 b6=>?_))));rw[hqc]at x1 x4 b6;have hx1:1<=xx:=by
    rcases x4 with z | z | ⟨q,hq,z⟩
    ·lia
    ·lia
    ·have rr:=sr.room (hbo q hq);have hk:=(hbs q hq).1;unfold rm at z;rcases(hbs q hq).2 with e1 | e1
     ·rw[e1,Ya (by decide)]at z;obtain⟨h,z1,z2⟩:=Xv.mp z;have:=rr.1 e1 h z1
      lia
     ·rw[e1,Yb (by decide)]at z;have:=rr.2 e1;have:=Option.some.inj z
      lia
   have eg:at0 gs'=eA (at0 gs) xx bs:=funext a6;have ep:at0 ps'=λv=>at0 ps v+lift (es R'++[y.2]) y.2.d v:=by
    funext v
    rw[a4,ees]
   obtain⟨sr',hrs'⟩:=sr.step rc all hB hx1 (λq hq e1 h hh=>x3 q hq _ (by unfold rm;rw[e1,Ya (by decide),hh];rfl)) (λq hq e1=>x3 q hq _ (by unfold rm;rw[e1,Yb (by decide)]));rw[<-eg,<-ep]at sr';rw[<-eg]at hrs';have hrs6:∀v,v<ns.length->at0 rs' v=FL.rs ws.length (aF ws) (bF ws) (at0 ns) (at0 gs') v:=λv hv=>by rw[b6,hrs',hrs v hv]
   have less:=y6 (n:=ns.length) (c:=cb) (l:=y.2.v) (r:=at0 rs) (r':=at0 rs') hcn (λv _=>b6 v) x1 x2 hx1;have nn6:0<=sm ns.length (λv=>max (at0 rs' v) 0):=BX λk _=>Int.le_max_right _ _;refine(lI _ ?_ ps' gs' rs' rfl (λb o h=>k6 _ _ (aC h fg) (aC h fr') (g5 _ _ (g4 _ _ h))) (S5.into (λb o _ h2 h3 _ h=>k6 _ _ h2 h3 h) (k6 _ _ S5.pg S5.pr S5.p) e6 r6) ⟨by rw[l4];exact O.pl,by rw[l6];exact O.gl,by rw[lr6];exact O.rl,hab,dk⟩ (xPP sr' hrs6 (xWW _ _ rfl)))
   lia
  ·
   have nny:0<=at0 rs y.2.v:=by rw[hrs _ hyv];exact nn _ (by rw[ees];simp)
   refine iTb (Ye nny) ?_;refine⟨(by show 0<=ZW;decide),λl1 hl1=>?_⟩;have k1:=aB hl1 (.lst []);refine⟨(by show 0<=ZW;decide),λl2 hl2=>?_⟩;have k2:=aB hl2 (.lst []);have few:=rc.few;refine(dY d _ _ rfl (.inl ((k1.trans k2) _ _ d3)) (wH _) (by rw[Zq];lia) (λl3 lot hl3 hperm hsort=>?_));have k3:=aB hl3 (.lst (lot.map V.int));refine⟨(by show 3<=ZW;decide),λr hr'=>?_⟩;have k4:=aB hr' (.tup [.ref l1,.ref l2,.ref l3]);refine qlot r l1 l2 l3 lot _ ((g03.trans (k1.trans k2)).free hl3) (g03.trans (k1.trans (k2.trans (k3.trans k4)))) aA (k4 _ _ aA) (λz=>by have:=hperm.length_eq;rw[z]at this;simp at this) (by rw[hperm.length_eq,Zq];lia)
 ·
  have hall:∀v,v<ns.length->at0 rs v=0:=λv hv=>ZS λz=>c (hany.mpr (xWP v hv z));refine(aY _ dx1 _ _ ob T.x.l T.x.n2 (mY _ _ _ _ _) (b9 _ dx1 _ _ ob T.x.l T.x.n1 (nV _ _ _ _ _) (by show 0<=ZW;decide) (λl3 hl3=>?_)));have k3:=aB hl3 (.lst []);refine⟨(by show 3<=ZW;decide),λr hr'=>?_⟩;have k4:=aB hr' (.tup [.ref A1.g,.ref A1.p,.ref l3]);exact qbest r A1.g A1.p l3 gs ps _ fp (g.trans (k3.trans k4)) aA ((k3.trans k4) _ _ S.g) ((k3.trans k4) _ _ S.p) (k4 _ _ aA) O.gl O.pl
end
def fre(ws:List Way)(i:Nat):List Nat:=(ZR i).filter λk=>(hiF ws k).isNone
theorem wM(ws:List Way)(i:Nat):fre ws (i+1)=fre ws i++(if (hiF ws i).isNone=true then [i] else []):=by
 unfold fre;rw[ZH,List.filter_append];congr 1;by_cases z:(hiF ws i).isNone=true
 ·rw[Yb z,List.filter_cons_of_pos (p:=λk=>(hiF ws k).isNone) z];rfl
 ·rw[Ya z,List.filter_cons_of_neg (p:=λk=>(hiF ws k).isNone) z];rfl
theorem JR{ws:List Way}{k:Nat}:k∈fre ws ws.length↔k<ws.length/\hiF ws k=none:=by
 unfold fre;rw[Yz,Zs,Option.isNone_iff_eq_none]
theorem AX(ws:List Way)(i:Nat):(fre ws i).length<=i:=by
 have:=List.length_filter_le (λk=>(hiF ws k).isNone) (ZR i);rw[Yj]at this;exact this
def LH:Sp:=λ_ _ _ _=>False
theorem KL{CX:CXT}{k:Nat}{f:Addr}{fd:FuncData}{ps:List Str}:jE P w K mg base CX k f fd ps LH:=⟨λ_ _ _ _ h=>h.elim,λ_ _ _ _ _ _ _ _ _ _ _ _ _ h=>h.elim⟩
def z6:Sp:=λvs H Q _=>∃(p na wa f pr:Addr) (o:V) (ns:List Int) (ws:List Way) (free:List Nat) (ps:List Int),vs=[.ref p,.ref f,.ref pr,o]/\gI H p na wa ns ws/\(∀w∈ws,w.a<ns.length/\w.b<ns.length)/\H f=some (.lst (vns free))/\(∀k∈free,k<ws.length) /\
 H pr=some (.lst (ps.map V.int))/\ps.length=ns.length/\(∀w∈ws,0<=NM.rt ps w)/\Q .non H
theorem FA(T:Txt K mg t)(G_rate:Ok P w base T 27 1 (p7)):Ok P w base T 30 2 z6:=by
 left
 obtain⟨p,na,wa,f,pr,o,ns,ws,free,ps,rfl,hN,hab,hf,hfr,hP,pl,hz,q⟩:=h;have hu:=AV hr;refine(xWP _ (by exists 4,a7 ?_,1,5,6,aI,aG,0,5,7,bT G_rate hr (T.f 27) aZ ?_,6,2,7,iC (pv 2) ?_ gE (pv 7) jX set_list,aG,6,pF hu (pv 3) ?_ (pv 5) rfl,aG,6,4,aG,6,4) ?_);obtain⟨rs,e1,e2,e3⟩:=hN.w
 let Pv1:Nat->L2.St->L2.Hp->Prop:=λj σ H'=>H=H'/\∃o5 o6 o7:Option V,σ=[some (.ref p),some (.ref f),some (.ref pr),some o,some .non,o5,o6,o7]
 refine⟨⟨_,SqL.of hf⟩,cR (xs:=vns free) Pv1 ⟨rfl,(oS _ _ _ rfl)⟩ (λj σ H' _ h=>by obtain⟨rfl,_⟩:=h;exact SqL.of hf) ?_ ?_⟩
 ·rintro j x σ H' hx ⟨rfl,o5,o6,o7,rfl⟩;rw[Zk]at hx;obtain⟨k,hk,rfl⟩:=Xv.mp hx;have hkl:=hfr k (Zg hk);obtain⟨r,r1,r2⟩:=e3 k _ (Zz hkl);have ab:=hab _ (Zp hkl);have hz':=hz _ (Zp hkl);refine(aH _ _ (SqT.of hN.tp) rfl (aH _ _ (SqL.of e1) (bM (by rw[Zk,r1];rfl)) ?_));refine(b9 r pr (ws[k]) ps rfl (SqT.of r2) hP (by lia) (by lia) ?_);exact(i2 (λz=>Yg (Yf z) (Int.not_lt.mpr hz')) (λ_=>⟨rfl,(oS _ _ _ rfl)⟩))
 ·rintro σ H' ⟨rfl,o5,o6,o7,rfl⟩;exact(q)
def sI:Sp:=λvs H Q _=>∃(p na wa:Addr) (ns:List Int) (ws:List Way),vs=[.ref p]/\gI H p na wa ns ws/\oR ns ws/\(∀w∈ws,0<=w.c) /\
 ∀(r pa l:Addr) (H':Hp),aJ H H'->H' r=some (.tup [.ref pa,.ref l])->H' pa=some (.lst ((ZF ns.length (0:Int)).map V.int))->H' l=some (.lst [])->Q (.ref r) H'
theorem AE{n:Nat}{w:Way}:NM.rt (ZF n (0:Int)) w=w.c:=by
 have z:∀k,at0 (ZF n (0:Int)) k=0:=λk=>by
  unfold at0;rw[Zv];by_cases h:k<n
  ·simp[h]
  ·simp[h]
 unfold NM.rt;rw[z,z]
 lia
theorem yO(T:Txt K mg t)(G_lower_prices:Ok P w base T 30 2 z6):Ok P w base T 29 3 sI:=by
 have G_ring_behind:Ok P w base T 31 1 LH:=KL
 left
 obtain⟨p,na,wa,ns,ws,rfl,hN,hO,hz,qr⟩:=h;refine(xWP _ (by exists (e8 1 ["knot"] [none]),a7 ?_,aG,0,0,2,mL,(e8 3 ["number","way"] [none,none]),cL rfl (T.z 3) ?_,aG,0,0,1,qL ?_,eX,aG,1,0,4,1,5,4,bT G_lower_prices hr (T.f 30) aZ ?_,0,3,1,2,eX,4,1,1,bT G_ring_behind hr (T.f 31) aZ ?_,0,2,4) ?_);have hn:=hO.n;have hn2:=hO.n2;have hw2:=hO.w2;have hab:∀w∈ws,w.a<ns.length/\w.b<ns.length:=λw hw=>⟨(hO.w w hw).a,(hO.w w hw).b⟩
 refine(aH _ _ (SqT.of hN.tp) rfl ⟨ ⟨_,SqL.of hN.n⟩,λpa hpa=>?_⟩);refine bD ns.length (λ_=>.int 0) hpa (by lia) (λi H' hi g=>(cG _ _ (SqL.of (g _ _ hN.n)) (bR hi))) (λH' g=>(xWP _ (SqL.of (g _ _ hN.n)) (by rw[Zq];exact ZC _))) ?_ ?_
 ·rintro i H' x H'' k hi g ⟨rfl,hx⟩ hk;exact⟨(Fills.refl _).set _ rfl,hk _ (aJ.refl _)⟩
 intro H1 g1 e1;have en:(ZR ns.length).map (λ_=>V.int 0)=(ZF ns.length (0:Int)).map V.int:=by
  apply Yt;intro i;by_cases h:i<ns.length
  ·simp[h]
  ·simp[h]
 rw[en]at e1;intro od hod;have g2:=aB hod (.dK []);have N2:=hN.mono (g1.trans g2);obtain⟨rs,w1,w2,w3⟩:=N2.w;refine(uZ _ _ (SqT.of N2.tp) rfl wa rfl ⟨_,SqL.of w1⟩ (λfa hfa=>?_))
 let Pv2:Nat->List L2.V->L2.Hp->Prop:=λi ys H'=>ys=vns (fre ws i)/\aJ (upd H1 od (.dK [])) H'/\H' fa=some (.lst ys)
 refine kS ws.length Pv2 (xPP rfl (aB hfa _) aA) ?_ ?_
 ·rintro i ys H' hi ⟨rfl,g3,e3⟩;have hw:ws[i]?=some ws[i]:=Zz hi;obtain⟨r,r1,r2⟩:=w3 i _ hw;have gi:(rs.map V.ref)[i]?=some (.ref r):=by rw[Zk,r1];rfl
  refine⟨(cG _ _ (SqL.of (g3 _ _ w1)) gi),?_⟩;rintro x H'' ⟨Tp,x',rfl,hTp,rfl,hx⟩;have ex:=hx _ (SqL.of (g3 _ _ w1));rw[gi]at ex;cases ex;have g4:=aB hTp (.tup [.int (i:Int),.ref r]);have e4:atI (wv ws[i]) 3=some (vo ws[i].hi):=rfl;have lf:=AX ws i;refine(aQ _ (SqT.of aA) rfl ⟨ ((Fills.refl _).set _ rfl).set _ rfl,?_⟩);refine(aP _ _ (SqT.of (g4 _ _ (g3 _ _ r2))) e4 rfl ?_);have eh:=uR hw;rcases hh:ws[i].hi with _ | h
  ·refine iT (bU (g4 _ _ e3) ?_ ?_ ?_ aA)
   ·rw[Zq];exact Xq lf (Xz (by lia:i<1000) (by decide))
   ·rw[wM,Yb (by rw[eh,hh];rfl)];unfold vns;rw[Zt];rfl
   ·exact λb u h=>by rw[aE (aC h hfa)];exact g4 _ _ (g3 _ _ h)
  ·refine iF (xPP ?_ (g3.trans g4) (g4 _ _ e3));rw[wM,Ya (by rw[eh,hh];simp),List.append_nil]
 rintro ys H3 ⟨rfl,g3,e3⟩;refine⟨(xWP _ (SqL.of (g3 _ _ w1)) (by rw[Zq,w2];exact ZC _)),?_⟩;have g03:=g1.trans (g2.trans g3);have p3:=(g2.trans g3) _ _ e1;have o3:=g3 _ _ (aA (H:=H1) (a:=od) (o:=.dK []));have N3:=N2.mono g3;have fl:=AX ws ws.length;have nod:od≠pa:=bZ o3 p3 (by intro z;cases z);have hod0:H od=none:=g1.free hod;have npf:pa≠fa:=λz=>by rw[<-z,g2 _ _ e1]at hfa;cases hfa
 have npw:pa≠wa:=λz=>by
  obtain⟨rs0,z1,_⟩:=hN.w;rw[z,z1]at hpa;cases hpa
 have npn:pa≠na:=λz=>by rw[z,hN.n]at hpa;cases hpa
 refine(nG pa _ rfl (.inl (SqL.of p3)) _ rfl (by simp) (by simp;lia) ?_);have ern:((((ZF ns.length (0:Int)).map V.int).length:Nat):Int).toNat=ns.length:=by rw[Zq,List.length_replicate];lia
 let Pv3:Nat->L2.St->L2.Hp->Prop:=λi σ H'=>i=0/\H3=H'/\∃o5:Option V,σ=[some (.ref p),some (.ref pa),some (.ref od),some (.ref fa),some .non,o5]
 refine cZ (lo:=0) (n:=((((ZF ns.length (0:Int)).map V.int).length:Nat):Int).toNat) Pv3 (xPP rfl rfl ⟨ _,rfl⟩) ?_ ?_
 ·rintro i σ H' hi ⟨rfl,rfl,o5,rfl⟩;refine(b8 p na wa fa pa _ ns ws (fre ws ws.length) (xP _ rfl N3 hab e3 (λk hk=>(JR.mp hk).1) p3 (by simp) (λw hw=>by rw[AE];exact hz w hw) ?_));refine⟨rfl,iT ?_⟩;refine⟨(by show 0<=ZW;decide),λl hl=>⟨(by show 2<=ZW;decide),λr hr'=>?_⟩⟩;have m1:=aB hl (.lst []);have m2:=aB hr' (.tup [.ref pa,.ref l]);exact qr r pa l _ (g03.trans (m1.trans m2)) aA ((m1.trans m2) _ _ p3) (m2 _ _ aA)
 ·rintro σ H' ⟨z,_⟩;rw[ern]at z
  lia
def p9:Sp:=λvs H Q _=>∃(p na wa:Addr) (ns:List Int) (ws:List Way),vs=[.ref p]/\gI H p na wa ns ws/\oR ns ws/\(∀w∈ws,0<=w.c)/\ns.length<60 /\
 (∀(r la:Addr) (lot:List Int) (H':Hp),H la=none->aJ H H'->H' r=some (.tup [.str "none",.ref la])->H' la=some (.lst (lot.map V.int))->lot.length<=ns.length->Q (.ref r) H') /\
 (∀(r ga pb:Addr) (gs ps:List Int) (H':Hp),H pb=none->aJ H H'->H' r=some (.tup [.str "best",.ref ga,.ref pb])->H' ga=some (.lst (gs.map V.int))->H' pb=some (.lst (ps.map V.int))->ps.length=ns.length->gs.length=ws.length->Q (.ref r) H')
theorem vU(T:Txt K mg t)(G_check_net:Ok P w base T 43 1 pC)(G_settled_prices:Ok P w base T 29 3 sI)(G_filled:Ok P w base T 34 4 vG):Ok P w base T 49 5 p9:=by
 have G_without_costs:Ok P w base T 50 1 LH:=KL
 left
 obtain⟨p,na,wa,ns,ws,rfl,hN,hO,hz,h60,qlot,qbest⟩:=h;refine(xWP _ (by exists bT G_check_net hr (T.f 43) aZ ?_,0,1,bT G_settled_prices hr (T.f 29) aZ ?_,0,2,aG,1,bH (pv 2) (λ_=>rfl),3,bT G_filled hr (T.f 34) aZ ?_,bT G_without_costs hr (T.f 50) aZ ?_,0,(fZ ["knot"] [none]),a7 ?_,aG,0,0,3,bT G_filled hr (T.f 34) aZ ?_,0,aG,1,bH ?_ (λ_=>rfl),aG,3,aG,3,bH (pv 2) (λ_=>rfl),aG,3,2,aG,3,aG,3) ?_);refine(kB p na wa ns ws rfl hN hO ?_);refine(bB p na wa ns ws rfl hN hO hz (λr0 pa l H1 g1 e0 e1 e2=>?_));refine(aH _ _ (SqT.of e0) rfl ?_);refine(xWP _ (.inl (xWP _ (SqL.of e2) rfl)) (iF ?_));refine(aH _ _ (SqT.of e0) rfl (cQ p pa na wa ns ws _ rfl (hN.mono g1) (iA hO h60 e1 (by simp) (λw hw c=>?_) ?_ ?_)))
 ·rw[AE]at c;exact Yg (hz w hw) (Int.not_le.mpr c)
 ·intro r l1 l2 l3 lot H2 fl g2 f0 f3 hne hle;refine(l8 _ _ (SqT.of f0) rfl _ (.inl (xWP _ (SqL.of f3) rfl)) (iTb (by cases lot with | nil=>exact Yg rfl hne | cons _ _=>rfl) ?_));refine(aP _ _ (SqT.of f0) rfl (by show 2<=ZW;decide) (λr2 hr2=>?_));have k:=aB hr2 (.tup [.str "none",.ref l3]);exact qlot r2 l3 lot _ (g1.free fl) (g1.trans (g2.trans k)) aA (k _ _ f3) hle
 ·intro r ga pb l3 gs ps H2 fl g2 f0 fg fp f3 gl pl;refine(l8 _ _ (SqT.of f0) rfl _ (.inl (xWP _ (SqL.of f3) rfl)) (iF ?_));refine(xWP _ (.inl (xWP _ (SqL.of (g2 _ _ e2)) rfl)) (iF ?_));refine(bV _ _ (SqT.of f0) rfl _ _ (SqT.of f0) rfl (by show 3<=ZW;decide) (λr2 hr2=>?_));have k:=aB hr2 (.tup [.str "best",.ref ga,.ref pb]);exact qbest r2 ga pb gs ps _ (g1.free fl) (g1.trans (g2.trans k)) aA (k _ _ fg) (k _ _ fp) pl gl
end K32
namespace L2
open PySem PyProof.Rows
def TsI(H:Hp)(a:Addr)(ts:AW.Ts):Prop:=∃tr:List Addr,H a=some (.lst (tr.map V.ref))/\tr.length=ts.length/\∀(i:Nat) t,ts[i]?=some t->∃r,tr[i]?=some r/\H r=some (.tup [.int t.1,.int t.2])
def OsI(H:Hp)(a:Addr)(os:AW.Os):Prop:=∃tr:List Addr,H a=some (.lst (tr.map V.ref))/\tr.length=os.length/\∀(i:Nat) l,os[i]?=some l->∃r,tr[i]?=some r/\H r=some (.lst (l.map V.int))
def xG(H:Hp)(w:Addr)(m:Int)(ts:AW.Ts)(os:AW.Os):Prop:=∃tA oA:Addr,H w=some (.tup [.int m,.ref tA,.ref oA])/\TsI H tA ts/\OsI H oA os
theorem TsI.same{H H':Hp}{a:Addr}{ts:AW.Ts}(h:TsI H a ts)(g:aJ H H'):TsI H' a ts:=by
 obtain⟨tr,h1,h2,h3⟩:=h;exact(aQ tr (g _ _ h1) h2 (λi t e=>let⟨r,q1,q2⟩:=h3 i t e;(xWP r q1 (g _ _ q2))))
theorem OsI.same{H H':Hp}{a:Addr}{os:AW.Os}(h:OsI H a os)(g:aJ H H'):OsI H' a os:=by
 obtain⟨tr,h1,h2,h3⟩:=h;exact(aQ tr (g _ _ h1) h2 (λi t e=>let⟨r,q1,q2⟩:=h3 i t e;(xWP r q1 (g _ _ q2))))
theorem xG.same{H H':Hp}{w:Addr}{m:Int}{ts:AW.Ts}{os:AW.Os}(h:xG H w m ts os)(g:aJ H H'):xG H' w m ts os:=by
 obtain⟨tA,oA,h1,h2,h3⟩:=h;exact(aH tA oA (g _ _ h1) (h2.same g) (h3.same g))
theorem TsI.nth{H:Hp}{a:Addr}{ts:AW.Ts}{tr:List Addr}(h1:tr.length=ts.length)(h2:∀(i:Nat) t,ts[i]?=some t->∃r,tr[i]?=some r/\H r=some (.tup [.int t.1,.int t.2])){i:Nat}{x:V}(hx:(tr.map V.ref)[i]?=some x) :
  ∃t r,ts[i]?=some t/\x=.ref r/\H r=some (.tup [.int t.1,.int t.2]):=by
 rw[Zk]at hx;cases e:ts[i]? with
 |none =>
  have:tr[i]?=none:=Zr (by rw[h1];exact List.getElem?_eq_none_iff.mp e);rw[this]at hx;cases hx
 |some t =>
  obtain⟨r,q1,q2⟩:=h2 i t e;rw[q1]at hx;cases hx;exact(aH t r rfl rfl q2)
theorem OsI.nth{H:Hp}{os:AW.Os}{tr:List Addr}(h1:tr.length=os.length)(h2:∀(i:Nat) l,os[i]?=some l->∃r,tr[i]?=some r/\H r=some (.lst (l.map V.int))){i:Nat}{x:V}(hx:(tr.map V.ref)[i]?=some x) :
  ∃l r,os[i]?=some l/\x=.ref r/\H r=some (.lst (l.map V.int)):=by
 rw[Zk]at hx;cases e:os[i]? with
 |none =>
  have:tr[i]?=none:=Zr (by rw[h1];exact List.getElem?_eq_none_iff.mp e);rw[this]at hx;cases hx
 |some t =>
  obtain⟨r,q1,q2⟩:=h2 i t e;rw[q1]at hx;cases hx;exact(aH t r rfl rfl q2)
structure gU(H H':Hp)(r:Addr)(rr:List Addr)(ls:List (List V)):Prop where
 at_:H' r=some (.lst (rr.map V.ref))
 len:rr.length=ls.length
 row:∀(i:Nat) l,ls[i]?=some l->∃x,rr[i]?=some x/\H' x=some (.lst l)
 nd:rr.Nodup
 nin:r∉rr
 new:H r=none
 news:∀x∈rr,H x=none
theorem gU.keep{H H' H2:Hp}{r:Addr}{rr:List Addr}{ls:List (List V)}(n:gU H H' r rr ls)(g:aJ H' H2):gU H H2 r rr ls :=
 ⟨g _ _ n.at_,n.len,λi l h=>let⟨x,h1,h2⟩:=n.row i l h;(xWP x h1 (g _ _ h2)),n.nd,n.nin,n.new,n.news⟩
theorem aJ.fresh{H H':Hp}(g:aJ H H'){x:Addr}(hx:H x=none)(o:HO):aJ H (upd H' x o):=λb u h=>by rw[aE (aC h hx)];exact g _ _ h
theorem gU.set{H0 H:Hp}{o x:Addr}{rr:List Addr}{ls:List (List V)}(n:gU H0 H o rr ls){p:Nat}{l:List V}(hx:rr[p]?=some x):gU H0 (upd H x (.lst l)) o rr (ls.set p l) where
 at_:=by rw[aE (show o≠x from λz=>n.nin (z▸Zg hx))];exact n.at_
 len:=by rw[ZP];exact n.len
 row:=λi m h=>by
  by_cases e:p=i
  ·subst e;have hp:p<ls.length:=n.len▸(Zj.mp hx).1;rw[ZK hp]at h;cases h;exact(xWP x hx aA)
  ·rw[ZJ e]at h;obtain⟨y,h1,h2⟩:=n.row i m h;refine(xWP y h1 ?_);have ne:y≠x:=by
    rintro rfl;obtain⟨a1,b1⟩:=Zj.mp h1;obtain⟨a2,b2⟩:=Zj.mp hx;exact e ((List.getElem_inj n.nd).mp (b2.trans b1.symm))
   rw[aE ne];exact h2
 nd:=n.nd
 nin:=n.nin
 new:=n.new
 news:=n.news
theorem gU.os{H H':Hp}{r:Addr}{rr:List Addr}{os:AW.Os}(n:gU H H' r rr (os.map λl=>l.map V.int)):OsI H' r os :=
 (aQ rr n.at_ (by rw[n.len,Zq]) (λi l h=>n.row i _ (by rw[Zk,h];rfl)))
theorem tI{J:It}{js:List (Option Nat)}{σ:St}{H1:Hp}{R:Hp->Prop}{D:Addr}{g:TG}{te:TE}(n:Nat)(fs:Nat->List V)(hD:H1 D=none)(hn:n<=100000)
  (go:∀i H',i<n->aJ H1 H'->J.go i H') (stop:∀H',aJ H1 H'->J.stop n H')
  (hs:∀i H' x H'' (k:V->Hp->Prop),i<n->aJ H1 H'->J.yld i H' x H''->(∀a H4,H' a=none->aJ H' H4->H4 a=some (.lst (fs i))->k (.ref a) H4)->g x (inner js σ) H'' λσ2 H2=>Fills (inner js σ) σ2/\te σ2 H2 k)
  (hd:∀(rr:List Addr) H',gU H1 H' D rr ((ZR n).map fs)->aJ H1 H'->R H') :
  ∃W:Nat->Nat->List V->Hp->Prop,(∃m,W 0 m [] (upd H1 D (.lst []))) /\
   ∀i m ys H,W i m ys H->(J.stop i H/\R H)\/(J.go i H/\∃N:List V->Hp->Prop,(∀ys' H',N ys' H'->∃m',m' < m/\W (i+1) m' ys' H')/\∀x H',J.yld i H x H'->g x (inner js σ) H' λσ2 H2=>Fills (inner js σ) σ2/\sG σ2 H2 λb H3 =>
    If b (te σ2 H3 λy H4=>H4 D=some (.lst ys)/\ys.length<ZW/\N (ys++[y]) (upd H4 D (.lst (ys++[y])))) (N ys H3)):=by
 let Pv1:Nat->List L2.V->L2.Hp->Prop:=λi ys H'=>∃rr:List Addr,ys=rr.map V.ref/\gU H1 H' D rr ((ZR i).map fs)/\aJ H1 H'
 refine comp_map n Pv1 (aQ ([]) rfl ⟨aA,rfl,λi l h=>by simp at h,List.nodup_nil,by simp,hD,by simp⟩ (aB hD _)) ?_ ?_
 ·rintro i ys H' hi ⟨rr,rfl,w,g1⟩;have hl:rr.length=i:=by rw[w.len];simp
  refine⟨go i H' hi g1,λx H'' hy=>hs i H' x H'' _ hi g1 hy λa H4 ha g4 e4=>(C8 (g4 _ _ w.at_) ?_ (rr++[a]) ?_ ?_ ?_)⟩
  ·rw[Zq,hl];exact Xz hi (YQ hn (by decide))
  ·rw[Zt];rfl
  ·have aD:a≠D:=λz=>by rw[z,w.at_]at ha;cases ha
   have ain:a∉rr:=λz=>by
    obtain⟨j,hj,e⟩:=Yy.mp z;have hj':j<((ZR i).map fs).length:=w.len▸hj;obtain⟨y,h1,h2⟩:=w.row j _ (Zz hj');rw[Zz hj,e]at h1;cases h1;rw[ha]at h2;cases h2
   refine⟨by rw[Zt];exact aA,by simp[hl],λj l h=>?_,?_,?_,hD,?_⟩
   ·by_cases hj:j<i
    ·have e:((ZR (i+1)).map fs)[j]?=((ZR i).map fs)[j]?:=by simp[hj,Xj hj]
     rw[e]at h;obtain⟨y,h1,h2⟩:=w.row j l h;have yD:y≠D:=λz=>w.nin (z▸Zg h1);exact(xWP y (by rw[Zx (by lia)];exact h1) (by rw[aE yD];exact g4 _ _ h2))
    ·have hj2:j=i:=by
      have:=(Zj.mp h).1;simp at this;lia
     subst hj2;have e:l=fs j:=by simpa using h.symm
     subst e;exact(xWP a (by rw[<-hl,Yx]) (by rw[aE aD];exact e4))
   ·rw[List.nodup_append];refine(xPP w.nd (by simp) (λb hb c hc z=>?_));have e:c=a:=by simpa using hc
    subst e;subst z;exact ain hb
   ·intro z;rcases Zf.mp z with z | z
    ·exact w.nin z
    ·exact aD (Zb.mp z).symm
   ·intro y hy;rcases Zf.mp hy with z | z
    ·exact w.news y z
    ·rw[Zb.mp z];exact g1.free ha
  ·exact(g1.trans g4).fresh hD _
 ·rintro ys H' ⟨rr,rfl,w,g1⟩;exact⟨stop H' g1,hd rr H' w g1⟩
theorem gU.item{H0 H:Hp}{o:Addr}{rr:List Addr}{n:Nat}{f:Nat->List V}(w:gU H0 H o rr ((ZR n).map f)){p:Nat}(hp:p<n) :
  ∃x,rr[p]?=some x/\H x=some (.lst (f p))/\H0 x=none/\atI (rr.map V.ref) (p:Int)=some (.ref x):=by
 obtain⟨x,h1,h2⟩:=w.row p (f p) (by simp[hp]);exact(dA x h1 h2 (w.news x (Zg h1)) (bM (by rw[Zk,h1];rfl)))
theorem set_range{n p:Nat}{f:Nat->List V}{v:List V}:((ZR n).map f).set p v=(ZR n).map λi=>if i=p then v else f i:=by
 refine Yt λi=>?_;rw[List.getElem?_set];by_cases e:p=i
 ·subst e;by_cases h:p<n<;>simp[h]
 ·rw[Ya e];by_cases h:i<n
  ·simp[h,Yh e]
  ·simp[h]
theorem gU.put{H0 H:Hp}{o x:Addr}{rr:List Addr}{n p:Nat}{f:Nat->List V}(w:gU H0 H o rr ((ZR n).map f))(hx:rr[p]?=some x)(l:List V) :
  gU H0 (upd H x (.lst l)) o rr ((ZR n).map λi=>if i=p then l else f i):=by
 rw[<-set_range];exact w.set hx
theorem gU.other{H0 H:Hp}{o x:Addr}{rr:List Addr}{ls:List (List V)}(n:gU H0 H o rr ls)(h1:x≠o)(h2:x∉rr)(u:HO):gU H0 (upd H x u) o rr ls :=
 ⟨by rw[aE (Yh h1)];exact n.at_,n.len,λi l h=>by
  obtain⟨y,a,b⟩:=n.row i l h;have ne:y≠x:=λz=>h2 (by rw[<-z];exact Zg a);exact(xWP y a (by rw[aE ne];exact b)),n.nd,n.nin,n.new,n.news⟩
theorem gU.notIn{H0 H:Hp}{o x:Addr}{rr:List Addr}{ls:List (List V)}(n:gU H0 H o rr ls)(hx:H x=none):x∉rr:=λz=>by
 obtain⟨i,hi,e⟩:=Yy.mp z;obtain⟨y,a,b⟩:=n.row i _ (Zz (n.len▸hi));rw[Zz hi,e]at a;cases a;rw[hx]at b;cases b
theorem PD{tt r:TS}{D:Ends}{σ:St}{H:Hp}(I:St->Hp->Prop)(ht:∀N:St->Hp->Prop,(∀σ' H',I σ' H'->N σ' H')->tt { D with nx:=N } σ H)(hr:∀σ' H',I σ' H'->r D σ' H'):BO tt r D σ H:=ht _ hr
end L2
namespace AW
def FX(m:Int)(ts:Ts):Bool:=ts.all λt=>(decide (0<=t.1)&&decide (t.1<m))&&(decide (0<=t.2)&&decide (t.2<m))
theorem FW{m:Int}{ts:Ts}:FX m ts=true↔InW m ts:=by
 unfold FX InW;rw[ZD];simp only[Xg,decide_eq_true_eq]
end AW
namespace K32
open PySem L2 PyProof.Rows
theorem ch0{σ:L2.St}{H:Hp}{Q:VK}{i j:Nat}{x m:Int}(h1:σ[i]?=some (some (.int x)))(h2:σ[j]?=some (some (.int m)))(q:Q (.bl (decide (0<=x)&&decide (x<m))) H) :
  pZ (rI0 λi j=>V.bl (decide (i<=j))) (rI0 λi j=>V.bl (decide (i<j))) (tC (V.int 0)) (G7 i) (G7 j) σ H Q:=by
 show St.at σ i _;refine rO h1 (i2 (λc=>?_) λc=>?_)
 ·rw[c,Bool.true_and]at q;exact rO h2 q
 ·rw[Bool.eq_false_iff.mpr c,Bool.false_and]at q;exact q
def NT:Sp:=λvs H Q _=>∃(m:Int) (a:Addr) (ts:AW.Ts),vs=[.int m,.ref a]/\TsI H a ts/\ts.length<=1000/\∀H',aJ H H'->Q (.bl (AW.FX m ts)) H'
theorem MI(T:Txt K mg t):Ok P w base T 12 1 NT:=by
 left
 obtain⟨m,a,ts,rfl,⟨tr,e1,e2,e3⟩,hl,q⟩:=h;refine(xWP _ (by exists aN (iX rfl) rfl (T.z 0) boot_all ?_,(fZ ["a","b","many"] [none,none,some 0]),a7 ?_,1,0,1,lR ?_ ?_,vO k9 jI aM (pv 0) (pv 2),lQ ?_,vO k9 jI aM (pv 1) (pv 2)) ?_);refine⟨⟨_,SqL.of e1⟩,λD hD=>?_⟩
 let fs:Nat->Bool:=λk=>(ts[k]?).any λt=>(decide (0<=t.1)&&decide (t.1<m))&&(decide (0<=t.2)&&decide (t.2<m))
 refine bD ts.length (λk=>.bl (fs k)) hD (by lia) (λi H' hi g2=>?_) (λH' g2=>(xWP _ (SqL.of (g2 _ _ e1)) (by rw[Zq];lia))) ?_ ?_
 ·obtain⟨r,q1,_⟩:=e3 i ts[i] (Zz hi);exact(cG _ (.ref r) (SqL.of (g2 _ _ e1)) (by rw[Zk,q1];rfl))
 ·rintro i H' x H'' k hi g2 ⟨rfl,hx⟩ hk;obtain⟨t,r,et,rfl,er⟩:=TsI.nth (a:=a) e2 e3 (hx _ (SqL.of (g2 _ _ e1)));have hf:fs i=((decide (0<=t.1)&&decide (t.1<m))&&(decide (0<=t.2)&&decide (t.2<m))):=by show(ts[i]?).any _=_;rw[et];rfl
  have hk0:=hk H'' (aJ.refl _);rw[hf]at hk0;refine(aQ _ (SqT.of (g2 _ _ er)) rfl ?_);refine⟨((Fills.refl _).set _ rfl).set _ rfl,?_⟩;refine ch0 (x:=t.1) (m:=m) rfl rfl (i2 (λc=>?_) λc=>?_)
  ·rw[c,Bool.true_and]at hk0;exact ch0 (x:=t.2) (m:=m) rfl rfl hk0
  ·rw[Bool.eq_false_iff.mpr c,Bool.false_and]at hk0;exact hk0
 ·intro H' g2 hD';rw[show(ZR ts.length).map (λk=>V.bl (fs k))=((ZR ts.length).map fs).map V.bl by rw[Ym];rfl]at hD';refine(aH D _ rfl (SqL.of hD') ?_);have e:((ZR ts.length).map fs).all id=AW.FX m ts:=by
   unfold AW.FX;rw[Xh,ZD,ZD];constructor
   ·intro h x hx;obtain⟨i,hi,rfl⟩:=Yy.mp hx;have:=h (fs i) (Zh.mpr (xWP i (Zs.mpr hi) rfl));have e:fs i=_:=(show(ts[i]?).any _=_ from by rw[Zz hi])
    rw[e]at this;exact this
   ·intro h b hb;obtain⟨i,hi,rfl⟩:=Zh.mp hb;have hi:=Zs.mp hi;have e:fs i=_:=(show(ts[i]?).any _=_ from by rw[Zz hi])
    rw[e];exact h _ (Zp hi)
  rw[e];exact q H' g2
def N0:Sp:=λvs H Q _=>∃(m:Nat) (a:Addr) (ts:AW.Ts),vs=[vn m,.ref a]/\TsI H a ts/\AW.InW m ts/\m<=1000/\ts.length<=1000 /\
 ∀(r:Addr) (H':Hp),aJ H H'->OsI H' r ((ZR m).map λp:Nat=>AW.endsAt ts p)->Q (.ref r) H'
theorem MR(T:Txt K mg t):Ok P w base T 14 1 N0:=by
 left
 obtain⟨m,a,ts,rfl,⟨tr,e1,e2,e3⟩,hw,hm,hl,q⟩:=h;refine(xWP _ (by exists (e8 2 ["place"] [none]),0,0,cL rfl (T.z 3) ?_,1,3,4,aI,2,aG,4,3,aI,2,aG,4,aX,3,2) ?_);refine(dA (m:Int) rfl (by lia) (by lia) (λD hD=>?_));refine tI m (λ_=>[]) hD (by lia) (λi H' hi g2=>?_) (λH' g2=>?_) ?_ ?_
 ·show i<((m:Int)-0).toNat;lia
 ·show((m:Int)-0).toNat<=m;lia
 ·rintro i H' x H'' k hi g2 hy hk;obtain⟨e,y⟩:=hy;subst e;exact(xPP ((Fills.refl _).set _ rfl) (by show 0<=ZW;decide) (λl hl'=>hk l _ hl' (aB hl' _) aA))
 ·intro rr H1 w1 g1
  let F:Nat->Nat->List V:=λk p=>(AW.endsAt (ts.take k) p).map V.int
  let Pv1:Nat->L2.St->L2.Hp->Prop:=λk σ H'=>(∃v3 v4,σ=[some (vn m),some (.ref a),some (.ref D),v3,v4])/\gU H H' D rr ((ZR m).map (F k))/\aJ H H'
  refine(aQ a rfl ⟨_,SqL.of (g1 _ _ e1)⟩ (dD (a:=a) (xs:=tr.map V.ref) Pv1 (xPP (xWW _ _ rfl) ?_ g1) ?_ ?_ ?_))
  ·have e:F 0=λ_=>[]:=by funext p;show(AW.endsAt (ts.take 0) p).map V.int=[];rw[List.take_zero];rfl
   rw[e];exact w1
  ·rintro i σ H' hi ⟨_,_,g2⟩;exact SqL.of (g2 _ _ e1)
  ·rintro i x σ H' Tp hx ⟨⟨v3,v4,rfl⟩,w2,g2⟩ hTp;obtain⟨⟨u,v⟩,r,et,rfl,er⟩:=TsI.nth (a:=a) e2 e3 hx;obtain⟨⟨u0,u1⟩,v0,v1⟩:=hw _ (Zg et);obtain⟨p1,rfl⟩:=Xy u0;obtain⟨p2,rfl⟩:=Xy v0;have u1:p1<m:=Int.ofNat_lt.mp u1;have v1:p2<m:=Int.ofNat_lt.mp v1;have hi:i<ts.length:=(Zj.mp et).1;have g3:=g2.trans (aB hTp (.tup [vn i,.ref r]));have w3:=w2.keep (aB hTp (.tup [vn i,.ref r]));have small:∀(k p:Nat),(F k p).length<ZW:=λk p=>by
    show((AW.endsAt (ts.take k) p).map V.int).length<ZW;have h1:(AW.endsAt (ts.take k) p).length<=(AW.all2 (ts.take k)).length:=List.length_filter_le ..;have h2:(AW.all2 (ts.take k)).length<=2000:=by unfold AW.all2;rw[Zq,Yj,Yw];lia
    rw[Zq];exact Xq (YQ h1 h2) (by decide)
   refine(aQ _ (SqT.of aA) rfl ?_);obtain⟨x1,a1,b1,c1,d1⟩:=w3.item u1;refine(aH _ _ (SqT.of (g3 _ _ er)) rfl (dI _ _ (SqL.of w3.at_) d1 (.inl ⟨rfl,_,SqL.of b1⟩) (.inl ⟨by decide,by decide⟩) (aQ _ b1 (small i p1) ?_)));have w4:=w3.put a1 (F i p1++[V.int (2*(i:Int))]);have g4:=g3.fresh c1 (.lst (F i p1++[V.int (2*(i:Int))]));obtain⟨x2,a2,b2,c2,d2⟩:=w4.item v1;refine(aH _ _ (SqT.of (g4 _ _ er)) rfl (dI _ _ (SqL.of w4.at_) d2 (.inl ⟨rfl,_,SqL.of b2⟩) (.inl ⟨by decide,by decide⟩) (iJ _ b2 ?_ (xWW _ _ rfl) ?_ (g4.fresh c2 _))))
   ·show(if p2=p1 then F i p1++[V.int (2*(i:Int))] else F i p2).length<ZW;have h1:=small i p1;have h2:=small i p2;split
    ·rw[Zm];have h3:(AW.endsAt (ts.take i) p1).length<=(AW.all2 (ts.take i)).length:=List.length_filter_le ..;have h4:(AW.all2 (ts.take i)).length<=2000:=by unfold AW.all2;rw[Zq,Yj,Yw];lia
     have h5:(F i p1).length=(AW.endsAt (ts.take i) p1).length:=Zq ..;exact Xq (show _<=2001 by rw[h5];simp;lia) (by decide)
    ·exact h2
   ·have w5:=w4.put a2 ((if p2=p1 then F i p1++[V.int (2*(i:Int))] else F i p2)++[V.int (2*(i:Int)+1)]);have e:(λj=>if j=p2 then (if p2=p1 then F i p1++[V.int (2*(i:Int))] else F i p2)++[V.int (2*(i:Int)+1)] else if j=p1 then F i p1++[V.int (2*(i:Int))] else F i j)=F (i+1):=by
     funext j
     have ht:ts.take (i+1)=ts.take i++[((p1:Int),(p2:Int))]:=by rw[List.take_add_one,et];rfl
     have hlt:(ts.take i).length=i:=by rw[Yw];lia
     show _=(AW.endsAt (ts.take (i+1)) j).map V.int;rw[ht,AW.wQ,hlt,Zt,Zt];have c1:((p1:Int)=(j:Int))↔(j=p1):=by lia
     have c2:((p2:Int)=(j:Int))↔(j=p2):=by lia
     simp only[c1,c2];by_cases k2:j=p2
     ·subst k2;by_cases k1:j=p1
      ·subst k1;simp[F]
      ·simp[F,k1]
     ·by_cases k1:j=p1
      ·subst k1;simp[F,k2]
      ·simp[F,k1,k2]
    rw[e]at w5;exact w5
  ·rintro σ H' ⟨⟨v3,v4,rfl⟩,w2,g2⟩;refine(q D H' g2 ?_);have e:F (tr.map V.ref).length=λp:Nat=>(AW.endsAt ts p).map V.int:=by funext p;show(AW.endsAt (ts.take _) p).map V.int=_;rw[Zq,e2,Yv]
   rw[e]at w2;refine gU.os (rr:=rr) (H:=H) ?_;rw[Ym];exact w2
def LF:Sp:=λvs H Q _=>∃(wa:Addr) (m:Nat) (ts:AW.Ts) (os:AW.Os),vs=[.ref wa]/\xG H wa m ts os/\AW.InW m ts/\m<=1000/\ts.length<=1000 /\
 ∀(b:Bool) (H':Hp),aJ H H'->(b=true↔os.length=m/\AW.Fit ts os)->Q (.bl b) H'
theorem IR(T:Txt K mg t):Ok P w base T 13 2 LF:=by
 left
 obtain⟨wa,m,ts,os,rfl,⟨tA,oA,hw,hT,or,o1,o2,o3⟩,hin,hm,hl,q⟩:=h;refine(xWP _ (by exists 1,aG,0,e9,1,aG,0,lP rfl (T.z 14) ?_,1,MR,aG,0,aG,0,2,3,2,mK (T.g 3),(i7 hr.units),aN uU rfl (T.z 12) boot_sorted ?_,2,3) ?_);refine(aH _ _ (SqT.of hw) rfl ?_);refine(bO oA _ rfl (.inl (SqL.of o1)) _ _ (SqT.of hw) rfl (i2 (λc=>?_) (λc=>?_)))
 ·refine q false H (aJ.refl _) ⟨λz=>Bool.noConfusion z,λz=>?_⟩;rw[Zq,o2,z.1]at c;simp at c
 have hlen:os.length=m:=by
  rw[Zq,o2]at c;apply ZS;intro z;apply c;simp only[Bool.not_eq_true',decide_eq_false_iff_not];intro z2;exact z (Int.ofNat.inj (V.int.inj z2))
 refine(bO _ _ (SqT.of hw) rfl _ _ (SqT.of hw) rfl (kC m tA ts rfl hT hin hm hl (λr H1 g1 hE=>?_)));obtain⟨er,r1,r2,r3⟩:=hE;refine(l7 oA r _ _ rfl (g1 _ _ o1) r1 (pM (xs:=or.map V.ref) (ys:=er.map V.ref) (λk σ H'=>(∃v2 v3,σ=[some (.ref wa),some (.ref oA),v2,v3])/\aJ H1 H'/\∀(i:Nat) o,i<k->os[i]?=some o->o.length<=4/\o.Perm (AW.endsAt ts i)) ?_ (xPP (xWW _ _ rfl) (aJ.refl _) (λi o hi=>by lia)) ?_ ?_ ?_))
 ·rw[Zq,Zq,o2,r2,Zq,Yj,hlen]
 ·rintro i σ H' hi ⟨_,g2,_⟩;exact⟨g2 _ _ (g1 _ _ o1),g2 _ _ r1⟩
 ·rintro i x y σ H' Tp hx hy ⟨⟨v2,v3,rfl⟩,g2,ih⟩ hTp;obtain⟨o,ra,eo,rfl,era⟩:=OsI.nth o2 o3 hx;obtain⟨l,rb,el,rfl,erb⟩:=OsI.nth r2 r3 hy;have hi:i<m:=by rw[<-hlen];exact(Zj.mp eo).1
  have el2:l=AW.endsAt ts i:=by
   have:((ZR m).map λp:Nat=>AW.endsAt ts p)[i]?=some (AW.endsAt ts i):=by simp[hi]
   rw[this]at el;exact(Option.some.inj el).symm
  subst el2;have g3:=g2.trans (aB hTp (.tup [.ref ra,.ref rb]));refine(aQ _ (SqT.of aA) rfl ?_);refine(aH ra _ rfl (.inl (SqL.of (g3 _ _ (g1 _ _ era)))) (i2 (λc=>iT ?_) (λc=>?_)))
  ·have c:(4:Int)<((o.map V.int).length:Nat):=Yf c;rw[Zq]at c;refine q false _ (g1.trans g3) ⟨λz=>Bool.noConfusion z,λz=>?_⟩;have:=(z.2 i o eo).1
   lia
  have c4:o.length<=4:=by
   rw[Zq]at c;simp only[decide_eq_true_eq]at c
   lia
  refine(aP ra o rfl (SqL.of (g3 _ _ (g1 _ _ era))) (by lia) (λls ns' hls p1 p2=>?_));have g4:=g3.trans (aB hls (.lst (ns'.map V.int)));refine(dI _ _ (kW aA) (kW (g4 _ _ erb)) (shaped_ints _) (shaped_ints _) ?_);rw[nW];by_cases e:ns'=AW.endsAt ts i
  ·rw[Ye e];refine iF (xPP (xWW _ _ rfl) g4 (λj o' hj ho'=>?_));by_cases hj2:j<i
   ·exact ih j o' hj2 ho'
   ·have:j=i:=by lia
    subst this;rw[eo]at ho';cases ho';exact⟨c4,e▸p1.symm⟩
  ·rw[Yc e];refine iT (q false _ (g1.trans g4) ⟨λz=>Bool.noConfusion z,λz=>?_⟩);exact Yg (AW.BV (p1.trans (z.2 i o eo).2) p2 (AW.BL ts i)) e
 ·rintro σ H' ⟨⟨v2,v3,rfl⟩,g2,ih⟩;refine q true H' (g1.trans g2) ⟨λ_=>⟨hlen,λi o hio=>ih i o ?_ hio⟩,λ_=>rfl⟩;rw[Zq,o2];exact(Zj.mp hio).1
def LK:Sp:=λvs H Q _=>∃(m:Nat) (a:Addr) (ts:AW.Ts),vs=[vn m,.ref a]/\TsI H a ts/\AW.InW m ts/\0<m/\m<=1000/\ts.length<=1000 /\
 ∀(b:Bool) (H':Hp),aJ H H'->(b=true↔AW.BD m ts)->Q (.bl b) H'
def GU(H:Hp)(m:Nat)(ts:AW.Ts)(D rA wA:Addr)(rr:List Addr)(R:List Bool)(W:List Int)(H':Hp):Prop :=
 gU H H' D rr ((ZR m).map λp:Nat=>(AW.nbs ts p).map V.int)/\H' rA=some (.lst (R.map V.bl))/\H' wA=some (.lst (W.map V.int))/\aJ H H'
theorem JF(ts:AW.Ts)(p:Int):(AW.nbs ts p).length<=2*ts.length:=by
 induction ts with
 |nil=>exact ZC _
 |cons t ts ih =>
  unfold AW.nbs AW.nb at ih ⊢;rw[List.flatMap_cons,Zm,Yq,Zm];have h1:(if t.1=p then [t.2] else []).length<=1:=by split<;>simp
  have h2:(if t.2=p then [t.1] else []).length<=1:=by split<;>simp
  lia
theorem I0(T:Txt K mg t):Ok P w base T 15 1 LK:=by
 refine T.okN 15 (scm:cV ["many","ties","near","a","b","reached","waiting","place","neighbour"] _ _) (λvs H Q E h=>?_) ?_
 ·obtain⟨m,a,ts,rfl,_⟩:=h;rfl
 intro cdv A outer s H vs Q E hr h nd X;obtain⟨m,a,ts,rfl,⟨tr,e1,e2,e3⟩,hw,hm0,hm,hl,q⟩:=h;refine(xWP _ (by exists (e8 2 ["place"] [none]),0,0,a7 ?_,1,3,4,aI,2,3,4,aI,2,4,3,(e8 5 ["place"] [none]),0,0,bY,0,6,bH (pv 6) (λ_=>rfl),7,EY YO PySem.F.slot_list_pop PySem.F.type_list_pop FP (pv 6),a7 ?_,aI,2,7,8,bH ?_ (λ_=>rfl),aI,5,8,dF ?_ ?_,eT ?_ ?_ set_list,5,8,6,8,aN (iX rfl) rfl (T.z 0) boot_all ?_,5) ?_);refine(dA (m:Int) rfl (by lia) (by lia) (λD hD=>?_));refine tI m (λ_=>[]) hD (by lia) (λi H' hi g2=>?_) (λH' g2=>?_) ?_ ?_
 ·show i<((m:Int)-0).toNat;lia
 ·show((m:Int)-0).toNat<=m;lia
 ·rintro i H' x H'' k hi g2 ⟨e,y⟩ hk;subst e;exact(xPP ((Fills.refl _).set _ rfl) (by show 0<=ZW;decide) (λl hl'=>hk l _ hl' (aB hl' _) aA))
 intro rr H1 w1 g1
 let F:Nat->Nat->List V:=λk p=>(AW.nbs (ts.take k) p).map V.int
 have small:∀(k p:Nat),(F k p).length<=2000:=λk p=>by
  show((AW.nbs (ts.take k) p).map V.int).length<=2000;have h1:=JF (ts.take k) p;rw[Yw]at h1;rw[Zq];lia
 let Pv1:Nat->L2.St->L2.Hp->Prop:=λk σ H'=>(∃v3 v4,σ=[some (vn m),some (.ref a),some (.ref D),v3,v4,none,none,none,none])/\gU H H' D rr ((ZR m).map (F k))/\aJ H H'
 refine⟨⟨_,SqL.of (g1 _ _ e1)⟩,cR (a:=a) (xs:=tr.map V.ref) Pv1 (xPP (xWW _ _ rfl) ?_ g1) ?_ ?_ ?_⟩
 ·have e:F 0=λ_=>[]:=by funext p;show(AW.nbs (ts.take 0) p).map V.int=[];rw[List.take_zero];rfl
  rw[e];exact w1
 ·rintro i σ H' hi ⟨_,_,g2⟩;exact SqL.of (g2 _ _ e1)
 ·rintro i x σ H' hx ⟨⟨v3,v4,rfl⟩,w2,g2⟩;obtain⟨⟨u,v⟩,r,et,rfl,er⟩:=TsI.nth (a:=a) e2 e3 hx;obtain⟨⟨u0,u1⟩,v0,v1⟩:=hw _ (Zg et);obtain⟨p1,rfl⟩:=Xy u0;obtain⟨p2,rfl⟩:=Xy v0;have u1:p1<m:=Int.ofNat_lt.mp u1;have v1:p2<m:=Int.ofNat_lt.mp v1;refine(aQ _ (SqT.of (g2 _ _ er)) rfl ?_);obtain⟨x1,a1,b1,c1,d1⟩:=w2.item u1;refine(aP _ _ (SqL.of w2.at_) d1 (.inl ⟨rfl,_,SqL.of b1⟩) (aQ _ b1 (Xq (small i p1) (by decide)) ?_));have w4:=w2.put a1 (F i p1++[V.int (p2:Int)]);have g4:=g2.fresh c1 (.lst (F i p1++[V.int (p2:Int)]));obtain⟨x2,a2,b2,c2,d2⟩:=w4.item v1;refine(aP _ _ (SqL.of w4.at_) d2 (.inl ⟨rfl,_,SqL.of b2⟩) (iJ _ b2 ?_ (xWW _ _ rfl) ?_ (g4.fresh c2 _)))
  ·show(if p2=p1 then F i p1++[V.int (p2:Int)] else F i p2).length<ZW;have h1:=small i p1;have h2:=small i p2;refine Xq (show _<=2001 from ?_) (by decide);split
   ·rw[Zm];simp;lia
   ·lia
  ·have w5:=w4.put a2 ((if p2=p1 then F i p1++[V.int (p2:Int)] else F i p2)++[V.int (p1:Int)]);have e:(λj=>if j=p2 then (if p2=p1 then F i p1++[V.int (p2:Int)] else F i p2)++[V.int (p1:Int)] else if j=p1 then F i p1++[V.int (p2:Int)] else F i j)=F (i+1):=by
    funext j
    have ht:ts.take (i+1)=ts.take i++[((p1:Int),(p2:Int))]:=by rw[List.take_add_one,et];rfl
    show _=(AW.nbs (ts.take (i+1)) j).map V.int;rw[ht,AW.FN,Zt];unfold AW.nb;have c1:((p1:Int)=(j:Int))↔(j=p1):=by lia
    have c2:((p2:Int)=(j:Int))↔(j=p2):=by lia
    simp only[c1,c2];by_cases k2:j=p2
    ·subst k2;by_cases k1:j=p1
     ·subst k1;simp[F]
     ·simp[F,k1]
    ·by_cases k1:j=p1
     ·subst k1;simp[F,k2]
     ·simp[F,k1,k2]
   rw[e]at w5;exact w5
 rintro σ H2 ⟨⟨v3,v4,rfl⟩,w2,g2⟩;have eF:F (tr.map V.ref).length=λp:Nat=>(AW.nbs ts p).map V.int:=by funext p;show(AW.nbs (ts.take _) p).map V.int=_;rw[Zq,e2,Yv]
 rw[eF]at w2;refine(dA (m:Int) rfl (by lia) (by lia) (λrA hrA=>?_));refine bD m (λp=>.bl (decide ((V.int (0+(p:Int)))=V.int 0))) hrA (by lia) (λi H' hi g3=>?_) (λH' g3=>?_) ?_ ?_
 ·show i<((m:Int)-0).toNat;lia
 ·show((m:Int)-0).toNat<=m;lia
 ·rintro i H' x H'' k hi g3 ⟨e,y⟩ hk;subst e;subst y;exact⟨(Fills.refl _).set _ rfl,hk _ (aJ.refl _)⟩
 intro H3 g3 eR;have eR0:(ZR m).map (λp:Nat=>V.bl (decide ((V.int (0+(p:Int)))=V.int 0)))=((ZR m).map λp=>decide (p=0)).map V.bl:=by
  rw[Ym];refine Ys λp _=>?_;show V.bl (decide _)=V.bl (decide (p=0));have hp:(V.int (0+(p:Int))=V.int 0)↔p=0:=⟨λz=>by have:=V.int.inj z;lia,λz=>by rw[z];rfl⟩
  simp only[hp]
 rw[eR0]at eR;refine⟨(by show 1<=ZW;decide),λwA hwA=>?_⟩;have w3:=w2.keep g3;have g23:=g2.trans g3;have rD:rA≠D:=λz=>by rw[z,w2.at_]at hrA;cases hrA
 have rin:rA∉rr:=w2.notIn hrA;have wD:wA≠D:=λz=>by rw[z,w3.at_]at hwA;cases hwA
 have win:wA∉rr:=w3.notIn hwA;have wr:wA≠rA:=λz=>by rw[z,eR]at hwA;cases hwA
 have r0:H rA=none:=g2.free hrA;have w0:H wA=none:=g23.free hwA
 let Wv1:Nat->L2.St->L2.Hp->Prop:=λM σ H'=>∃R W v3 v4 v7 v8,(M=2*AW.h8 R+W.length/\M<=2001)/\σ=[some (vn m),some (.ref a),some (.ref D),v3,v4,some (.ref rA),some (.ref wA),v7,v8]/\GU H m ts D rA wA rr R W H'/\AW.gG m ts R W
 refine(xWP Wv1 (cQ _ _ _ _ _ _ _ ⟨rfl,?bnd⟩ rfl ⟨ (cH (w3.other wD win _) (by rw[aE (Yh wr)];exact eR) (by exact aA) (g23.fresh w0 _)),AW.gG.start hm0⟩) ?_)
 case bnd =>
  have h1:AW.h8 ((ZR m).map λp=>decide (p=0))<=m:=by
   unfold AW.h8;exact YQ (List.length_filter_le ..) (by simp)
  show _+1<=2001
  lia
 rintro M σ H' ⟨R,W,v3,v4,v7,v8,⟨rfl,hB⟩,rfl,⟨w4,hR,hW,g4⟩,hS⟩;refine(xWP _ (.inl (xWP _ (SqL.of hW) rfl)) ?_);rcases List.eq_nil_or_concat W with rfl | ⟨W0,pz,rfl⟩
 ·refine iF (aH rA R rfl (SqL.of hR) (q _ H' g4 (hS.done hw)))
 rw[List.concat_eq_append]at *;obtain⟨p0,rfl,hp0⟩:=hS.win pz (by simp);have hpm:p0<m:=by rw[<-hS.len];exact(Zj.mp hp0).1
 have eW:(W0++[(p0:Int)]).map V.int=W0.map V.int++[vn p0]:=by rw[Zt];rfl
 rw[eW];rw[show(!(W0.map V.int++[vn p0]).isEmpty)=true by simp];refine iT ⟨λσ' H''=>∃R' W' v3 v4 v7 v8,2*AW.h8 R'+W'.length<2*AW.h8 R+(W0++[(p0:Int)]).length/\σ'=[some (vn m),some (.ref a),some (.ref D),v3,v4,some (.ref rA),some (.ref wA),v7,v8]/\GU H m ts D rA wA rr R' W' H''/\AW.gG m ts R' W',?_,?_⟩
 ·rintro σ' H'' ⟨R',W',v3,v4,v7,v8,hM,rfl,hI,hS'⟩;exact(pR _ hM R' W' _ _ _ _ ⟨rfl,by lia⟩ (xPP rfl hI hS'))
 rw[eW]at hW;refine(i3 (.inl ⟨rfl,_,SqL.of hW⟩) _ (vn p0) hW (by rw[Zm];simp) ?_);rw[List.dropLast_concat];have w5:=w4.other wD win (.lst (W0.map V.int));have g5:=g4.fresh w0 (.lst (W0.map V.int));obtain⟨x1,a1,b1,c1,d1⟩:=w5.item hpm;have hlen:(W0++[(p0:Int)]).length=W0.length+1:=by simp
 rw[hlen]
 let Pv2:Nat->L2.St->L2.Hp->Prop:=λk σ H''=>∃R' W' v8,2*AW.h8 R'+W'.length<2*AW.h8 R+(W0.length+1) /\
  σ=[some (vn m),some (.ref a),some (.ref D),v3,v4,some (.ref rA),some (.ref wA),some (vn p0),v8]/\GU H m ts D rA wA rr R' W' H''/\AW.j6 m ts R' W' p0 k
 refine(aH _ _ (SqL.of w5.at_) d1 ⟨ ⟨_,SqL.of b1⟩,cR (a:=x1) (xs:=(AW.nbs ts p0).map V.int) Pv2 (dO R W0 _ (by lia) rfl (cH w5 (by rw[aE (Yh wr)];exact hR) aA g5) (.start hS)) ?_ ?_ ?_⟩)
 ·rintro i σ H'' hi ⟨R',W',v8,_,_,⟨w6,_⟩,_⟩;obtain⟨x2,a2,b2,_⟩:=w6.item hpm;rw[a1]at a2;cases a2;exact SqL.of b2
 ·rintro i x σ H'' hx ⟨R',W',v8,hM,rfl,⟨w6,hR',hW',g6⟩,hI⟩;rw[Zk]at hx;cases eq':(AW.nbs ts p0)[i]? with
  |none=>rw[eq']at hx;cases hx
  |some qz =>
   rw[eq']at hx;cases hx;obtain⟨q0,q1⟩:=AW.FO hw (Zg eq');obtain⟨qn,rfl⟩:=Xy q0;have q1:qn<m:=Int.ofNat_lt.mp q1;have hql:qn<R'.length:=by rw[hI.len];exact q1
   have eb:R'[qn]?=some R'[qn]:=Zz hql;refine(l8 _ (.bl R'[qn]) (SqL.of hR') (bM (by rw[Zk,eb];rfl)) (R'[qn]) rfl ?_);cases hb:R'[qn]with
   |true =>
    refine iF (dO R' W' _ hM rfl (cH w6 hR' hW' g6) (hI.skip eq' ?_));rw[show((qn:Int)).toNat=qn from rfl,eb,hb]
   |false =>
    rw[hb]at eb;have hset:(R'.map V.bl).set qn (.bl true)=(R'.set qn true).map V.bl:=by rw[ZG]
    have hf:=AW.rJ eb;refine iT (aH _ qn hR' ?_ ?_)
    ·exact fV (by rw[Zq];exact hql) rfl
    rw[hset];refine(kZ (.inl ⟨rfl,_,SqL.of (by rw[aE wr];exact hW')⟩) _ (by rw[aE wr];exact hW') ?_ ?_)
    ·rw[Zq];exact Xq (show _<=2001 by rw[hlen]at hB;lia) (by decide)
    refine(dO (R'.set qn true) (W'++[(qn:Int)]) _ ?_ rfl (cH ((w6.other rD rin _).other wD win _) ?_ ?_ ((g6.fresh r0 _).fresh w0 _)) (hI.reach eq' q1))
    ·rw[Zm];simp;lia
    ·rw[aE (Yh wr)];exact aA
    ·rw[Zt];exact aA
 ·rintro σ H'' ⟨R',W',v8,hM,rfl,hI,hS'⟩;exact(fN R' W' _ _ _ _ (by simpa using hM) rfl hI (hS'.finish (by rw[Zq];exact ZC _)))
theorem O1{σ:L2.St}{H:Hp}{Q:VK}{a c x:Int}{tb:TE}(hb:∀R:VK,R (.int x) H->tb σ H R)(q:Q (.bl (decide (a<=x)&&decide (x<=c))) H) :
  pZ (rI0 λi j=>V.bl (decide (i<=j))) (rI0 λi j=>V.bl (decide (i<=j))) (tC (V.int a)) tb (tC (V.int c)) σ H Q:=by
 refine hb _ (i2 (λh=>?_) λh=>?_)
 ·rw[h,Bool.true_and]at q;exact q
 ·rw[Bool.eq_false_iff.mpr h,Bool.false_and]at q;exact q
def HN:Sp:=λvs H Q _=>∃(wa:Addr) (m:Int) (ts:AW.Ts) (os:AW.Os),vs=[.ref wa]/\xG H wa m ts os/\AW.BH m ts os/\∀H',aJ H H'->Q .non H'
theorem FG(T:Txt K mg t):Ok P w base T 11 3 HN:=by
 left
 obtain⟨wa,m,ts,os,rfl,⟨tA,oA,hw,hT,hO⟩,⟨⟨c1,c2⟩,c3,c4,c5,c6⟩,q⟩:=h;refine(xWP _ (aS (eZ 1 nd (cP aG (pv 0) aM (λ_ _=>rfl)))
  (aS (eZ 2 nd (cP aG (pv 0) aM (λ_ _=>rfl)))
  (aS (eQ (iL (jM k9 k9 aM (pv 1) (mK (T.g 1)))) fP cE)
  (aS (eQ (iL (jM k9 k9 aM (aN bK rfl (T.z 6) PySem.boot_len (aK (pv 2) aO)) (mK (T.g 2)))) fP cE)
  (aS (eQ (iL (bH (bT (MI T) hr (T.f 12) aZ (aK (pv 1) (aK (pv 2) aO))) (λ_=>rfl))) fP cE)
  (aS (eQ (iL (bH (bT (IR T) hr (T.f 13) aZ (aK (pv 0) aO)) (λ_=>rfl))) fP cE)
  (a0 (eQ (iL (bH (bT (I0 T) hr (T.f 15) aZ (aK (pv 1) (aK (pv 2) aO))) (λ_=>rfl))) fP cE)))))))) ?_)
 refine(aH _ _ (SqT.of hw) rfl ?_);refine(aH _ _ (SqT.of hw) rfl ?_);dsimp only[b0,BO,HC,G8,vC];refine O1 (x:=m) ?h1 ?h2
 case h1=>exact λR h=>(h)
 rw[show(decide ((1:Int)<=m)&&decide (m<=200))=true by rw[<-Bool.decide_and];exact Ye c1];refine iF ?_;obtain⟨tr,e1,e2,e3⟩:=id hT;dsimp only[zT,BO,HC,G8,vC];refine O1 (x:=((tr.map V.ref).length:Nat)) ?h3 ?h4
 case h3=>exact λR h=>(aH tA _ rfl (.inl (SqL.of e1)) h)
 rw[Zq,e2];rw[show(decide ((1:Int)<=(ts.length:Nat))&&decide (((ts.length:Nat):Int)<=400))=true by rw[<-Bool.decide_and];exact Ye (by lia)];refine iF (dO m tA ts rfl hT (by lia) (λH1 g1=>(xWP _ rfl ?_)));rw[AW.FW.mpr c3];obtain⟨n,rfl⟩:=Xy (show 0<=m by lia);refine iF (b9 wa n ts os rfl (aH tA oA (g1 _ _ hw) (hT.same g1) (hO.same g1)) c3 (by lia) (by lia) (λb H2 g2 hb=>(xWP _ rfl ?_)));rw[hb.mpr ⟨Int.ofNat.inj c4,c5⟩];refine iF (dX n tA ts rfl ((hT.same g1).same g2) c3 (by lia) (by lia) (by lia) (λb H3 g3 hb=>(xWP _ rfl ?_)));rw[hb.mpr c6];exact iF (q H3 ((g1.trans g2).trans g3))
def LP:Sp:=λvs H Q _=>∃(a:Addr) (ns:List Int) (k:Int),vs=[.ref a,.int k]/\SqL H a (ns.map V.int)/\0<=k/\∀c:Int,Q (.int c) H
theorem NA{ns:List Int}{k:Int}(h0:0<=k)(h:k<(ns.length:Int)):∃v:Int,atI (ns.map V.int) k=some (.int v):=by
 have hk:k.toNat<ns.length:=by lia
 have ek:k=((k.toNat:Nat):Int):=by lia
 have q:atI (ns.map V.int) ((k.toNat:Nat):Int)=some (.int ns[k.toNat]):=bM (by rw[Zk,Zz hk]<;>rfl);rw[<-ek]at q;exact⟨_,q⟩
theorem i8(T:Txt K mg t):Ok P w base T 75 1 (LP):=by
 left
 obtain⟨a,ns,k,rfl,hS,h0,q⟩:=h;refine(xWP _ (by exists 1,0,aI,0,1) ?_);refine(aH a _ rfl (.inl hS) ?_);refine i2 (λc=>?_) (λc=>?_)
 ·have c':k<(((ns.map V.int).length:Nat):Int):=Yf c;rw[Zq]at c';obtain⟨v,hv⟩:=NA h0 c';exact(aH _ _ hS hv (q v))
 ·exact q 0
def NX:Sp:=λvs H Q _=>∃c k:Int,vs=[.int c,.int k]/\0<=k/\k<=1000/\∀m:Int,0<=m->m<1000000000->Q (.int m) H
theorem dG(T:Txt K mg t):Ok P w base T 76 1 NX:=by
 left
 obtain⟨c,k,rfl,h0,h1,q⟩:=h;refine(xWP _ (by exists 0,yM,1,2,0,bE,0,yM,0,yM,3,aX,aX,0,1,1,1,3,3,3,bE,3,aX,3) ?_);have p18:NF 10 18:=(xPP (by decide) (by decide) (by decide))
 have p6:NF 10 6:=(xPP (by decide) (by decide) (by decide))
 refine⟨p18,?_⟩;refine i2 (λ_=>?_) (λ_=>?_)
 ·let Pv1:Nat->L2.St->L2.Hp->Prop:=λ_ σ H'=>H'=H/\∃(c':Int) (o:Option V),σ=[some (.int c'),some (.int k),o,none]
  refine(dA k rfl (by lia) (by lia) (cZ (lo:=0) (n:=k.toNat) Pv1 ⟨rfl,(xWW c none rfl)⟩ ?_ ?_))
  ·rintro i σ H' hi ⟨rfl,c',o,rfl⟩;exact(cH p6 ⟨by decide,by decide⟩ rfl (xWW _ _ rfl))
  ·rintro σ H' ⟨rfl,c',o,rfl⟩;refine(xPP p6 (by show(0:Int)<10 ^ 6;decide) (q _ (Xw _ (by decide)) ?_));exact Int.lt_trans (Xx _ (by decide)) (by decide)
 ·refine(gK (by show(0:Int)<1000003;decide) (.inl ⟨by lia,by lia⟩) (.inr ⟨by decide,by decide⟩) (.inr ⟨by decide,by decide⟩) (by show(0:Int)<2147483629;decide) ?_);have b1:∀x:Int,0<=x%2147483629/\x%2147483629<2147483629:=λx=>⟨Xw _ (by decide),Xx _ (by decide)⟩
  have b2:∀x:Int,0<=x%2147483587/\x%2147483587<2147483587:=λx=>⟨Xw _ (by decide),Xx _ (by decide)⟩
  have b3:∀x:Int,0<=x%2147483579/\x%2147483579<2147483579:=λx=>⟨Xw _ (by decide),Xx _ (by decide)⟩
  generalize hn1:((c%1000003+k*k*7919+k)*48271%2147483629:Int)=n1;have r1:=b1 ((c%1000003+k*k*7919+k)*48271);rw[hn1]at r1;refine(xPP (.inl ⟨by lia,by lia⟩) (by show(0:Int)<2147483587;decide) ?_);have r2:=b2 (n1*n1);generalize n1*n1%2147483587=n2 at r2 ⊢;refine(cH (.inl ⟨by lia,by lia⟩) (by show(0:Int)<2147483579;decide) ⟨by decide,by decide⟩ ?_);have r3:=b3 (n2*(n2+2));generalize n2*(n2+2)%2147483579=n3 at r3 ⊢;exact q _ (by lia) (by lia)
def DV:Sp:=λvs H Q _=>∃e:Nat,vs=[vn e]/\Q (vn (MM.oth e)) H
theorem fA(T:Txt K mg t):Ok P w base T 78 1 DV:=by
 left
 obtain⟨e,rfl,q⟩:=h;refine(xWP _ (by exists aX,0,0) ?_);refine(xPP (by show(0:Int)<2;decide) (.inl ⟨by decide,by decide⟩) ?_);have e1:(e:Int)+1-2*((e:Int)%2)=((MM.oth e:Nat):Int):=by unfold MM.oth;split<;>lia
 show Q (.int ((e:Int)+1-2*((e:Int)%2))) H;rw[e1];exact q
def HI:Sp:=λvs H Q _=>∃(a:Addr) (ts:MM.aV) (e:Nat),vs=[.ref a,vn e]/\gM H a ts/\e<2*ts.length/\Q (vn (MM.place ts e)) H
theorem BC{x y:Nat}(e:Nat):atI [vn x,vn y] ((e:Int)%2)=some (vn (if e%2=0 then x else y)):=by
 rcases Nat.mod_two_eq_zero_or_one e with h | h
 ·rw[show(e:Int)%2=0 by lia,Yb h];rfl
 ·rw[show(e:Int)%2=1 by lia,Ya (by lia)];rfl
theorem kN(T:Txt K mg t):Ok P w base T 79 1 HI:=by
 left
 obtain⟨a,ts,e,rfl,ht,he,q⟩:=h;refine(xWP _ (by exists lX,aI,0,bE,1,1) ?_);obtain⟨xs,r,h1,h2,h3,h4⟩:=ht.item (i:=e / 2) (by lia);refine(i3 ⟨by decide,by decide⟩ xs _ (SqL.of h1) (by show atI xs ((e:Int) / 2)=_;rw[show(e:Int) / 2=((e / 2:Nat):Int) by lia];exact h3) ?_);refine⟨(by show(0:Int)<2;decide),.inr (.inl (aH _ _ (SqT.of h4) (BC e) ?_))⟩;unfold MM.place at q;split
 ·rename_i h;rw[Yb h]at q;exact q
 ·rename_i h;rw[Ya h]at q;exact q
def N6:Sp:=λvs H Q _=>∃(a o:Addr) (ts:MM.aV) (os:MM.aR) (e:Nat),vs=[.ref a,.ref o,vn e]/\gM H a ts/\oH H o os/\MM.Good ts os/\e<2*ts.length/\Q (vn (MM.behind ts os e)) H
theorem qS(T:Txt K mg t):Ok P w base T 80 2 N6:=by
 left
 obtain⟨a,o,ts,os,e,rfl,ht,ho,g,he,q⟩:=h;refine(xWP _ (by exists 3,aI,1,kN,0,fA,2,aI,3,iE YO PySem.F.slot_list_index PySem.F.type_list_index jT ?_ ?_,3,fA,2) ?_);have hp:=g.g.has (MM.oth e) (MM.bQ he);obtain⟨xs,r,h1,h2,h3,h4⟩:=ho.item hp.1;refine(nH e rfl a ts (MM.oth e) rfl ht (MM.bQ he) (aH xs _ (SqL.of h1) h3 ?_));refine(r8 (.inl ⟨rfl,_,SqL.of h4⟩) e rfl _ _ rfl h4 hp.2 (aH _ _ (SqL.of h4) (BB hp.2) q))
end K32
namespace L2
open PySem PyProof.Rows
structure cD(H H':Hp)(r:Addr)(rr:List Addr)(ls:MM.aR):Prop where
 at_:H' r=some (.lst (rr.map V.ref))
 len:rr.length=ls.length
 row:∀(i:Nat) l,ls[i]?=some l->∃x,rr[i]?=some x/\H' x=some (.lst (vns l))
 nd:rr.Nodup
 nin:r∉rr
 new:H r=none
 news:∀x∈rr,H x=none
theorem cD.os{H H':Hp}{r:Addr}{rr:List Addr}{ls:MM.aR}(n:cD H H' r rr ls):oH H' r ls:=(aQ rr n.at_ n.len n.row)
theorem cD.keep{H H' H2:Hp}{r:Addr}{rr:List Addr}{ls:MM.aR}(n:cD H H' r rr ls)(g:∀b o,b=r\/b∈rr->H' b=some o->H2 b=some o):cD H H2 r rr ls :=
 ⟨g _ _ (.inl rfl) n.at_,n.len,λi l h=>by obtain⟨x,h1,h2⟩:=n.row i l h;exact(xWP x h1 (g _ _ (.inr (Zg h1)) h2)),n.nd,n.nin,n.new,n.news⟩
theorem cD.ex{H H':Hp}{r:Addr}{rr:List Addr}{ls:MM.aR}(n:cD H H' r rr ls){x:Addr}(hx:x∈rr):∃l,H' x=some (.lst (vns l)):=by
 obtain⟨i,hi,rfl⟩:=Yy.mp hx;have hi':i<ls.length:=by rw[<-n.len];exact hi
 obtain⟨y,h1,h2⟩:=n.row i (ls[i]'hi') (Zz hi');rw[Zz hi]at h1;cases h1;exact⟨_,h2⟩
theorem cD.push{H H' H2:Hp}{r x:Addr}{rr:List Addr}{ls:MM.aR}{l:List Nat}(n:cD H H' r rr ls)(hx:H x=none)(hxr:x∉rr)(hxn:x≠r)(at2:H2 r=some (.lst ((rr++[x]).map V.ref)))(ax:H2 x=some (.lst (vns l)))
  (g:∀b o,b∈rr->H' b=some o->H2 b=some o):cD H H2 r (rr++[x]) (ls++[l]) where
 at_:=at2
 len:=by rw[Zm,Zm,n.len];rfl
 row:=λi m h=>by
  rcases Xk i ls.length with q | q
  ·rw[Zx q]at h;obtain⟨y,h1,h2⟩:=n.row i m h;exact(xWP y (by rw[Zx (by rw[n.len];exact q)];exact h1) (g _ _ (Zg h1) h2))
  ·have hi:i=ls.length:=by
    obtain⟨z,_⟩:=Zj.mp h;rw[Zm]at z;simp at z
    lia
   subst hi;rw[Yx]at h;cases h;exact(xWP x (by rw[<-n.len,Yx]) ax)
 nd:=by
  rw[List.nodup_append];refine(xPP n.nd (by simp) (λa ha b hb z=>?_));have e:b=x:=by simpa using hb
  subst e;subst z;exact hxr ha
 nin:=λz=>by
  rcases Zf.mp z with z | z
  ·exact n.nin z
  ·have e:r=x:=by simpa using z
   exact hxn e.symm
 new:=n.new
 news:=λy hy=>by
  rcases Zf.mp hy with z | z
  ·exact n.news y z
  ·have e:y=x:=by simpa using z
   subst e;exact hx
theorem kI(l m:List Nat):vns (l++m)=vns l++vns m:=Zt
theorem JN(x:Nat)(l:List Nat):inV (vn x) (vns l)=decide (x∈l):=by
 unfold inV;rw[Xh,List.any_eq_true,decide_eq_true_iff];constructor
 ·rintro⟨y,hy,h⟩;obtain⟨n,hn,rfl⟩:=Zh.mp hy;have h':((n:Int)==(x:Int))=true:=h;have:n=x:=by have:=beq_iff_eq.mp h';lia
  subst this;exact hn
 ·intro h;exact(xWP (vn x) (Zh.mpr (xWP x h rfl)) (by show((x:Int)==(x:Int))=true;simp))
theorem DB(l:List Nat):(vns l).all j3=true:=by rw[ZD];intro y hy;obtain⟨n,_,rfl⟩:=Zh.mp hy;rfl
theorem uW{H:Hp}:∀l:List Nat,Bds H (vns l) (l.map λn:Nat=>PyData.int (n:Int))
 |[]=>.nil
 |n::l=>.cons (.int n) (uW l)
theorem oJ(l:List Nat):SeqAt.shaped (.list (l.map λn:Nat=>PyData.int (n:Int)))=true:=by
 have e:(l.map λn:Nat=>PyData.int (n:Int))=(l.map λn:Nat=>(n:Int)).map PyData.int:=by rw[Ym];rfl
 rw[e];generalize (l.map λn:Nat=>(n:Int))=ns;simp[SeqAt.shaped,PyData.canLay0,PyData.canLayAll0,PyData.depth,PyData.depthAll,PySem.W.ke_canLayAll0,PySem.W.ke_depthAll]
theorem F9(l m:List Nat):PyData.eqv (.list (l.map λn:Nat=>PyData.int (n:Int))) (.list (m.map λn:Nat=>PyData.int (n:Int)))=decide (l=m):=by
 have e:∀l:List Nat,(l.map λn:Nat=>PyData.int (n:Int))=(l.map λn:Nat=>(n:Int)).map PyData.int:=λl=>by rw[Ym];rfl
 rw[e,e];unfold PyData.eqv;rw[PySem.W.ked_eqvAll];have inj:∀l m:List Nat,(l.map λn:Nat=>(n:Int))=(m.map λn:Nat=>(n:Int))->l=m:=by
  intro l;induction l with
  |nil=>intro m h;cases m with
   |nil=>rfl
   |cons _ _=>simp at h
  |cons a l ih=>intro m h;cases m with
   |nil=>simp at h
   |cons b m =>
    simp only[ZI,List.cons.injEq]at h;rw[ih m h.2,show a=b by lia]
 by_cases h:l=m
 ·subst h;simp
 ·rw[Yc h,Yc (λz=>h (inj l m z))]
end L2
namespace K32
open PySem L2 PyProof.Rows
def DX:Sp:=λvs H Q _=>∃(a o:Addr) (ts:MM.aV) (os:MM.aR),vs=[.ref a,.ref o]/\gM H a ts/\oH H o os/\MM.Good ts os/\ts.length<=500 /\
 ∀(r:Addr) (rr:List Addr) (H':Hp),aJ H H'->cD H H' r rr (MM.aT (MM.behind ts os) (2*ts.length))->Q (.ref r) H'
theorem iS(T:Txt K mg t):Ok P w base T 81 3 DX:=by
 left
 obtain⟨a,o,ts,os,rfl,ht,ho,g,h500,q⟩:=h;refine(xWP _ (by exists 2,3,bS (rY rfl) rfl (T.z 7) boot_list ?_,bS xB rfl (T.z 10) boot_range ?_,0,(i7 hr.units),3,4,aI,3,5,qS,0,1,aI,3,e9,5,aI,4,4,5,5,qS,0,1,5,2,4,(e8 3 ["_law_end","_law_land"] [none,some 4]),a7 ?_,3,0,qL ?_,gR,0,1,0,2) ?_);have m:=g.maps;obtain⟨tr0,hta,htl,_⟩:=id ht;refine⟨(by show 0<=ZW;decide),λtr htr=>?_⟩;have g1:=aB htr (.lst []);refine(C3 a _ rfl (.inl (SqL.of (g1 _ _ hta))) (.inl ⟨by decide,by decide⟩) _ rfl (λp hp=>?_));have e2:(2:Int)*((tr0.map V.ref).length:Nat)=((2*ts.length:Nat):Int):=by rw[Zq,htl];push_cast;rfl
 rw[e2]at *;have g2:=aB hp (.rng 0 ((2*ts.length:Nat):Int));refine(aP p (2*ts.length) rfl aA (by lia) (λlr hlr=>?_));have g3:=aB hlr (.lst (vns (ZR (2*ts.length))));have ntl:tr≠lr:=aC (g2 _ _ aA) hlr;generalize hf:MM.behind ts os=f at m q;generalize hN:2*ts.length=N at m q hlr g3 g2 hp;have n0:cD H (upd (upd (upd H tr (.lst [])) p (.rng 0 (N:Int))) lr (.lst (vns (ZR N)))) tr [] [] :=
  ⟨g3 _ _ (g2 _ _ aA),rfl,λi l h=>by simp at h,List.nodup_nil,by simp,htr,λx hx=>by cases hx⟩
 let Wv1:Nat->L2.St->L2.Hp->Prop:=λk σ H1=>∃(lr:Addr) (left:List Nat) (rr:List Addr) (done:MM.aR) (o4 o5:Option V),k=left.length/\σ=[some (.ref a),some (.ref o),some (.ref tr),some (.ref lr),o4,o5]/\aJ H H1/\H1 lr=some (.lst (vns left)) /\
  cD H H1 tr rr done/\lr≠tr/\done++MM.lf f left=MM.aT f N/\(∀x∈left,x<N)/\left.length<=N
 refine(xWP Wv1 (cQ _ lr (ZR N) ([]) ([]) none none rfl rfl (iA ((g1.trans g2).trans g3) aA n0 (Yh ntl) rfl (λx hx=>Zs.mp hx) (by simp))) ?_);clear n0 g3 g2 hp hlr ntl lr p g1;rintro k σ H1 ⟨lr,left,rr,done,o4,o5,rfl,rfl,g1,el,n1,nlt,eq,hlt,hll⟩;refine⟨(by show 0<=ZW;decide),λp hp=>?_⟩;have gp:=aB hp (.lst []);refine(dI _ _ (.lst (SqL.of (gp _ _ el)) (uW left)) (.lst (SqL.of aA) (uW [])) (oJ left) (oJ []) ?_);rw[F9];have n2:cD H (upd H1 p (.lst [])) tr rr done:=n1.keep λb o' _ h=>gp _ _ h;have g2:=g1.trans gp;have el2:=gp _ _ el;generalize upd H1 p (.lst [])=H2 at n2 g2 el2 gp;clear hp;cases left with
 |nil =>
  refine iFb rfl ?_;rw[MM.FR,List.append_nil]at eq;exact(q tr rr H2 g2 (eq▸n2))
 |cons e r =>
  refine iTb (by simp) ?_;have heN:e<N:=hlt e Zd;obtain⟨rd,rdN⟩:=MM.cY m heN;have hdl:done.length<=N:=by
   have h1:=MM.qY m _ (ZR N) (ZC _) (λx hx=>Zs.mp hx);have h2:(done++MM.lf f (e::r)).length=(MM.aT f N).length:=by rw[eq]
   rw[Zm]at h2;unfold MM.aT at h2;rw[Yj]at h1
   lia
  have p1:atI (vns (e::r)) 0=some (vn e):=j4 (l:=e::r) (j:=0) (by simp) rfl;refine(xWP _ (λσ' H' h=>h) ?_);refine(aP _ _ (SqL.of el2) p1 (by show 1<=ZW;decide) (λla hla=>?_));have g3:=aB hla (.lst [vn e]);have nla:la≠tr/\la≠lr/\la∉rr:=by
   refine(xPP ((aC n2.at_ hla).symm) ((aC el2 hla).symm) (λz=>?_));obtain⟨l,hl⟩:=n2.ex z;rw[hla]at hl;cases hl
  refine(aH _ _ (SqL.of (g3 _ _ el2)) p1 (bB a o ts os e rfl ((g2.trans g3).ts ht) ((g2.trans g3).os ho) g ⟨ by rw[hN];exact heN,?_⟩));rw[hf]
  let Wv2:Nat->L2.St->L2.Hp->Prop:=λk σ H4=>∃j,k=MM.per f e-j/\0<j/\j<=MM.per f e/\σ=[some (.ref a),some (.ref o),some (.ref tr),some (.ref lr),some (.ref la),some (vn (MM.iter f j e))]/\(∀b o,b≠la->H2 b=some o->H4 b=some o)/\H4 la=some (.lst (vns (MM.path f e j)))
  refine(xWP Wv2 (hJ _ 1 rfl Nat.one_pos rd.1 rfl (λb o' hb h=>g3 _ _ h) aA) ?_);rintro k σ H4 ⟨j,rfl,hj0,hj,rfl,b4,e4⟩;have hH:∀b o',H b=some o'->H4 b=some o':=λb o' h=>b4 b o' (aC (g2 _ _ h) hla) (g2 _ _ h);have p0:atI (vns (MM.path f e j)) 0=some (vn e):=by
   have hl:0<(MM.path f e j).length:=by rw[MM.jR];exact hj0
   refine(j4 hl (k:=0) rfl).trans ?_;congr 2;unfold MM.path;simp[List.getD,hj0];rfl
  refine(aH _ _ (SqL.of e4) p0 ?_);by_cases hc:MM.iter f j e=e
  ·refine iFb (by rw[hc];simp) ?_;have ej:j=MM.per f e:=by
    rcases Xk j (MM.per f e) with z | z
    ·exact Yg hc (rd.2.2 j hj0 z)
    ·lia
   subst ej;have n4:cD H H4 tr rr done:=n2.keep λb o' hb h=>b4 b o' (by rcases hb with rfl | hb;exact Yh nla.1;rintro rfl;exact nla.2.2 hb) h;refine(kZ (.inl ⟨rfl,_,SqL.of n4.at_⟩) _ n4.at_ ?_ ?_)
   ·rw[Zq,n4.len];exact Xq (by lia:done.length<=1000) (by decide)
   have el5:(upd H4 tr (.lst (rr.map V.ref++[.ref la]))) lr=some (.lst (vns (e::r))):=by rw[aE nlt];exact b4 _ _ (Yh nla.2.1) el2
   have la5:(upd H4 tr (.lst (rr.map V.ref++[.ref la]))) la=some (.lst (vns (MM.aL f e))):=by rw[aE nla.1];exact e4
   have hH5:aJ H (upd H4 tr (.lst (rr.map V.ref++[.ref la]))):=λb o' h=>by rw[aE (aC h htr)];exact hH b o' h
   have n5:cD H (upd H4 tr (.lst (rr.map V.ref++[.ref la]))) tr (rr++[la]) (done++[MM.aL f e]) :=
    n4.push (g2.free hla) nla.2.2 nla.1 (by rw[aA,Zt];rfl) la5 λb o' hb h=>by rw[aE (show b≠tr from λz=>n4.nin (z▸hb))];exact h
   generalize upd H4 tr (.lst (rr.map V.ref++[.ref la]))=H5 at el5 la5 hH5 n5;refine⟨⟨_,SqL.of el5⟩,λD hD=>?_⟩;refine kS (e::r).length (λi ys H'=>ys=vns (((e::r).take i).filter λx=>decide (x∉MM.aL f e))/\H'=upd H5 D (.lst ys)) ⟨by simp,rfl⟩ ?_ ?_
   ·rintro i ys H' hi ⟨rfl,rfl⟩;have gD:=aB hD (.lst (vns (((e::r).take i).filter λx=>decide (x∉MM.aL f e))));have hx:(vns (e::r))[i]?=some (vn (e::r)[i]):=by rw[Zk,Zz hi];rfl
    refine⟨(cG _ _ (SqL.of (gD _ _ el5)) hx),?_⟩;rintro x' H'' ⟨rfl,hx'⟩;have e6:=hx' _ (SqL.of (gD _ _ el5));rw[hx]at e6;cases e6;refine⟨(Fills.refl _).set _ rfl,?_⟩;refine(dA _ (.inl (SqL.of (gD _ _ la5))) rfl (DB _) ?_);rw[JN];have ts1:=take_succ_filter (λx=>decide (x∉MM.aL f e)) (e::r) i _ (Zz hi);have hfl:((List.take i (e::r)).filter λx=>decide (x∉MM.aL f e)).length<=1000:=by
     have h1:=List.length_filter_le (λx=>decide (x∉MM.aL f e)) (List.take i (e::r));have h2:(List.take i (e::r)).length<=(e::r).length:=List.length_take_le' _ _
     lia
    by_cases hxm:(e::r)[i]∈MM.aL f e
    ·refine iFb (by simp[hxm]) ?_;rw[ts1,Ya (by simp[hxm]),List.append_nil];exact⟨rfl,rfl⟩
    ·refine iTb (by simp[hxm]) ?_;refine(cH aA ?_ ?_ ?_)
     ·rw[Zq];exact Xq hfl (by decide)
     ·rw[ts1,Yb (by simp[hxm]),kI];rfl
     ·rw[iB]
   ·rintro ys H' ⟨rfl,rfl⟩;have gD:=aB hD (.lst (vns (((e::r).take (e::r).length).filter λx=>decide (x∉MM.aL f e))));refine⟨(xWP _ (SqL.of (gD _ _ el5)) (by rw[Zq];exact ZC _)),?_⟩;have sh:=MM.cS m heN r;refine(pR _ ?_ D _ (rr++[la]) (done++[MM.aL f e]) _ _ rfl (u9 rfl (hH5.trans gD) aA (n5.keep λb o' _ h=>gD _ _ h) ((aC n5.at_ hD).symm) ?_ ?_ ?_))
    ·rw[Yv];simp only[Yq];lia
    ·rw[Yv,Yn];rw[MM.jB m hlt]at eq;exact eq
    ·intro x hx;rw[Yv]at hx;exact hlt x (Yz.mp hx).1
    ·rw[Yv];simp only[Yq]at hll;lia
  ·refine iTb (by simp;lia) ?_;have hjp:=MM.qD rd hj0 hj hc;refine(xWP _ (λσ' H' h=>h) ?_);refine(kZ (.inl ⟨rfl,_,SqL.of e4⟩) _ e4 ?_ ?_)
   ·rw[Zq,MM.jR];exact Xq (by lia:j<=1000) (by decide)
   have e7:vns (MM.path f e j)++[vn (MM.iter f j e)]=vns (MM.path f e (j+1)):=by rw[MM.nQ,kI];rfl
   rw[e7];have hH5:aJ H (upd H4 la (.lst (vns (MM.path f e (j+1))))):=λb o' h=>by rw[aE (aC (g2 _ _ h) hla)];exact hH b o' h
   refine(bB a o ts os (MM.iter f j e) rfl (hH5.ts ht) (hH5.os ho) g ⟨ by rw[hN];exact MM.cF m heN j,?_⟩);rw[hf];exact(BI (MM.per f e-(j+1)) (by lia) (j+1) rfl (by lia) (by lia) rfl (λb o' hb h=>by rw[aE hb];exact b4 b o' hb h) aA)
end K32
namespace MM
theorem gX{l:List Nat}{i x y:Nat}:y∈L2.aW l i x↔y=x\/y∈l:=by
 unfold L2.aW;rw[Zf,Zn];have h:y∈l↔y∈l.take i\/y∈l.drop i:=by rw[<-Zf,List.take_append_drop]
 rw[h];constructor
 ·rintro(h | h | h)
  ·exact .inr (.inl h)
  ·exact .inl h
  ·exact .inr (.inr h)
 ·rintro(h | h | h)
  ·exact .inr (.inl h)
  ·exact .inl h
  ·exact .inr (.inr h)
theorem fD{l:List Nat}(nd:l.Nodup){i x:Nat}(h:x∉l):(L2.aW l i x).Nodup:=by
 unfold L2.aW;have p:(l.take i++x::l.drop i).Perm (x::l):=by
  have q:=List.perm_middle (a:=x) (l₁:=l.take i) (l₂:=l.drop i);rw[List.take_append_drop]at q;exact q
 exact(p.nodup_iff).mpr (List.nodup_cons.mpr ⟨h,nd⟩)
theorem gY{α:Type}(l:List α)(i:Nat)(x:α):(L2.aW l i x).length=l.length+1:=by
 unfold L2.aW;rw[Zm,Yq,<-Nat.add_assoc,<-Zm,List.take_append_drop]
theorem kQ(l:List Nat)(i x:Nat):L2.aW (L2.vns l) i (L2.vn x)=L2.vns (L2.aW l i x):=by
 unfold L2.aW L2.vns;rw[Zt,ZI,List.map_take,List.map_drop]
end MM
namespace K32
open PySem L2 PyProof.Rows
def DR:Sp:=λvs H Q _=>∃(num:Int) (n:Nat),vs=[.int num,vn n]/\0<=num/\n<=400/\∀(r:Addr) (ps:List Nat),H r=none->ps.Nodup->(∀x∈ps,x<n)->ps.length=n->Q (.ref r) (upd H r (.lst (vns ps)))
theorem qR(T:Txt K mg t):Ok P w base T 77 1 DR:=by
 left
 obtain⟨num,n,rfl,h0,hn,q⟩:=h;refine(xWP _ (by exists 2,1,3,iE YO PySem.F.slot_list_insert PySem.F.type_list_insert gW ?_ ?_,2,0,aX,3,3,0,bE,0,aX,3,2) ?_);refine⟨(by show 0<=ZW;decide),λr hr0=>?_⟩
 let Pv1:Nat->L2.St->L2.Hp->Prop:=λi σ H'=>∃(num':Int) (ps:List Nat) (o:Option V),0<=num'/\σ=[some (.int num'),some (vn n),some (.ref r),o]/\H'=upd H r (.lst (vns ps))/\ps.Nodup/\(∀x∈ps,x<i)/\ps.length=i
 refine(dA n rfl (by lia) (by lia) (cZ (lo:=0) (n:=(n:Int).toNat) Pv1
  (kC num ([]) none h0 rfl rfl List.nodup_nil (λx hx=>by cases hx) rfl) ?_ ?_))
 ·rintro i σ H' hi ⟨num',ps,o,h0',rfl,rfl,hnd,hlt,hl⟩;have hi':i<400:=by lia
  have e1:num' % (0+(i:Int)+1)=(((num' % (0+(i:Int)+1)).toNat:Nat):Int):=by
   have:=Xw num' (show(0+(i:Int)+1)≠0 by lia)
   lia
  have e2:(num' % (0+(i:Int)+1)).toNat<=i:=by
   have:=Xx num' (show 0<(0+(i:Int)+1) by lia)
   lia
  refine(xT (.inl ⟨rfl,_,SqL.of aA⟩) (by show(0:Int)<0+(i:Int)+1;lia) _ ((num' % (0+(i:Int)+1)).toNat) (vn i) ?_ aA ?_ ?_ ?_)
  ·show[V.int (num' % (0+(i:Int)+1)),V.int (0+(i:Int))]=[V.int (((num' % (0+(i:Int)+1)).toNat:Nat):Int),V.int (i:Int)]
   rw[<-e1,Int.zero_add]
  ·rw[Zq];lia
  ·rw[Zq];exact Xq (by lia:ps.length<=1000) (by decide)
  refine⟨⟨by show(0:Int)<0+(i:Int)+1;lia,by show 0+(i:Int)+1<1073741824;lia⟩,?_⟩;refine(kC _ (aW ps (num' % (0+(i:Int)+1)).toNat i) _ ?_ rfl ?_ ?_ ?_ ?_)
  ·exact Int.ediv_nonneg h0' (by lia)
  ·rw[iB,MM.kQ]
  ·exact MM.fD hnd λz=>YY _ (hlt i z)
  ·intro x hx;rcases MM.gX.mp hx with rfl | hx
   ·lia
   ·have:=hlt x hx;lia
  ·rw[MM.gY,hl]
 ·rintro σ H' ⟨num',ps,o,h0',rfl,rfl,hnd,hlt,hl⟩;exact(q r ps hr0 hnd (λx hx=>by have:=hlt x hx;lia) (by lia))
end K32
namespace MM
theorem nS(pick:Int){n:Nat}(h:0<n):∃i:Nat,i<n/\pick%(n:Int)=(i:Int):=by
 have h1:=Xw pick (show(n:Int)≠0 by lia);have h2:=Xx pick (show 0<(n:Int) by lia);exact(xWP ((pick%(n:Int)).toNat) (by lia) (by lia))
theorem kL{ts:aV}{t:Nat×Nat}{e:Nat}(h:e<2*ts.length):place (ts++[t]) e=place ts e:=by
 unfold place;have:e / 2<ts.length:=by lia
 simp only[List.getD,Zx this]
theorem iD(ts:aV)(t:Nat×Nat):place (ts++[t]) (2*ts.length)=t.1:=by
 unfold place;rw[Yb (by lia),show 2*ts.length / 2=ts.length by lia];simp[List.getD]
theorem gP(ts:aV)(t:Nat×Nat):place (ts++[t]) (2*ts.length+1)=t.2:=by
 unfold place;rw[Ya (by lia),show(2*ts.length+1) / 2=ts.length by lia];simp[List.getD]
theorem Good.newPlace{ts:aV}{os:aR}(g:Good ts os){a i:Nat}(ha:a<os.length)(h3:(row os a).length<4) :
  Good (ts++[(a,os.length)]) ((os.set a (L2.aW (row os a) i (2*ts.length)))++[[2*ts.length+1]]):=by
 have nm:2*ts.length∉row os a:=λz=>by have:=(g.g.ends a _ z).1;lia
 have g1:=g.g.congr (pl':=place (ts++[(a,os.length)])) λe he=>kL he;have g2:=g1.add ha (iD ts _) (l:=L2.aW (row os a) i (2*ts.length)) (λx=>gX) (fD (g.g.nd a) nm) (by rw[gY];lia);have g3:=g2.new (by rw[ZP];exact gP ts _);refine⟨?_,by rw[Zm];simp⟩;rw[Zm];exact g3
theorem Good.newTie{ts:aV}{os:aR}(g:Good ts os){a b i j:Nat}(ha:a<os.length)(hb:b<os.length)(h1:(row os a).length<4)(h2:(row (os.set a (L2.aW (row os a) i (2*ts.length))) b).length<4) :
  Good (ts++[(a,b)]) ((os.set a (L2.aW (row os a) i (2*ts.length))).set b (L2.aW (row (os.set a (L2.aW (row os a) i (2*ts.length))) b) j (2*ts.length+1))):=by
 have nm:2*ts.length∉row os a:=λz=>by have:=(g.g.ends a _ z).1;lia
 have g1:=g.g.congr (pl':=place (ts++[(a,b)])) λe he=>kL he;have g2:=g1.add ha (iD ts _) (l:=L2.aW (row os a) i (2*ts.length)) (λx=>gX) (fD (g.g.nd a) nm) (by rw[gY];lia);have nm2:2*ts.length+1∉row (os.set a (L2.aW (row os a) i (2*ts.length))) b:=λz=>by have:=(g2.ends b _ z).1;lia
 have g3:=g2.add (a:=b) (by rw[ZP];exact hb) (gP ts _) (l:=L2.aW (row (os.set a (L2.aW (row os a) i (2*ts.length))) b) j (2*ts.length+1)) (λx=>gX) (fD (g2.nd b) nm2) (by rw[gY];lia);refine⟨?_,by rw[Zm];simp⟩;rw[Zm];exact g3
theorem wG{f:Nat->Nat}{N:Nat}(m:bX f N)(h:0<N):0<(aT f N).length:=by
 unfold aT;cases N with
 |zero=>lia
 |succ N =>
  have e:ZR (N+1)=0::(ZR N).map Nat.succ:=List.range_succ_eq_map;have hl:∀x∈ZR (N+1),x<N+1:=λx hx=>Zs.mp hx;rw[e]at hl ⊢;rw[jB m hl];simp
theorem oN{f:Nat->Nat}{N:Nat}(m:bX f N){d:List Nat}(h:d∈aT f N):0<d.length/\∀x∈d,x<N:=by
 obtain⟨e,he,rfl⟩:=lU m _ _ (ZC _) (λx hx=>Zs.mp hx) d h;have heN:=Zs.mp he;exact⟨(rB m heN).1,fJ m heN⟩
end MM
namespace L2
open PySem PyProof.Rows
theorem gM.other{H:Hp}{a x:Addr}{ts:MM.aV}{zs:List V}(h:gM H a ts)(hx:H x=some (.lst zs))(ne:x≠a)(o:HO):gM (upd H x o) a ts:=by
 obtain⟨tr,h1,h2,h3⟩:=h;refine(aQ tr (by rw[aE (Yh ne)];exact h1) h2 (λi t ht=>?_));obtain⟨r,q1,q2⟩:=h3 i t ht;exact(xWP r q1 (by rw[aE (bZ q2 hx (λz=>nomatch z))];exact q2))
theorem gM.push{H:Hp}{a r:Addr}{ts:MM.aV}{xs:List V}{t:Nat×Nat}(h:gM H a ts)(hx:H a=some (.lst xs))(hr:H r=some (.tup [vn t.1,vn t.2])):gM (upd H a (.lst (xs++[.ref r]))) a (ts++[t]):=by
 obtain⟨tr,h1,h2,h3⟩:=h;have ex:xs=tr.map V.ref:=by rw[hx]at h1;cases h1;rfl
 subst ex;refine(aQ (tr++[r]) (by rw[aA,Zt];rfl) (by rw[Zm,Zm,h2];rfl) (λi u hu=>?_));rcases Xk i ts.length with q | q
 ·rw[Zx q]at hu;obtain⟨y,q1,q2⟩:=h3 i u hu;exact(xWP y (by rw[Zx (by rw[h2];exact q)];exact q1) (by rw[aE (bZ q2 hx (λz=>nomatch z))];exact q2))
 ·have hi:i=ts.length:=by
   obtain⟨z,_⟩:=Zj.mp hu;rw[Zm]at z;simp at z
   lia
  subst hi;rw[Yx]at hu;cases hu;exact(xWP r (by rw[<-h2,Yx]) (by rw[aE (bZ hr hx (λz=>nomatch z))];exact hr))
theorem cD.set{H0 H:Hp}{o x:Addr}{rr:List Addr}{os:MM.aR}(n:cD H0 H o rr os){p:Nat}{l:List Nat}(hx:rr[p]?=some x):cD H0 (upd H x (.lst (vns l))) o rr (os.set p l) where
 at_:=by rw[aE (show o≠x from λz=>n.nin (z▸Zg hx))];exact n.at_
 len:=by rw[ZP];exact n.len
 row:=λi m h=>by
  by_cases e:p=i
  ·subst e;have hp:p<os.length:=by rw[<-n.len];exact(Zj.mp hx).1
   rw[ZK hp]at h;cases h;exact(xWP x hx aA)
  ·rw[ZJ e]at h;obtain⟨y,h1,h2⟩:=n.row i m h;refine(xWP y h1 ?_);have ne:y≠x:=by
    rintro rfl;obtain⟨a1,b1⟩:=Zj.mp h1;obtain⟨a2,b2⟩:=Zj.mp hx;exact e ((List.getElem_inj n.nd).mp (b2.trans b1.symm))
   rw[aE ne];exact h2
 nd:=n.nd
 nin:=n.nin
 new:=n.new
 news:=n.news
theorem cD.item{H0 H:Hp}{o:Addr}{rr:List Addr}{os:MM.aR}(n:cD H0 H o rr os){p:Nat}(hp:p<os.length):∃x,rr[p]?=some x/\x∈rr/\H x=some (.lst (vns (MM.row os p)))/\atI (rr.map V.ref) (p:Int)=some (.ref x):=by
 obtain⟨x,h1,h2⟩:=n.row p os[p] (Zz hp);refine(dA x h1 (Zg h1) ?_ (bM (by rw[Zk,h1];rfl)));unfold MM.row;simp only[List.getD,Zz hp,YR];exact h2
structure nB(H0 H:Hp)(a o:Addr)(rr:List Addr)(ts:MM.aV)(os:MM.aR):Prop where
 ts:gM H a ts
 os:cD H0 H o rr os
 an:H0 a=none
 ao:a≠o
 ar:a∉rr
theorem nB.keep{H0 H H':Hp}{a o:Addr}{rr:List Addr}{ts:MM.aV}{os:MM.aR}(m:nB H0 H a o rr ts os)(g:aJ H H'):nB H0 H' a o rr ts os:=⟨g.ts m.ts,m.os.keep λb u _ h=>g _ _ h,m.an,m.ao,m.ar⟩
end L2
namespace MM
structure oW(f:Nat->Nat)(l R:List Nat):Prop where
 nd:R.Nodup
 of:∀r∈R,r∈l
 all:∀x∈l,∃r∈R,x∈aL f r
 sep:∀r∈R,∀r'∈R,r'∈aL f r->r=r'
theorem vK(f:Nat->Nat):∃R,oW f [] R/\R.length=(lf f []).length:=by
 refine(xWP ([]) ⟨List.nodup_nil,?_,?_,?_⟩ rfl)<;>· intro r h;cases h
theorem uJ{f:Nat->Nat}{N:Nat}(m:bX f N):∀(n:Nat) (l:List Nat),l.length<=n->(∀x∈l,x<N)->∃R,oW f l R/\R.length=(lf f l).length
 |0,l,h,_=>by
  have e:l=[]:=Yd.mp (by lia);subst e;exact vK f
 |n+1,[],_,_=>vK f
 |n+1,e::r,h,hl=>by
  have he:=hl e Zd;have s:=cS m he r;simp only[Yq]at h;obtain⟨R,q,ql⟩:=uJ m n ((e::r).filter λx=>decide (x∉aL f e)) (by lia) (λx hx=>hl x (Yz.mp hx).1);have out:∀x∈R,x∈e::r/\x∉aL f e:=λx hx=>by
   have:=Yz.mp (q.of x hx);exact⟨this.1,by simpa using this.2⟩
  refine(xWP (e::R) ⟨?_,?_,?_,?_⟩ (by rw[jB m hl,Yq,Yq,ql]))
  ·exact List.nodup_cons.mpr ⟨λz=>(out e z).2 (dQ m he),q.nd⟩
  ·intro x hx;rcases Zn.mp hx with rfl | hx
   ·exact Zd
   ·exact(out x hx).1
  ·intro x hx;by_cases z:x∈aL f e
   ·exact(xWP e Zd z)
   ·obtain⟨y,y1,y2⟩:=q.all x (Yz.mpr ⟨hx,by simpa using z⟩);exact(xWP y (Zw _ y1) y2)
  ·intro x hx y hy z;rcases Zn.mp hx with h1 | h1<;>rcases Zn.mp hy with h2 | h2
   ·rw[h1,h2]
   ·rw[h1]at z;exact Yg z (out y h2).2
   ·rw[h2]at z;exact Yg (fT m (hl x (out x h1).1) z) (out x h1).2
   ·exact q.sep x h1 y h2 z
theorem AF{f:Nat->Nat}{N:Nat}(m:bX f N){R S:List Nat}(a:oW f (ZR N) R)(b:oW f (ZR N) S):R.length<=S.length:=by
 have lt:∀r∈R,r<N:=λr h=>Zs.mp (a.of r h);have hg:∀r:Nat,∃s,r∈R->s∈S/\r∈aL f s:=λr=>by
  by_cases h:r∈R
  ·obtain⟨s,h1,h2⟩:=b.all r (a.of r h);exact⟨s,λ_=>⟨h1,h2⟩⟩
  ·exact⟨0,λz=>Yg z h⟩
 obtain⟨g,hg⟩:=Classical.axiomOfChoice hg;have nd:(R.map λr=>S.idxOf (g r)).Nodup:=by
  refine List.Pairwise.map (R:=λx y=>x∈R/\y∈R/\x≠y) _ ?_ ?_
  ·rintro x y ⟨hx,hy,hne⟩ z;have e:g x=g y:=by
    have h1:=List.getElem_idxOf (List.idxOf_lt_length_iff.mpr (hg x hx).1);have h2:=List.getElem_idxOf (List.idxOf_lt_length_iff.mpr (hg y hy).1);rw[<-h1,<-h2];congr 1
   have hs:=Zs.mp (b.of _ (hg x hx).1);have h3:=(hg y hy).2;rw[<-e]at h3;exact hne (a.sep x hx y hy (eG m (lt x hx) (fT m hs (hg x hx).2) h3))
  ·have:=a.nd;rw[List.nodup_iff_pairwise_ne]at this;exact List.Pairwise.imp_of_mem (λhx hy h=>(xPP hx hy h)) this
 have:=f6 S.length _ nd (λx hx=>by
  obtain⟨r,hr,rfl⟩:=Zh.mp hx;exact List.idxOf_lt_length_iff.mpr (hg r hr).1)
 rwa [Zq]at this
theorem gF{f:Nat->Nat}{N:Nat}(m:bX f N){R:List Nat}(a:oW f (ZR N) R):(aT f N).length=R.length:=by
 obtain⟨S,b,l⟩:=uJ m _ (ZR N) (ZC _) (λx hx=>Zs.mp hx);have h1:=AF m a b;have h2:=AF m b a;show(lf f (ZR N)).length=_
 lia
theorem tX{f:Nat->Nat}{N:Nat}(m:bX f N):∃R,oW f (ZR N) R/\R.length=(aT f N).length:=uJ m _ (ZR N) (ZC _) (λx hx=>Zs.mp hx)
theorem rW{f g:Nat->Nat}{N:Nat}(m:bX f N)(k:bX g N){φ:Nat->Nat}(hφ:bX φ N)(h:∀x,x<N->g (φ x)=φ (f x)):(aT g N).length=(aT f N).length:=by
 obtain⟨R,q,l⟩:=tX m;have it:∀n x,x<N->iter g n (φ x)=φ (iter f n x):=by
  intro n;induction n with
  |zero=>intro x _;rfl
  |succ n ih=>intro x hx;show g (iter g n (φ x))=φ (f (iter f n x));rw[ih x hx,h _ (cF m hx n)]
 have sur:∀y,y<N->∃x,x<N/\φ x=y:=λy hy=>by
  obtain⟨n,h0,_,hn⟩:=iH hφ hy;refine(xWP (iter φ (n-1) y) (cF hφ hy _) ?_);have e:n=(n-1)+1:=by lia
  rw[e]at hn;exact hn
 have lt:∀r∈R,r<N:=λr h=>Zs.mp (q.of r h);have a:oW g (ZR N) (R.map φ):=by
  refine⟨?_,?_,?_,?_⟩
  ·refine List.Pairwise.map (R:=λx y=>x∈R/\y∈R/\x≠y) _ ?_ ?_
   ·rintro x y ⟨hx,hy,hne⟩ z;exact hne (hφ.inj _ _ (lt x hx) (lt y hy) z)
   ·have:=q.nd;rw[List.nodup_iff_pairwise_ne]at this;exact List.Pairwise.imp_of_mem (λhx hy h=>(xPP hx hy h)) this
  ·intro r hr;obtain⟨x,hx,rfl⟩:=Zh.mp hr;exact Zs.mpr (hφ.lt _ (lt x hx))
  ·intro y hy;obtain⟨x,hx,rfl⟩:=sur y (Zs.mp hy);obtain⟨r,r1,r2⟩:=q.all x (Zs.mpr hx);obtain⟨n,rfl⟩:=(bG m (lt r r1)).mp r2;exact(xWP (φ r) (Zh.mpr (xWP r r1 rfl)) ((bG k (hφ.lt _ (lt r r1))).mpr ⟨n,it n r (lt r r1)⟩))
  ·intro r hr r' hr' z;obtain⟨x,hx,rfl⟩:=Zh.mp hr;obtain⟨y,hy,rfl⟩:=Zh.mp hr';obtain⟨n,hn⟩:=(bG k (hφ.lt _ (lt x hx))).mp z;rw[it n x (lt x hx)]at hn;have e:=hφ.inj _ _ (cF m (lt x hx) n) (lt y hy) hn;rw[q.sep x hx y hy ((bG m (lt x hx)).mpr ⟨n,e⟩)]
 rw[gF k a,Zq,l]
theorem uN{f:Nat->Nat}{N:Nat}(m:bX f N){S:Nat->Prop}(h:∀x,x<N->S x->S (f x)){x:Nat}(hx:x<N)(sx:S x):∀y∈aL f x,S y:=by
 intro y hy;obtain⟨n,rfl⟩:=(bG m hx).mp hy;clear hy;induction n with
 |zero=>exact sx
 |succ n ih=>exact h _ (cF m hx n) ih
theorem rF{f g:Nat->Nat}{x:Nat}:∀n,(∀i,i<n->g (iter f i x)=f (iter f i x))->iter g n x=iter f n x
 |0,_=>rfl
 |n+1,h=>by show g (iter g n x)=f (iter f n x);rw[rF n (λi hi=>h i (by lia)),h n (by lia)]
theorem qC{f:Nat->Nat}{N:Nat}(m:bX f N){e k:Nat}(he:e<N)(r:lF f e k){i j:Nat}(hi:i<k)(hj:j<k)(h:iter f i e=iter f j e):i=j:=by
 rcases Nat.lt_trichotomy i j with q | q | q
 ·have e1:iter f i e=iter f i (iter f (j-i) e):=by rw[<-gC,Nat.sub_add_cancel (YX q)];exact h
  exact Yg (mT m he (cF m he _) i e1).symm (r.2.2 (j-i) (by lia) (by lia))
 ·exact q
 ·have e1:iter f j e=iter f j (iter f (i-j) e):=by rw[<-gC,Nat.sub_add_cancel (YX q)];exact h.symm
  exact Yg (mT m he (cF m he _) j e1).symm (r.2.2 (i-j) (by lia) (by lia))
theorem sM{f:Nat->Nat}{N:Nat}(m:bX f N){R:List Nat}(q:oW f (ZR N) R){u:Nat}(hu:u<N):∃S:List Nat,S.length+1=R.length/\S.Nodup/\(∀s∈S,s<N/\s∉aL f u)/\(∀x,x<N->x∉aL f u->∃s∈S,x∈aL f s)/\(∀r∈S,∀r'∈S,r'∈aL f r->r=r'):=by
 obtain⟨r0,h1,h2⟩:=q.all u (Zs.mpr hu);have lt:∀r∈R,r<N:=λr h=>Zs.mp (q.of r h);have h0:0<R.length:=List.length_pos_of_mem h1;refine(iJ (R.erase r0) ?_ (q.nd.erase _) ?_ ?_ ?_)
 ·rw[List.length_erase_of_mem h1];lia
 ·intro s hs;have:=(q.nd.mem_erase_iff).mp hs;refine⟨lt s this.2,λz=>this.1 ?_⟩;exact(q.sep r0 h1 s this.2 (eG m (lt r0 h1) h2 z)).symm
 ·intro x hx z;obtain⟨s,s1,s2⟩:=q.all x (Zs.mpr hx);refine(xWP s ((q.nd.mem_erase_iff).mpr ⟨λe=>z ?_,s1⟩) s2);rw[e]at s2;exact eG m hu (fT m (lt r0 h1) h2) s2
 ·intro r hr r' hr' z;exact q.sep r (List.mem_of_mem_erase hr) r' (List.mem_of_mem_erase hr') z
theorem fU{f g:Nat->Nat}{N M:Nat}(m:bX f N)(k:bX g M)(hNM:N<=M){u:Nat}(hu:u<N)(same:∀x,x<N->x∉aL f u->g x=f x){s:Nat}(hs:s<N)(hsu:s∉aL f u)(y:Nat):y∈aL g s↔y∈aL f s:=by
 have off:∀i,iter f i s∉aL f u:=λi z=>hsu (eG m hu z (fT m hs ((bG m hs).mpr ⟨i,rfl⟩)));have it:∀n,iter g n s=iter f n s:=λn=>rF n λi _=>same _ (cF m hs i) (off i);rw[bG k (by lia),bG m hs];exact⟨λ⟨n,h⟩=>⟨n,by rw[<-it];exact h⟩,λ⟨n,h⟩=>⟨n,by rw[it];exact h⟩⟩
structure Put(f g:Nat->Nat)(N u j:Nat):Prop where
 j0:0<j
 jk:j<=per f u
 same:∀x,x<N->x≠u->x≠iter f j u->g x=f x
 v:g (iter f j u)=N+1
 n1:g (N+1)=f u
 n0:j<per f u->g N=f (iter f j u)/\g u=N
 n0':j=per f u->g N=N
theorem IC{f g:Nat->Nat}{N u j:Nat}(m:bX f N)(k:bX g (N+2))(hu:u<N)(p:Put f g N u j):(aT g (N+2)).length=(aT f N).length+1:=by
 obtain⟨R,q,ql⟩:=tX m;obtain⟨S,l,nd,out,all,sep⟩:=sM m q hu;obtain⟨r,hk⟩:=cY m hu;generalize hP:per f u=P at r hk p;have j0:=p.j0;have jk:j<=P:=by have:=p.jk;lia
 have off:∀x,x<N->x∉aL f u->x≠u/\x≠iter f j u:=λx hx z=>⟨λe=>z (by rw[e];exact dQ m hu),λe=>z (by rw[e];exact(bG m hu).mpr ⟨j,rfl⟩)⟩
 have same:∀x,x<N->x∉aL f u->g x=f x:=λx hx z=>p.same x hx (off x hx z).1 (off x hx z).2;have inO:∀x,x∈aL f u->∃i,0<i/\i<=P/\iter f i u=x:=λx hx=>by
  unfold aL at hx;rw[hP]at hx;obtain⟨i,h1,h2⟩:=iU.mp hx;rcases Nat.eq_zero_or_pos i with z | z
  ·subst z;exact(aQ P r.1 (ZC _) (r.2.1.trans h2))
  ·exact(aQ i z (by lia) h2)
 have A:∀i,0<i->i<=j->iter g i (N+1)=iter f i u:=by
  intro i h0;induction i with
  |zero=>lia
  |succ i ih =>
   intro h1;rcases Nat.eq_zero_or_pos i with z | z
   ·subst z;exact p.n1
   ·show g (iter g i (N+1))=f (iter f i u);rw[ih z (by lia)];refine p.same _ (cF m hu i) (λe=>?_) (λe=>?_)
    ·exact r.2.2 i z (by lia) e
    ·rcases Xk j P with c | c
     ·have:=qC m hu r (by lia) c e;lia
     ·have:j=P:=by lia
      rw[this,r.2.1]at e;exact r.2.2 i z (by lia) e
 have B:j<P->∀i,0<i->i<=P-j->iter g i N=iter f (j+i) u:=by
  intro hj i h0;induction i with
  |zero=>lia
  |succ i ih =>
   intro h1;rcases Nat.eq_zero_or_pos i with z | z
   ·subst z;exact(p.n0 (by lia)).1
   ·show g (iter g i N)=f (iter f (j+i) u);rw[ih z (by lia)];refine p.same _ (cF m hu _) (λe=>?_) (λe=>?_)
    ·exact r.2.2 (j+i) (by lia) (by lia) e
    ·have:=qC m hu r (by lia) hj e;lia
 have a:oW g (ZR (N+2)) (S++[N,N+1]):=by
  have cA:∀y∈aL g (N+1),y=N+1\/∃i,0<i/\i<=j/\iter f i u=y:=uN k (S:=λy=>y=N+1\/∃i,0<i/\i<=j/\iter f i u=y) (λx hx h=>by
   rcases h with rfl | ⟨i,h0,h1,rfl⟩
   ·exact .inr (aQ 1 (by lia) j0 p.n1.symm)
   ·rcases Xk i j with c | c
    ·refine .inr (aQ (i+1) (by lia) c ?_);have e1:=A i h0 h1;have e2:=A (i+1) (by lia) c;rw[<-e2,<-e1];rfl
    ·have e:i=j:=by lia
     rw[e];exact .inl p.v) (by lia) (.inl rfl)
  have cB:∀y∈aL g N,y=N\/∃i,j<i/\i<=P/\iter f i u=y:=uN k (S:=λy=>y=N\/∃i,j<i/\i<=P/\iter f i u=y) (λx hx h=>by
   rcases Xk j P with c | c
   ·rcases h with rfl | ⟨i,h0,h1,rfl⟩
    ·exact .inr (aQ (j+1) (by lia) c ((p.n0 (by lia)).1.symm))
    ·rcases Xk i P with d | d
     ·refine .inr (aQ (i+1) (by lia) d ?_);have e1:=B c (i-j) (by lia) (by lia);have e2:=B c (i-j+1) (by lia) (by lia);rw[show j+(i-j)=i by lia]at e1;rw[show j+(i-j+1)=i+1 by lia]at e2;rw[<-e2,<-e1];rfl
     ·have e:i=P:=by lia
      rw[e,r.2.1];exact .inl (p.n0 (by lia)).2
   ·rcases h with rfl | ⟨i,h0,h1,rfl⟩
    ·exact .inl (p.n0' (by lia))
    ·lia) (by lia) (.inl rfl)
  refine⟨?_,?_,?_,?_⟩
  ·rw[List.nodup_append];refine(xPP nd (by simp) (λx hx y hy e=>?_));have:=(out x hx).1;simp only[Zn,ZL,or_false]at hy
   lia
  ·intro x hx;rw[Zs];rcases Zf.mp hx with h | h
   ·have:=(out x h).1;lia
   ·simp only[Zn,ZL,or_false]at h;lia
  ·intro x hx;have hx:=Zs.mp hx;rcases Xk x N with c | c
   ·by_cases z:x∈aL f u
    ·obtain⟨i,h0,h1,rfl⟩:=inO x z;rcases Xk j i with d | d
     ·refine(xWP N (by simp) ((bG k (by lia)).mpr ⟨i-j,?_⟩));rw[B (by lia) (i-j) (by lia) (by lia),show j+(i-j)=i by lia]
     ·exact(xWP (N+1) (by simp) ((bG k (by lia)).mpr ⟨i,A i h0 d⟩))
    ·obtain⟨s,s1,s2⟩:=all x c z;exact(xWP s (ZO _ s1) ((fU m k (by lia) hu same (out s s1).1 (out s s1).2 x).mpr s2))
   ·rcases Xk N x with d | d
    ·have e:x=N+1:=by lia
     subst e;exact(xWP (N+1) (by simp) (dQ k (by lia)))
    ·have e:x=N:=by lia
     subst e;exact(xWP x (by simp) (dQ k (by lia)))
  ·intro x hx y hy z;have hin:∀i,iter f i u∈aL f u:=λi=>(bG m hu).mpr ⟨i,rfl⟩;have hlt:∀i,iter f i u<N:=λi=>cF m hu i;rcases Zf.mp hx with h1 | h1<;>rcases Zf.mp hy with h2 | h2
   ·exact sep x h1 y h2 ((fU m k (by lia) hu same (out x h1).1 (out x h1).2 y).mp z)
   ·have:=fJ m (out x h1).1 y ((fU m k (by lia) hu same (out x h1).1 (out x h1).2 y).mp z);simp only[Zn,ZL,or_false]at h2
    lia
   ·have hy1:=(out y h2).1;simp only[Zn,ZL,or_false]at h1;rcases h1 with rfl | rfl
    ·rcases cB y z with e | ⟨i,_,_,e⟩
     ·lia
     ·exact Yg (e▸hin i) (out y h2).2
    ·rcases cA y z with e | ⟨i,_,_,e⟩
     ·lia
     ·exact Yg (e▸hin i) (out y h2).2
   ·simp only[Zn,ZL,or_false]at h1 h2;rcases h1 with rfl | rfl<;>rcases h2 with rfl | rfl
    ·rfl
    ·rcases cB _ z with e | ⟨i,_,_,e⟩
     ·lia
     ·have:=hlt i;lia
    ·rcases cA _ z with e | ⟨i,_,_,e⟩
     ·lia
     ·have:=hlt i;lia
    ·rfl
 rw[gF k a,Zm,<-ql];show S.length+2=_
 lia
structure O9(f g:Nat->Nat)(N u:Nat):Prop where
 same:∀x,x<N->x≠u->g x=f x
 at_:g u=N
 n:g N=N+1
 n1:g (N+1)=f u
theorem B0{f g:Nat->Nat}{N u:Nat}(m:bX f N)(k:bX g (N+2))(hu:u<N)(p:O9 f g N u):(aT g (N+2)).length=(aT f N).length:=by
 obtain⟨R,q,ql⟩:=tX m;obtain⟨S,l,nd,out,all,sep⟩:=sM m q hu;obtain⟨r,hk⟩:=cY m hu;generalize hP:per f u=P at r hk;have off:∀x,x<N->x∉aL f u->x≠u:=λx hx z e=>z (by rw[e];exact dQ m hu);have same:∀x,x<N->x∉aL f u->g x=f x:=λx hx z=>p.same x hx (off x hx z);have inO:∀x,x∈aL f u->∃i,0<i/\i<=P/\iter f i u=x:=λx hx=>by
  unfold aL at hx;rw[hP]at hx;obtain⟨i,h1,h2⟩:=iU.mp hx;rcases Nat.eq_zero_or_pos i with z | z
  ·subst z;exact(aQ P r.1 (ZC _) (r.2.1.trans h2))
  ·exact(aQ i z (by lia) h2)
 have A:∀i,0<i->i<=P->iter g (i+1) N=iter f i u:=by
  intro i h0;induction i with
  |zero=>lia
  |succ i ih =>
   intro h1;rcases Nat.eq_zero_or_pos i with z | z
   ·subst z;show g (g N)=f u;rw[p.n,p.n1]
   ·show g (iter g (i+1) N)=f (iter f i u);rw[ih z (by lia)];exact p.same _ (cF m hu i) (λe=>r.2.2 i z (by lia) e)
 have a:oW g (ZR (N+2)) (S++[N]):=by
  have cA:∀y∈aL g N,y=N\/y=N+1\/∃i,0<i/\i<=P/\iter f i u=y:=uN k (S:=λy=>y=N\/y=N+1\/∃i,0<i/\i<=P/\iter f i u=y) (λx hx h=>by
   rcases h with rfl | rfl | ⟨i,h0,h1,rfl⟩
   ·exact .inr (.inl p.n)
   ·exact .inr (.inr (aQ 1 (by lia) r.1 p.n1.symm))
   ·rcases Xk i P with c | c
    ·refine .inr (.inr (aQ (i+1) (by lia) c ?_));have e1:=A i h0 h1;have e2:=A (i+1) (by lia) c;rw[<-e2,<-e1];rfl
    ·have e:i=P:=by lia
     rw[e,r.2.1];exact .inl p.at_) (by lia) (.inl rfl)
  refine⟨?_,?_,?_,?_⟩
  ·rw[List.nodup_append];refine(xPP nd (by simp) (λx hx y hy e=>?_));have:=(out x hx).1;simp only[Zn,ZL,or_false]at hy
   lia
  ·intro x hx;rw[Zs];rcases Zf.mp hx with h | h
   ·have:=(out x h).1;lia
   ·simp only[Zn,ZL,or_false]at h;lia
  ·intro x hx;have hx:=Zs.mp hx;rcases Xk x N with c | c
   ·by_cases z:x∈aL f u
    ·obtain⟨i,h0,h1,rfl⟩:=inO x z;exact(xWP N (by simp) ((bG k (by lia)).mpr ⟨i+1,A i h0 h1⟩))
    ·obtain⟨s,s1,s2⟩:=all x c z;exact(xWP s (ZO _ s1) ((fU m k (by lia) hu same (out s s1).1 (out s s1).2 x).mpr s2))
   ·rcases Xk N x with d | d
    ·have e:x=N+1:=by lia
     subst e;exact(xWP N (by simp) ((bG k (by lia)).mpr ⟨1,p.n⟩))
    ·have e:x=N:=by lia
     subst e;exact(xWP x (by simp) (dQ k (by lia)))
  ·intro x hx y hy z;have hin:∀i,iter f i u∈aL f u:=λi=>(bG m hu).mpr ⟨i,rfl⟩;rcases Zf.mp hx with h1 | h1<;>rcases Zf.mp hy with h2 | h2
   ·exact sep x h1 y h2 ((fU m k (by lia) hu same (out x h1).1 (out x h1).2 y).mp z)
   ·have:=fJ m (out x h1).1 y ((fU m k (by lia) hu same (out x h1).1 (out x h1).2 y).mp z);simp only[Zn,ZL,or_false]at h2
    lia
   ·have hy1:=(out y h2).1;simp only[Zn,ZL,or_false]at h1;subst h1;rcases cA y z with e | e | ⟨i,_,_,e⟩
    ·lia
    ·lia
    ·exact Yg (e▸hin i) (out y h2).2
   ·simp only[Zn,ZL,or_false]at h1 h2
    lia
 rw[gF k a,Zm,<-ql];show S.length+1=_
 lia
def Cn(f:Nat->Nat)(N:Nat):Prop:=∀S:Nat->Prop,(∀x,x<N->S x->S (f x))->(∀x,x<N->S x->S (oth x))->∀x y,x<N->y<N->S x->S y
def jF(ts:aV)(os:aR):Prop:=Cn (behind ts os) (2*ts.length)
theorem ME(n:Nat):oth (2*n)=2*n+1:=by unfold oth;rw[Yb (by lia)]
theorem OI(n:Nat):oth (2*n+1)=2*n:=by unfold oth;rw[Ya (by lia)];lia
theorem A9{f g:Nat->Nat}{T:Nat}(c:Cn f (2*T))(h:∀S:Nat->Prop,(∀x,x<2*T+2->S x->S (g x))->(∀x,x<2*T+2->S x->S (oth x))->(∀x,x<2*T->S x->S (f x))/\(S (2*T+1)->∃z,z<2*T/\S z)/\((∀y,y<2*T->S y)->S (2*T+1))):Cn g (2*T+2):=by
 intro S h1 h2 x y hx hy sx;obtain⟨a,b,d⟩:=h S h1 h2;have up:S (2*T)->S (2*T+1):=λs=>by have:=h2 _ (by lia) s;rwa [ME]at this
 have dn:S (2*T+1)->S (2*T):=λs=>by have:=h2 _ (by lia) s;rwa [OI]at this
 have old:∃z,z<2*T/\S z:=by
  rcases Xk x (2*T) with h | h
  ·exact(xWP x h sx)
  ·have:x=2*T\/x=2*T+1:=by lia
   rcases this with rfl | rfl
   ·exact b (up sx)
   ·exact b sx
 obtain⟨z,hz,sz⟩:=old;have all:∀y,y<2*T->S y:=λy hy=>c S a (λx hx s=>h2 x (by lia) s) z y hz hy sz;have s1:=d all;rcases Xk y (2*T) with h | h
 ·exact all y h
 ·have:y=2*T\/y=2*T+1:=by lia
  rcases this with rfl | rfl
  ·exact dn s1
  ·exact s1
theorem CP{f g:Nat->Nat}{T u:Nat}(m:bX f (2*T))(k:bX g (2*T+2))(hu:u<2*T)(p:O9 f g (2*T) u):(aT g (2*T+2)).length=(aT f (2*T)).length/\(Cn f (2*T)->Cn g (2*T+2)):=by
 refine⟨B0 m k hu p,λc=>A9 c λS h1 h2=>?_⟩;have up:S (2*T)->S (2*T+1):=λs=>by have:=h2 _ (by lia) s;rwa [ME]at this
 have s1:S (2*T+1)->S (f u):=λs=>by have:=h1 _ (by lia) s;rwa [p.n1]at this
 have su:S u->S (2*T):=λs=>by have:=h1 u (by lia) s;rwa [p.at_]at this
 refine(xPP (λx hx s=>?_) (λs=>(xWP (f u) (m.lt u hu) (s1 s))) (λall=>up (su (all u hu))));by_cases q:x=u
 ·subst q;exact s1 (up (su s))
 ·rw[<-p.same x hx q];exact h1 x (by lia) s
theorem vL{f g:Nat->Nat}{T u j:Nat}(m:bX f (2*T))(k:bX g (2*T+2))(hu:u<2*T)(p:Put f g (2*T) u j):(aT g (2*T+2)).length=(aT f (2*T)).length+1/\(Cn f (2*T)->Cn g (2*T+2)):=by
 refine⟨IC m k hu p,λc=>A9 c λS h1 h2=>?_⟩;have hv:iter f j u<2*T:=cF m hu j;have up:S (2*T)->S (2*T+1):=λs=>by have:=h2 _ (by lia) s;rwa [ME]at this
 have dn:S (2*T+1)->S (2*T):=λs=>by have:=h2 _ (by lia) s;rwa [OI]at this
 have s1:S (2*T+1)->S (f u):=λs=>by have:=h1 _ (by lia) s;rwa [p.n1]at this
 have sv:S (iter f j u)->S (2*T+1):=λs=>by have:=h1 _ (by lia) s;rwa [p.v]at this
 have jk:=p.jk;refine(xPP (λx hx s=>?_) (λs=>(xWP (f u) (m.lt u hu) (s1 s))) (λall=>sv (all _ hv)));by_cases q2:x=iter f j u
 ·rcases Xk j (per f u) with z | z
  ·have:=h1 _ (by lia) (dn (sv (q2▸s)));rw[(p.n0 z).1]at this;rw[q2];exact this
  ·have e:j=per f u:=by lia
   have e2:iter f j u=u:=by rw[e];exact(cY m hu).1.2.1
   rw[q2,e2];exact s1 (sv (q2▸s))
 ·by_cases q:x=u
  ·subst q;rcases Xk j (per f x) with z | z
   ·have:=h1 x (by lia) s;rw[(p.n0 z).2]at this;exact s1 (up this)
   ·have e:j=per f x:=by lia
    exact Yg (by rw[e];exact(cY m hu).1.2.1.symm) q2
  ·rw[<-p.same x hx q q2];exact h1 x (by lia) s
theorem EH{f g:Nat->Nat}{N:Nat}(m:bX f N)(k:bX g N){φ:Nat->Nat}(hφ:bX φ N)(ho:∀x,oth (φ x)=φ (oth x))(h:∀x,x<N->g (φ x)=φ (f x)):(aT g N).length=(aT f N).length/\(Cn f N->Cn g N):=by
 refine⟨rW m k hφ h,λc S h1 h2 x y hx hy sx=>?_⟩;have sj:∀{y:Nat},y<N->∃x,x<N/\φ x=y:=λ{y} hy=>by
  obtain⟨k,h0,_,h⟩:=iH hφ hy;refine(xWP (iter φ (k-1) y) (cF hφ hy _) ?_);have e:k=(k-1)+1:=by lia
  have:iter φ (k-1+1) y=y:=by rw[<-e];exact h
  exact this
 obtain⟨x',hx',rfl⟩:=sj hx;obtain⟨y',hy',rfl⟩:=sj hy;exact c (λz=>S (φ z)) (λz hz s=>by rw[<-h z hz];exact h1 _ (hφ.lt z hz) s) (λz hz s=>by rw[<-ho z];exact h2 _ (hφ.lt z hz) s) x' y' hx' hy' sx
theorem cX{l:List Nat}(nd:l.Nodup){k y:Nat}(h:l[k]?=some y):bW l y=l.getD (if k=0 then l.length-1 else k-1) 0:=by
 obtain⟨hk,e⟩:=Zj.mp h;have hm:y∈l:=Zg h;have h1:=ZM hm;have e2:l[l.idxOf y]=l[k]:=(List.getElem_idxOf h1).trans e.symm;have e3:l.idxOf y=k:=(List.getElem_inj nd).mp e2;unfold bW;rw[e3];congr 1;split
 ·rename_i z;subst z;rw[Nat.zero_add];exact Nat.mod_eq_of_lt (by omega)
 ·have:k+l.length-1=(k-1)+l.length:=by lia
  rw[this,Nat.add_mod_right];exact Nat.mod_eq_of_lt (by omega)
theorem mV{l:List Nat}{i M:Nat}(hi:i<=l.length)(k:Nat):(L2.aW l i M)[k]?=if k<i then l[k]? else if k=i then some M else l[k-1]?:=by
 unfold L2.aW;have hl:(l.take i).length=i:=by rw[Yw];lia
 split
 ·rename_i h
  rw[Zx (by lia),List.getElem?_take_of_lt h]
 ·rename_i h
  rw[Zy (by lia),hl];split
  ·rename_i z;subst z;simp
  ·rename_i z
   rw[show k-i=(k-i-1)+1 by lia,List.getElem?_cons_succ,List.getElem?_drop];congr 1
   lia
theorem ER{l:List Nat}(nd:l.Nodup){x M:Nat}(hx:x∈l)(hM:M∉l) :
  bW (L2.aW l (l.idxOf x) M) M=bW l x/\∀y∈l,bW (L2.aW l (l.idxOf x) M) y=if y=x then M else bW l y:=by
 have h1:=ZM hx;have gx:l[l.idxOf x]?=some x:=by rw[Zz h1,List.getElem_idxOf h1]
 generalize l.idxOf x=i at h1 gx;have nd':=fD nd (i:=i) hM;have len:=gY l i M;have G:=mV (l:=l) (i:=i) (M:=M) (by lia);constructor
 ·rw[cX nd' (k:=i) (y:=M) (by rw[G,Ya (by lia),Yb rfl]),cX nd gx,len];rw[Zv,Zv,G];by_cases z:i=0
  ·rw[Yb z,Yb z,Ya (by lia),Ya (by lia)];rfl
  ·rw[Ya z,Ya z,Yb (by lia)]
 ·intro y hy;obtain⟨k,hk,ek⟩:=Yy.mp hy;have gy:l[k]?=some y:=by rw[Zz hk,ek]
  by_cases hyx:y=x
  ·rw[Yb hyx,hyx,cX nd' (k:=i+1) (y:=x) (by rw[G,Ya (by lia),Ya (by lia)];exact gx),Ya (by lia),Zv,G,Ya (by lia),Yb (by lia)];rfl
  ·have hki:k≠i:=λz=>by subst z;rw[gx]at gy;cases gy;exact hyx rfl
   rw[Ya hyx,cX nd gy];rcases Xk k i with c | c
   ·rw[cX nd' (k:=k) (y:=y) (by rw[G,Yb c];exact gy),len,Zv,Zv,G];by_cases z:k=0
    ·rw[Yb z,Yb z,Ya (by lia),Ya (by lia)];rfl
    ·rw[Ya z,Ya z,Yb (by omega)]
   ·rw[cX nd' (k:=k+1) (y:=y) (by rw[G,Ya (by lia),Ya (by lia)];exact gy),Ya (by lia),Ya (by lia),Zv,Zv,G,Ya (by lia),Ya (by lia)];rfl
theorem gO{os:aR}{a:Nat}(ha:a<os.length)(l:List Nat):row (os.set a l) a=l:=by
 unfold row;rw[Zv,ZK ha];rfl
theorem iK{os:aR}{a p:Nat}(h:a≠p)(l:List Nat):row (os.set a l) p=row os p:=by
 unfold row;rw[Zv,ZJ h,<-Zv]
theorem qI{os:aR}{a x M:Nat}(ha:a<os.length)(nd:(row os a).Nodup)(hx:x∈row os a)(hM:M∉row os a)(only:∀p,x∈row os p->p=a) :
  bW (row (os.set a (L2.aW (row os a) ((row os a).idxOf x) M)) a) M=bW (row os a) x /\
  ∀p y,y∈row os p->bW (row (os.set a (L2.aW (row os a) ((row os a).idxOf x) M)) p) y=if y=x then M else bW (row os p) y:=by
 obtain⟨h1,h2⟩:=ER nd hx hM;refine⟨by rw[gO ha];exact h1,λp y hy=>?_⟩;by_cases e:a=p
 ·subst e;rw[gO ha];exact h2 y hy
 ·rw[iK e,Ya];rintro rfl;exact e (only p hy).symm
theorem JG{os:aR}{a M i p y:Nat}(ha:a<os.length):y∈row (os.set a (L2.aW (row os a) i M)) p↔(y=M/\p=a)\/y∈row os p:=by
 by_cases e:a=p
 ·subst e;rw[gO ha,gX];simp
 ·rw[iK e];constructor
  ·exact .inr
  ·rintro(⟨_,h⟩ | h)
   ·exact Yg h.symm e
   ·exact h
theorem vQ(n:Nat):oth (2*n)=2*n+1:=by unfold oth;rw[Yb (by lia)]
theorem AH(n:Nat):oth (2*n+1)=2*n:=by unfold oth;rw[Ya (by lia)];lia
noncomputable def dS(ts:aV)(os:aR):Nat:=(aT (behind ts os) (2*ts.length)).length
theorem qZ{ts:aV}{os:aR}(g:Good ts os){u:Nat}(hu:u<2*ts.length)(h3:(row os (place ts (oth u))).length<4) :
  dS (ts++[(place ts (oth u),os.length)]) ((os.set (place ts (oth u)) (L2.aW (row os (place ts (oth u))) ((row os (place ts (oth u))).idxOf (oth u)) (2*ts.length)))++[[2*ts.length+1]])=dS ts os/\(jF ts os->jF (ts++[(place ts (oth u),os.length)]) ((os.set (place ts (oth u)) (L2.aW (row os (place ts (oth u))) ((row os (place ts (oth u))).idxOf (oth u)) (2*ts.length)))++[[2*ts.length+1]])):=by
 have ho:=bQ hu;obtain⟨ha,hin⟩:=g.g.has (oth u) ho;have good:=g.newPlace (i:=(row os (place ts (oth u))).idxOf (oth u)) ha h3;have m':=good.maps;unfold dS jF;rw[show 2*(ts++[(place ts (oth u),os.length)]).length=2*ts.length+2 by rw[Zm];rfl]at m' ⊢;generalize hA:place ts (oth u)=a at ha hin good m' ⊢;have nm:2*ts.length∉row os a:=λz=>by have:=(g.g.ends a _ z).1;lia
 obtain⟨p1,p2⟩:=qI (M:=2*ts.length) ha (g.g.nd a) hin nm (λp hp=>by rw[<-(g.g.ends p _ hp).2,hA]);have rowOld:∀p,p<os.length->row ((os.set a (L2.aW (row os a) ((row os a).idxOf (oth u)) (2*ts.length)))++[[2*ts.length+1]]) p=row (os.set a (L2.aW (row os a) ((row os a).idxOf (oth u)) (2*ts.length))) p:=λp hp=>by
  unfold row;rw[Zv,Zx (by rw[ZP];exact hp),<-Zv]
 have rowNew:row ((os.set a (L2.aW (row os a) ((row os a).idxOf (oth u)) (2*ts.length)))++[[2*ts.length+1]]) os.length=[2*ts.length+1]:=by
  unfold row;rw[Zv,Zy (by rw[ZP];exact ZC _),ZP,Nat.sub_self];rfl
 have old:∀e,e<2*ts.length->behind (ts++[(a,os.length)]) ((os.set a (L2.aW (row os a) ((row os a).idxOf (oth u)) (2*ts.length)))++[[2*ts.length+1]]) e=if e=u then 2*ts.length else behind ts os e:=λe he=>by
  have q:=g.g.has (oth e) (bQ he);unfold behind;rw[kL (bQ he),rowOld _ q.1,p2 _ _ q.2];by_cases z:e=u
  ·rw[Yb z,z,Yb rfl]
  ·rw[Ya z,Ya (λh=>z (kM h))]
 refine CP g.maps m' hu ⟨λx hx hne=>by rw[old x hx,Ya hne],by rw[old u hu,Yb rfl],?_,?_⟩
 ·unfold behind;rw[vQ,gP,rowNew];unfold bW;simp
 ·unfold behind;rw[AH,iD,rowOld _ ha,p1];show bW _ _=bW (row os (place ts (oth u))) (oth u);rw[hA]
theorem uM{ts:aV}{os:aR}(g:Good ts os){u v:Nat}(hu:u<2*ts.length)(hv:v∈aL (behind ts os) u){a b:Nat}(ea:place ts (oth u)=a)(eb:place ts (oth v)=b)(h1:(row os a).length<4)
  (h2:(row (os.set a (L2.aW (row os a) ((row os a).idxOf (oth u)) (2*ts.length))) b).length<4) :
  dS (ts++[(a,b)]) ((os.set a (L2.aW (row os a) ((row os a).idxOf (oth u)) (2*ts.length))).set b (L2.aW (row (os.set a (L2.aW (row os a) ((row os a).idxOf (oth u)) (2*ts.length))) b) ((row (os.set a (L2.aW (row os a) ((row os a).idxOf (oth u)) (2*ts.length))) b).idxOf (oth v)) (2*ts.length+1)))=dS ts os+1/\(jF ts os->jF (ts++[(a,b)]) ((os.set a (L2.aW (row os a) ((row os a).idxOf (oth u)) (2*ts.length))).set b (L2.aW (row (os.set a (L2.aW (row os a) ((row os a).idxOf (oth u)) (2*ts.length))) b) ((row (os.set a (L2.aW (row os a) ((row os a).idxOf (oth u)) (2*ts.length))) b).idxOf (oth v)) (2*ts.length+1)))):=by
 have m:=g.maps;have hvN:=fJ m hu v hv;have ho:=bQ hu;have hov:=bQ hvN;obtain⟨ha,hin⟩:=g.g.has (oth u) ho;obtain⟨hb,hinv⟩:=g.g.has (oth v) hov;rw[ea]at ha hin;rw[eb]at hb hinv;have good:=g.newTie (i:=(row os a).idxOf (oth u)) (j:=(row (os.set a (L2.aW (row os a) ((row os a).idxOf (oth u)) (2*ts.length))) b).idxOf (oth v)) ha hb h1 h2;have m':=good.maps;unfold dS jF;rw[show 2*(ts++[(a,b)]).length=2*ts.length+2 by rw[Zm];rfl]at m' ⊢;have nm:2*ts.length∉row os a:=λz=>by have:=(g.g.ends a _ z).1;lia
 obtain⟨p1,p2⟩:=qI (M:=2*ts.length) ha (g.g.nd a) hin nm (λp hp=>by rw[<-(g.g.ends p _ hp).2,ea]);have mem1:∀p y,y∈row (os.set a (L2.aW (row os a) ((row os a).idxOf (oth u)) (2*ts.length))) p↔(y=2*ts.length/\p=a)\/y∈row os p:=λp y=>JG ha;have g2:(row (os.set a (L2.aW (row os a) ((row os a).idxOf (oth u)) (2*ts.length))) b).Nodup:=by
  by_cases e:a=b
  ·subst e;rw[gO ha];exact fD (g.g.nd a) nm
  ·rw[iK e];exact g.g.nd b
 have nm2:2*ts.length+1∉row (os.set a (L2.aW (row os a) ((row os a).idxOf (oth u)) (2*ts.length))) b:=λz=>by
  rcases(mem1 _ _).mp z with⟨z,_⟩ | z
  ·lia
  ·have:=(g.g.ends b _ z).1;lia
 obtain⟨q1,q2⟩:=qI (os:=os.set a (L2.aW (row os a) ((row os a).idxOf (oth u)) (2*ts.length))) (a:=b) (x:=oth v) (M:=2*ts.length+1) (by rw[ZP];exact hb) g2 ((mem1 _ _).mpr (.inr hinv)) nm2 (λp hp=>by
  rcases(mem1 _ _).mp hp with⟨z,_⟩ | z
  ·lia
  ·rw[<-(g.g.ends p _ z).2,eb])
 generalize hO1:os.set a (L2.aW (row os a) ((row os a).idxOf (oth u)) (2*ts.length))=os1 at p1 p2 mem1 q1 q2 good m' ⊢;generalize hO2:os1.set b (L2.aW (row os1 b) ((row os1 b).idxOf (oth v)) (2*ts.length+1))=os2 at q1 q2 good m' ⊢;have old:∀e,e<2*ts.length->behind (ts++[(a,b)]) os2 e=if e=v then 2*ts.length+1 else if e=u then 2*ts.length else behind ts os e:=λe he=>by
  have q:=g.g.has (oth e) (bQ he);unfold behind;rw[kL (bQ he),q2 _ _ ((mem1 _ _).mpr (.inr q.2)),p2 _ _ q.2];by_cases z:e=v
  ·rw[Yb z,z,Yb rfl]
  ·rw[Ya z,Ya (λh=>z (kM h))];by_cases z:e=u
   ·rw[Yb z,z,Yb rfl]
   ·rw[Ya z,Ya (λh=>z (kM h))]
 have atN:behind (ts++[(a,b)]) os2 (2*ts.length)=if v=u then 2*ts.length else behind ts os v:=by
  show bW (row os2 (place (ts++[(a,b)]) (oth (2*ts.length)))) (oth (2*ts.length))=_;rw[vQ,gP,q1,p2 _ _ hinv];by_cases z:v=u
  ·rw[Yb z,z,Yb rfl]
  ·rw[Ya z,Ya (λh=>z (kM h))];unfold behind;rw[eb]
 have atN1:behind (ts++[(a,b)]) os2 (2*ts.length+1)=behind ts os u:=by
  show bW (row os2 (place (ts++[(a,b)]) (oth (2*ts.length+1)))) (oth (2*ts.length+1))=_;rw[AH,iD,q2 _ _ ((mem1 _ _).mpr (.inl ⟨rfl,rfl⟩)),Ya (by lia),p1];unfold behind;rw[ea]
 obtain⟨r,hk⟩:=cY m hu;by_cases hvu:v=u
 ·have e:iter (behind ts os) (per (behind ts os) u) u=u:=r.2.1;refine vL (j:=per (behind ts os) u) m m' hu ⟨r.1,ZC _,λx hx z1 z2=>?_,?_,atN1,λh=>by lia,λ_=>by rw[atN,Yb hvu]⟩
  ·rw[e]at z2;rw[old x hx,Ya (by rw[hvu];exact z1),Ya z1]
  ·rw[e,old u hu,Yb hvu.symm]
 ·unfold aL at hv;obtain⟨j,hj,ej⟩:=iU.mp hv;have j0:0<j:=Nat.pos_of_ne_zero λz=>by subst z;exact hvu ej.symm
  refine vL (j:=j) m m' hu ⟨j0,by lia,λx hx z1 z2=>?_,?_,atN1,λh=>⟨?_,?_⟩,λh=>by lia⟩
  ·rw[ej]at z2;rw[old x hx,Ya z2,Ya z1]
  ·rw[ej,old v hvN,Yb rfl]
  ·rw[atN,Ya hvu,ej]
  ·rw[old u hu,Ya (Yh hvu),Yb rfl]
theorem DK{f:Nat->Nat}{N:Nat}(m:bX f N){y:Nat}(hy:y<N):∃x,x<N/\f x=y:=by
 obtain⟨k,h0,_,h⟩:=iH m hy;refine(xWP (iter f (k-1) y) (cF m hy _) ?_);have e:k=(k-1)+1:=by lia
 rw[e]at h;exact h
theorem AN{l:List Nat}(nd:l.Nodup)(h:∀x∈l,x<l.length):bX (λi=>l.getD i 0) l.length where
 lt:=λe he=>h _ (by simp only[List.getD,Zz he,YR];exact Zp he)
 inj:=λa b ha hb q=>by
  simp only[List.getD,Zz ha,Zz hb,YR]at q;exact(List.getElem_inj nd).mp q
def nmF(U F:Nat->Nat)(e:Nat):Nat:=2*U (e / 2)+(if e%2=0 then F (e / 2) else 1-F (e / 2))
theorem fI(U F:Nat->Nat)(hF:∀k,F k<=1)(e:Nat):nmF U F e / 2=U (e / 2)/\nmF U F e%2=(if e%2=0 then F (e / 2) else 1-F (e / 2)):=by
 have h:(if e%2=0 then F (e / 2) else 1-F (e / 2))<2:=by
  split
  ·exact Nat.lt_succ_of_le (hF _)
  ·exact Nat.lt_succ_of_le (Nat.sub_le _ _)
 unfold nmF;rw[Nat.mul_add_div (Nat.zero_lt_succ 1),Nat.div_eq_of_lt h,Nat.mul_add_mod,Nat.mod_eq_of_lt h];exact⟨rfl,rfl⟩
theorem qV{U F:Nat->Nat}{T:Nat}(hU:bX U T)(hF:∀k,F k<=1):bX (nmF U F) (2*T) where
 lt:=λe he=>by
  have h1:=hU.lt (e / 2) (by lia);have h2:=(fI U F hF e).1;rw[<-h2]at h1
  lia
 inj:=λa b ha hb h=>by
  have⟨a1,a2⟩:=fI U F hF a;have⟨b1,b2⟩:=fI U F hF b;rw[h]at a1 a2;have e:=hU.inj (a / 2) (b / 2) (by lia) (by lia) (a1.symm.trans b1);rw[b2,e]at a2;have hk:=hF (b / 2);refine rH e ?_;generalize F (b / 2)=f at a2 hk;rcases Nat.mod_two_eq_zero_or_one a with x | x<;>rcases Nat.mod_two_eq_zero_or_one b with y | y<;>rw[x,y]at a2 ⊢
  ·rw[Yb rfl,Ya (by decide)]at a2;lia
  ·rw[Yb rfl,Ya (by decide)]at a2;lia
theorem mH(ts:aV)(e:Nat):place ts e=if e%2=0 then (ts.getD (e / 2) (0,0)).1 else (ts.getD (e / 2) (0,0)).2:=rfl
theorem mD{ts told:aV}{os rows:aR}(g:Good ts os){U F Pl:Nat->Nat}(hU:bX U ts.length)(hF:∀k,F k<=1)(hP:bX Pl os.length)(ht:told.length=ts.length)(hr:rows.length=os.length)
  (hv:∀k,k<ts.length->told.getD (U k) (0,0)=if F k=0 then (Pl (ts.getD k (0,0)).1,Pl (ts.getD k (0,0)).2) else (Pl (ts.getD k (0,0)).2,Pl (ts.getD k (0,0)).1))
  (hw:∀p,p<os.length->∃l:List Nat,row rows (Pl p)=l.map (nmF U F)/\l.Perm (row os p)):Good told rows:=by
 have mN:=qV hU hF;have pl:∀e,e<2*ts.length->place told (nmF U F e)=Pl (place ts e):=λe he=>by
  have⟨h1,h2⟩:=fI U F hF e;have hk:=hv (e / 2) (by lia);have hf:=hF (e / 2);rw[mH told,mH ts,h1,h2,hk];by_cases q:e%2=0
  ·by_cases z:F (e / 2)=0
   ·simp[q,z]
   ·have z1:F (e / 2)=1:=by lia
    simp[q,z1]
  ·by_cases z:F (e / 2)=0
   ·simp[q,z]
   ·have z1:F (e / 2)=1:=by lia
    simp[q,z1]
 have out:∀p,rows.length<=p->row rows p=[]:=λp hp=>by
  unfold row;simp[List.getD,Zr hp]
 refine⟨⟨λp e he=>?_,λe he=>?_,λp=>?_,λp hp=>?_,λp=>?_⟩,by rw[ht];exact g.one⟩
 ·rcases Xk p rows.length with hp | hp
  ·obtain⟨p0,hp0,rfl⟩:=DK hP (hr▸hp);obtain⟨l,h1,h2⟩:=hw p0 hp0;rw[h1]at he;obtain⟨x,hx,rfl⟩:=Zh.mp he;have q:=g.g.ends p0 x (h2.mem_iff.mp hx);rw[ht];exact⟨mN.lt x q.1,by rw[pl x q.1,q.2]⟩
  ·rw[out p hp]at he;cases he
 ·rw[ht]at he;obtain⟨x,hx,rfl⟩:=DK mN he;have q:=g.g.has x hx;rw[pl x hx,hr];refine⟨hP.lt _ q.1,?_⟩;obtain⟨l,h1,h2⟩:=hw _ q.1;rw[h1];exact Zh.mpr (xWP x (h2.mem_iff.mpr q.2) rfl)
 ·rcases Xk p rows.length with hp | hp
  ·obtain⟨p0,hp0,rfl⟩:=DK hP (hr▸hp);obtain⟨l,h1,h2⟩:=hw p0 hp0;rw[h1];have ndl:l.Nodup:=h2.nodup_iff.mpr (g.g.nd p0);have hl:∀x∈l,x<2*ts.length:=λx hx=>(g.g.ends p0 x (h2.mem_iff.mp hx)).1;clear h1 h2;induction l with
   |nil=>exact List.nodup_nil
   |cons a l ih =>
    rw[ZI,List.nodup_cons];obtain⟨n1,n2⟩:=List.nodup_cons.mp ndl;refine⟨λz=>?_,ih n2 λx hx=>hl x (Zw _ hx)⟩;obtain⟨y,hy,e⟩:=Zh.mp z;have:=mN.inj y a (hl y (Zw _ hy)) (hl a Zd) e;subst this;exact n1 hy
  ·rw[out p hp];exact List.nodup_nil
 ·obtain⟨p0,hp0,rfl⟩:=DK hP (hr▸hp);obtain⟨l,h1,h2⟩:=hw p0 hp0;rw[h1];intro z;have:l=[]:=List.map_eq_nil_iff.mp z;subst this;exact g.g.full p0 hp0 (h2.symm.eq_nil)
 ·rcases Xk p rows.length with hp | hp
  ·obtain⟨p0,hp0,rfl⟩:=DK hP (hr▸hp);obtain⟨l,h1,h2⟩:=hw p0 hp0;rw[h1,Zq,h2.length_eq];exact g.g.four p0
  ·rw[out p hp];simp
def Rot(l m:List Nat):Prop:=∃k,l=m.drop k++m.take k
theorem Rot.perm{l m:List Nat}(h:Rot l m):l.Perm m:=by
 obtain⟨k,rfl⟩:=h;have:=(List.perm_append_comm:(m.drop k++m.take k).Perm (m.take k++m.drop k))
 rwa [List.take_append_drop]at this
theorem EO{a:Nat}{t:List Nat}(nd:(a::t).Nodup){x:Nat}(hx:x∈a::t):bW (t++[a]) x=bW (a::t) x:=by
 have nd2:(t++[a]).Nodup:=(List.perm_append_comm (l₁:=t) (l₂:=[a])).nodup_iff.mpr nd;rcases Zn.mp hx with rfl | hx
 ·cases t with
  |nil=>rfl
  |cons b t =>
   rw[cX (k:=0) nd rfl,cX (k:=(b::t).length) nd2 (by rw[Zy (ZC _),Nat.sub_self];rfl),Yb rfl,Ya (show ¬(b::t).length=0 from Nat.succ_ne_zero _)];show(b::t++[x]).getD t.length 0=(b::t).getD t.length 0;rw[Zv,Zv,Zx (Nat.lt_succ_self _)]
 ·obtain⟨i,hi,ei⟩:=Yy.mp hx;have gx:t[i]?=some x:=by rw[Zz hi,ei]
  have g1:(t++[a])[i]?=some x:=by rw[Zx hi];exact gx
  rw[cX nd2 g1,cX (k:=i+1) nd gx,Ya (Nat.succ_ne_zero i)];cases i with
  |zero =>
   rw[Yb rfl,Zm];show(t++[a]).getD t.length 0=a;rw[Zv,Zy (ZC _),Nat.sub_self];rfl
  |succ j =>
   rw[Ya (Nat.succ_ne_zero j)];show(t++[a]).getD j 0=t.getD j 0;rw[Zv,Zv,Zx (Nat.lt_of_succ_lt hi)]
theorem yI{l:List Nat}(nd:l.Nodup){x k:Nat}(hx:x∈l):bW (l.drop k++l.take k) x=bW l x:=by
 induction k with
 |zero=>rw[List.drop_zero,List.take_zero,List.append_nil]
 |succ k ih =>
  rw[<-ih];have pm:(l.drop k++l.take k).Perm l:=Rot.perm ⟨k,rfl⟩;rcases Xk k l.length with h | h
  ·have e:l.drop k=l[k]::l.drop (k+1):=List.drop_eq_getElem_cons h;have n2:=pm.nodup_iff.mpr nd;have m2:=pm.mem_iff.mpr hx;rw[e]at n2 m2;rw[List.take_succ_eq_append_getElem h,<-Yn,e];exact EO n2 m2
  ·rw[List.drop_eq_nil_of_le h,List.take_of_length_le h,List.drop_eq_nil_of_le (Nat.le_succ_of_le h),List.take_of_length_le (Nat.le_succ_of_le h)]
theorem yK{l:List Nat}(nd:l.Nodup){φ:Nat->Nat}(nd':(l.map φ).Nodup){x:Nat}(hx:x∈l):bW (l.map φ) (φ x)=φ (bW l x):=by
 obtain⟨i,hi,ei⟩:=Yy.mp hx;have gx:l[i]?=some x:=by rw[Zz hi,ei]
 have gx':(l.map φ)[i]?=some (φ x):=by rw[Zk,gx];rfl
 rw[cX nd gx,cX nd' gx',Zq];generalize hj:(if i=0 then l.length-1 else i-1)=j;have hj':j<l.length:=by split at hj<;>omega
 rw[Zv,Zv,Zk,Zz hj'];rfl
theorem AM{U F:Nat->Nat}(hF:∀k,F k<=1)(e:Nat):oth (nmF U F e)=nmF U F (oth e):=by
 refine rH ?_ ?_
 ·rw[iR,(fI U F hF e).1,(fI U F hF (oth e)).1,iR]
 ·rw[mO,(fI U F hF e).2,(fI U F hF (oth e)).2,iR,mO];rcases Nat.mod_two_eq_zero_or_one e with z | z<;>rw[z]
  ·rfl
  ·exact Nat.sub_sub_self (hF _)
theorem rT{ts told:aV}{os rows:aR}(g:Good ts os){U F Pl:Nat->Nat}(hU:bX U ts.length)(hF:∀k,F k<=1)(hP:bX Pl os.length)(ht:told.length=ts.length)(hr:rows.length=os.length)
  (hv:∀k,k<ts.length->told.getD (U k) (0,0)=if F k=0 then (Pl (ts.getD k (0,0)).1,Pl (ts.getD k (0,0)).2) else (Pl (ts.getD k (0,0)).2,Pl (ts.getD k (0,0)).1))
  (hw:∀p,p<os.length->∃l:List Nat,row rows (Pl p)=l.map (nmF U F)/\Rot l (row os p)):dS told rows=dS ts os/\(jF ts os->jF told rows):=by
 have good:=mD g hU hF hP ht hr hv λp hp=>by obtain⟨l,h1,h2⟩:=hw p hp;exact(xWP l h1 h2.perm)
 have mN:=qV hU hF;have pl:∀e,e<2*ts.length->place told (nmF U F e)=Pl (place ts e):=λe he=>by
  have⟨h1,h2⟩:=fI U F hF e;have hk:=hv (e / 2) (by lia);have hf:=hF (e / 2);rw[mH told,mH ts,h1,h2,hk];by_cases q:e%2=0
  ·by_cases z:F (e / 2)=0
   ·simp[q,z]
   ·have z1:F (e / 2)=1:=by lia
    simp[q,z1]
  ·by_cases z:F (e / 2)=0
   ·simp[q,z]
   ·have z1:F (e / 2)=1:=by lia
    simp[q,z1]
 have m':=good.maps;unfold dS jF;rw[ht]at m' ⊢;refine EH g.maps m' mN (λe=>AM hF e) λe he=>?_;have ho:=bQ he;have q:=g.g.has (oth e) ho;obtain⟨l,h1,h2⟩:=hw _ q.1;unfold behind;rw[AM hF,pl _ ho,h1];have nd':=good.g.nd (Pl (place ts (oth e)));rw[h1]at nd';have pm:=h2.perm;rw[yK (pm.nodup_iff.mpr (g.g.nd _)) nd' (pm.mem_iff.mpr q.2)];obtain⟨k,rfl⟩:=h2;rw[yI (g.g.nd _) q.2]
def ND(ts:aV)(os:aR)(ts':aV)(os':aR):Prop:=(ts'=ts/\os'=os)\/(ts'.length=ts.length+1/\((os'.length=os.length+1/\(dS ts' os'=dS ts os/\(jF ts os->jF ts' os')))\/(os'.length=os.length/\(dS ts' os'=dS ts os+1/\(jF ts os->jF ts' os')))))
def Flat(ts:aV)(os:aR):Prop:=os.length+dS ts os=ts.length+2
structure FC(ts:aV)(os:aR):Prop where
 flat:Flat ts os
 conn:jF ts os
theorem ND.fc{ts ts':aV}{os os':aR}(h:ND ts os ts' os')(f:FC ts os):FC ts' os':=by
 have fl:=f.flat;have c:=f.conn;rcases h with⟨rfl,rfl⟩ | ⟨h1,⟨h2,h3,h4⟩ | ⟨h2,h3,h4⟩⟩
 ·exact f
 ·exact⟨by unfold Flat at *;lia,h4 c⟩
 ·exact⟨by unfold Flat at *;lia,h4 c⟩
theorem wW{ts:aV}{os:aR}(h:ts.length=1):jF ts os:=by
 intro S h1 h2 x y hx hy sx;rw[h]at hx hy;have e0:oth 0=1:=rfl;have e1:oth 1=0:=rfl;by_cases q:x=y
 ·exact q▸sx
 ·have:=h2 x (by lia) sx;have hx':(x=0/\y=1)\/(x=1/\y=0):=by lia
  rcases hx' with⟨rfl,rfl⟩ | ⟨rfl,rfl⟩
  ·rwa [e0]at this
  ·rwa [e1]at this
theorem y9{f:Nat->Nat}{N:Nat}(m:bX f N):(aT f N).flatten.Perm (ZR N):=by
 have one:=λ{x:Nat}(hx:x<N)=>y0 m _ (ZR N) (ZC _) (λz hz=>Zs.mp hz) x (Zs.mpr hx);have mem:=λ(d:List Nat) (hd:d∈aT f N)=>lU m _ (ZR N) (ZC _) (λz hz=>Zs.mp hz) d hd;have lt:∀d∈aT f N,∀x∈d,x<N:=λd hd x hx=>by
  obtain⟨e,he,rfl⟩:=mem d hd;exact fJ m (Zs.mp he) x hx
 refine(List.perm_ext_iff_of_nodup ?_ List.nodup_range).mpr λx=>?_
 ·rw[List.nodup_iff_pairwise_ne,List.pairwise_flatten];refine⟨λd hd=>?_,?_⟩
  ·obtain⟨e,he,rfl⟩:=mem d hd;have:=lW m (Zs.mp he)
   rwa [List.nodup_iff_pairwise_ne]at this
  ·rw[List.pairwise_iff_getElem];intro i j hi hj hij x hx y hy e;subst e;obtain⟨k,d,_,_,h3⟩:=one (lt _ (Zp hi) x hx);have e1:=h3 i _ (Zz hi) hx;have e2:=h3 j _ (Zz hj) hy
   lia
 ·rw[List.mem_flatten,Zs];constructor
  ·rintro⟨d,hd,hx⟩;exact lt d hd x hx
  ·intro hx;obtain⟨k,d,h1,h2,_⟩:=one hx;exact(xWP d (Zg h1) h2)
def su(l:List Nat)(f:Nat->Int):Int:=(l.map f).sum
theorem DM(f:Nat->Int):su [] f=0:=rfl
theorem eO(x:Nat)(l:List Nat)(f:Nat->Int):su (x::l) f=f x+su l f:=by unfold su;rw[ZI,List.sum_cons]
theorem DN(f:Nat->Int):∀a b:List Nat,su (a++b) f=su a f+su b f
 |[],b=>by rw[DM,List.nil_append];lia
 |x::a,b=>by rw[List.cons_append,eO,eO,DN f a b];lia
theorem HG{f:Nat->Int}{a b:List Nat}(h:a.Perm b):su a f=su b f:=by
 induction h with
 |nil=>rfl
 |cons x _ ih=>rw[eO,eO,ih]
 |swap x y l=>rw[eO,eO,eO,eO];lia
 |trans _ _ h1 h2=>exact h1.trans h2
theorem vE{f g:Nat->Int}:∀{l:List Nat},(∀x∈l,f x=g x)->su l f=su l g
 |[],_=>rfl
 |x::l,h=>by rw[eO,eO,h x Zd,vE λy hy=>h y (Zw _ hy)]
theorem LB(f:Nat->Int)(φ:Nat->Nat)(l:List Nat):su (l.map φ) f=su l λx=>f (φ x):=by unfold su;rw[Ym];rfl
theorem IG{a b:List Nat}(ha:a.Nodup)(hb:b.Nodup)(h:∀x,x∈a↔x∈b):a.Perm b:=(List.perm_ext_iff_of_nodup ha hb).mpr h
def trm(c l:Nat->Int)(e:Nat):Int:=2-c e+l e-l (oth e)
noncomputable abbrev lls(ts:aV)(os:aR):List (List Nat):=aT (behind ts os) (2*ts.length)
theorem wC{ts:aV}{os:aR}(g:Good ts os){k:Nat}{d:List Nat}(h:(lls ts os)[k]?=some d):d.Nodup/\(∀x∈d,x<2*ts.length)/\(∀x,x<2*ts.length->(behind ts os x∈d↔x∈d))/\d≠[]:=by
 have m:=g.maps;obtain⟨e,he,rfl⟩:=lU m _ (ZR (2*ts.length)) (ZC _) (λz hz=>Zs.mp hz) d (Zg h);have he:=Zs.mp he;refine(cH (lW m he) (fJ m he) (λx hx=>?_) (λz=>?_))
 ·have h1:behind ts os x∈aL (behind ts os) x:=(bG m hx).mpr ⟨1,rfl⟩;have hb:=m.lt x hx;constructor
  ·intro q;exact eG m he q (fT m hx h1)
  ·intro q;exact eG m he q h1
 ·have:=dQ m he;rw[z]at this;cases this
end MM
theorem DF{G B:Prop}(m:B->G)(e:B):G:=m e
namespace K32
open PySem L2 PyProof.Rows
def LD:Sp:=λvs H Q _=>∃(H0:Hp) (ta oa:Addr) (pick most:Int) (rr:List Addr) (ts:MM.aV) (os:MM.aR),vs=[.ref ta,.ref oa,.int pick,.int most]/\aJ H0 H/\nB H0 H ta oa rr ts os/\MM.Good ts os/\ts.length<=100/\os.length<=100/\0<=pick /\
 ∀(H':Hp) (rr':List Addr) (ts':MM.aV) (os':MM.aR),aJ H0 H'->nB H0 H' ta oa rr' ts' os'->MM.Good ts' os'->ts'.length<=ts.length+1->os'.length<=os.length+1->MM.ND ts os ts' os'->Q .non H'
theorem E9(T:Txt K mg t):Ok P w base T 83 4 LD:=by
 left
 obtain⟨H0,ta,oa,pick,most,rr,ts,os,rfl,g0,hm,g,ht100,ho100,hp0,q⟩:=h;refine(xWP _ (by exists 4,iS,0,1,5,aI,4,2,4,6,fA,aI,5,bE,2,5,7,fA,aI,5,bE,2,5,8,kN,0,6,9,kN,0,7,10,0,bY,bE,2,1,3,aI,1,8,iE YO PySem.F.slot_list_insert PySem.F.type_list_insert gW ?_ ?_,aI,1,8,iE YO PySem.F.slot_list_index PySem.F.type_list_index jT ?_ ?_,aI,1,8,6,10,0,8,1,1,aX,10,aI,1,8,bS kU rfl (T.z 4) boot_int ?_,bY,8,9,aI,1,9,bS kU rfl (T.z 4) boot_int ?_,bY,8,9,iE YO PySem.F.slot_list_insert PySem.F.type_list_insert gW ?_ ?_,aI,1,8,iE YO PySem.F.slot_list_index PySem.F.type_list_index jT ?_ ?_,aI,1,8,6,10,iE YO PySem.F.slot_list_insert PySem.F.type_list_insert gW ?_ ?_,aI,1,9,iE YO PySem.F.slot_list_index PySem.F.type_list_index jT ?_ ?_,aI,1,9,7,aX,10,0,8,9) ?_);have m:=g.maps;refine(b9 ta oa ts os rfl hm.ts hm.os.os g (by lia) (λr1 rr1 H1 g1 n1=>?_));have hm1:=hm.keep g1;have lpos:=MM.wG m (by have:=g.one;lia);have rl1:(rr1.map V.ref).length=(MM.aT (MM.behind ts os) (2*ts.length)).length:=by rw[Zq];exact n1.len
 obtain⟨k1,hk1,ek1⟩:=MM.nS pick (n:=(rr1.map V.ref).length) (by lia);obtain⟨x1,x11,x12,x13,x14⟩:=n1.item (p:=k1) (by lia);obtain⟨lp,ll⟩:=MM.oN m (d:=MM.row (MM.aT (MM.behind ts os) (2*ts.length)) k1) (by
  unfold MM.row;have:k1<(MM.aT (MM.behind ts os) (2*ts.length)).length:=by lia
  simp only[List.getD,Zz this,YR];exact Zp this)
 have lsame:∀x∈MM.row (MM.aT (MM.behind ts os) (2*ts.length)) k1,∀y∈MM.row (MM.aT (MM.behind ts os) (2*ts.length)) k1,y∈MM.aL (MM.behind ts os) x:=by
  have hk:k1<(MM.aT (MM.behind ts os) (2*ts.length)).length:=by lia
  have hd:MM.row (MM.aT (MM.behind ts os) (2*ts.length)) k1∈MM.aT (MM.behind ts os) (2*ts.length):=by
   unfold MM.row;simp only[List.getD,Zz hk,YR];exact Zp hk
  obtain⟨e,he,hde⟩:=MM.lU m _ (ZR (2*ts.length)) (ZC _) (λx hx=>Zs.mp hx) _ hd;have heN:=Zs.mp he;intro x hx y hy;rw[hde]at hx hy;exact MM.eG m (MM.fJ m heN x hx) (MM.fT m heN hx) hy
 generalize MM.row (MM.aT (MM.behind ts os) (2*ts.length)) k1=land at x13 lp ll lsame;have ll1:(vns land).length=land.length:=Zq _;refine(iZ r1 _ rfl (.inl (SqL.of n1.at_)) (by show(0:Int)<((rr1.map V.ref).length:Nat);lia) _ _ (SqL.of n1.at_) (by show atI _ (pick%((rr1.map V.ref).length:Nat))=_;rw[ek1];exact x14) ?_);obtain⟨k2,hk2,ek2⟩:=MM.nS (pick / 8) (n:=(vns land).length) (by lia);obtain⟨k3,hk3,ek3⟩:=MM.nS (pick / 128) (n:=(vns land).length) (by lia);have e2:=ll (land.getD k2 0) (by simp only[List.getD,Zz (show k2<land.length by lia),YR];exact Zp _);have e3:=ll (land.getD k3 0) (by simp only[List.getD,Zz (show k3<land.length by lia),YR];exact Zp _);refine(lJ ⟨by decide,by decide⟩ x1 _ rfl (.inl (SqL.of x13)) (by show(0:Int)<((vns land).length:Nat);lia) _ _ (SqL.of x13) (gJ (by show atI _ (pick / 8%((vns land).length:Nat))=_;rw[ek2];exact j4 (by lia) rfl) _ rfl ?_));refine(lJ ⟨by decide,by decide⟩ x1 _ rfl (.inl (SqL.of x13)) (by show(0:Int)<((vns land).length:Nat);lia) _ _ (SqL.of x13) (gJ (by show atI _ (pick / 128%((vns land).length:Nat))=_;rw[ek3];exact j4 (by lia) rfl) _ rfl ?_));have e23:=lsame (land.getD k2 0) (by simp only[List.getD,Zz (show k2<land.length by lia),YR];exact Zp _) (land.getD k3 0) (by simp only[List.getD,Zz (show k3<land.length by lia),YR];exact Zp _);generalize land.getD k2 0=u1 at e2 e23;generalize land.getD k3 0=u2 at e3 e23;have o1:=g.g.has (MM.oth u1) (MM.bQ e2);have o2:=g.g.has (MM.oth u2) (MM.bQ e3);have lt1:=MM.bQ e2;have lt2:=MM.bQ e3;generalize ho1:MM.oth u1=one at o1 lt1;generalize ho2:MM.oth u2=two at o2 lt2;refine(dO ta ts one rfl hm1.ts lt1 ?_);refine(dO ta ts two rfl hm1.ts lt2 ?_);obtain⟨ha0,ha1⟩:=o1;obtain⟨hb0,hb1⟩:=o2;generalize hpa:MM.place ts one=a at ha0 ha1;generalize hpb:MM.place ts two=b at hb0 hb1;obtain⟨tr,tr1,tr2,tr3⟩:=id hm1.ts;refine(aP ta _ rfl (.inl (SqL.of tr1)) (.inl ⟨by decide,by decide⟩) ?_);have eE:(2:Int)*((tr.map V.ref).length:Nat)=((2*ts.length:Nat):Int):=by rw[Zq,tr2];push_cast;rfl
 show b0 10 (V.int ((2:Int)*((tr.map V.ref).length:Nat))) _ _ _;rw[eE];have n2:=hm1.os;have g2:=g0.trans g1;obtain⟨xa,xa1,xa2,xa3,xa4⟩:=n2.item ha0;have hra:((vns (MM.row os a)).length:Int)=((MM.row os a).length:Nat):=by rw[Zq]
 have hro:((rr.map V.ref).length:Int)=(os.length:Nat):=by rw[Zq,n2.len]
 have nta:ta≠xa:=λz=>hm1.ar (z▸xa2);have noa:oa≠xa:=λz=>n2.nin (z▸xa2);have ia:=ZM ha1;have noneC:Q .non H1:=q H1 rr ts os g2 hm1 g (by lia) (by lia) (.inl ⟨rfl,rfl⟩);refine' DF (λels=>?_) ?_;rotate_left
 ·refine(xPP ⟨by decide,by decide⟩ (by show(0:Int)<3;decide) ?_);refine i2 (λc1=>?_) (λc1=>iFb rfl els);refine(aH oa _ rfl (.inl (SqL.of n2.at_)) ?_);refine i2 (λc2=>?_) (λc2=>iFb rfl els)
  ·refine(bO _ _ (SqL.of n2.at_) xa4 xa _ rfl (.inl (SqL.of xa3)) ?_);refine i2 (λc3=>?_) (λc3=>els)
   ·have c3':((vns (MM.row os a)).length:Int)<4:=Yf c3;rw[hra]at c3';have h3:(MM.row os a).length<4:=by lia
    refine(iZ _ _ (SqL.of n2.at_) xa4 (.inl ⟨rfl,_,SqL.of xa3⟩) _ _ (SqL.of n2.at_) xa4 (oY (.inl ⟨rfl,_,SqL.of xa3⟩) _ one rfl xa3 ha1 (dY _ _ _ rfl xa3 ?_ ?_ ?_)))
    ·rw[Zq];lia
    ·rw[Zq];exact Xq (g.g.four a) (by decide)
    rw[MM.kQ];have n3:=n2.set (l:=aW (MM.row os a) ((MM.row os a).idxOf one) (2*ts.length)) xa1;have t3:=hm1.ts.other xa3 (Yh nta) (.lst (vns (aW (MM.row os a) ((MM.row os a).idxOf one) (2*ts.length))));have s3:aJ H0 (upd H1 xa (.lst (vns (aW (MM.row os a) ((MM.row os a).idxOf one) (2*ts.length))))):=λc u h=>by rw[aE (aC h (n2.news _ xa2))];exact g2 _ _ h
    have gd:=g.newPlace (i:=(MM.row os a).idxOf one) ha0 h3;have ct:=MM.qZ g e2 (by rw[ho1,hpa];exact h3);rw[ho1,hpa]at ct;have hol:(os.set a (aW (MM.row os a) ((MM.row os a).idxOf one) (2*ts.length))).length=os.length:=ZP;generalize upd H1 xa (.lst (vns (aW (MM.row os a) ((MM.row os a).idxOf one) (2*ts.length))))=H3 at n3 t3 s3;generalize os.set a (aW (MM.row os a) ((MM.row os a).idxOf one) (2*ts.length))=os1 at n3 gd ct hol;obtain⟨tq,tq1,tq2,tq3⟩:=id t3;refine(oY (.inl ⟨rfl,_,SqL.of tq1⟩) oa _ rfl (.inl (SqL.of n3.at_)) (by show 2<=ZW;decide) (λtp htp=>?_));have e0:(V.int ((rr.map V.ref).length:Nat))=vn os.length:=by rw[Zq,n2.len]
    rw[e0]at *;have g5:=aB htp (.tup [vn a,vn os.length]);refine(aQ _ (g5 _ _ tq1) ?_ ?_)
    ·rw[Zq,tq2];exact Xq ht100 (by decide)
    have t5:=(g5.ts t3).push (t:=(a,os.length)) (g5 _ _ tq1) aA;have n5:cD H0 (upd (upd H3 tp (.tup [vn a,vn os.length])) ta (.lst (tq.map V.ref++[.ref tp]))) oa rr os1:=n3.keep λc u hc h=>by
     rw[aE (show c≠ta by rcases hc with rfl | hc;exact Yh hm1.ao;rintro rfl;exact hm1.ar hc)];exact g5 _ _ h
    have s5:aJ H0 (upd (upd H3 tp (.tup [vn a,vn os.length])) ta (.lst (tq.map V.ref++[.ref tp]))):=λc u h=>by rw[aE (aC h hm1.an)];exact g5 _ _ (s3 _ _ h)
    generalize upd (upd H3 tp (.tup [vn a,vn os.length])) ta (.lst (tq.map V.ref++[.ref tp]))=H5 at t5 n5 s5;refine(xPP (.inl ⟨rfl,_,SqL.of n5.at_⟩) (by show 1<=ZW;decide) (λnl hnl=>?_));have e1:(λi j:Int=>V.int (i+j)) ((2*ts.length:Nat):Int) 1=vn (2*ts.length+1):=rfl;rw[e1]at *;have g6:=aB hnl (.lst [vn (2*ts.length+1)]);refine(aQ _ (g6 _ _ n5.at_) ?_ ?_)
    ·rw[Zq,n5.len,hol];exact Xq ho100 (by decide)
    have nlr:nl∉rr:=λz=>by obtain⟨l,hl⟩:=n5.ex z;rw[hnl]at hl;cases hl
    have nlo:nl≠oa:=(aC n5.at_ hnl).symm;have n6:=n5.push (x:=nl) (l:=[2*ts.length+1]) (H2:=upd (upd H5 nl (.lst [vn (2*ts.length+1)])) oa (.lst (rr.map V.ref++[.ref nl]))) (s5.free hnl) nlr nlo (by rw[aA,Zt];rfl) (by rw[aE nlo];exact aA) (λc u hc h=>by rw[aE (show c≠oa from λz=>n5.nin (z▸hc))];exact g6 _ _ h);have t6:=(g6.ts t5).other (g6 _ _ n5.at_) (Yh hm1.ao) (.lst (rr.map V.ref++[.ref nl]));have s6:aJ H0 (upd (upd H5 nl (.lst [vn (2*ts.length+1)])) oa (.lst (rr.map V.ref++[.ref nl]))):=λc u h=>by rw[aE (aC h n2.new)];exact g6 _ _ (s5 _ _ h)
    have tnl:ta≠nl:=by obtain⟨tq',z1,_⟩:=id t5;exact aC z1 hnl
    exact q _ (rr++[nl]) _ _ s6 ⟨t6,n6,hm1.an,hm1.ao,λz=>(Zf.mp z).elim hm1.ar λz=>tnl (by simpa using z)⟩ gd (by rw[Zm];exact ZC _) (by rw[Zm,hol];exact ZC _) (.inr ⟨by rw[Zm];rfl,.inl ⟨by rw[Zm,hol];rfl,ct⟩⟩)
 ·obtain⟨xb,xb1,xb2,xb3,xb4⟩:=n2.item hb0;refine(bO _ _ (SqL.of n2.at_) xa4 xa _ rfl (.inl (SqL.of xa3)) (.inr (xWP _ rfl ?_)));refine i2 (λd1=>?_) (λd1=>iFb rfl noneC);refine(bO _ _ (SqL.of n2.at_) xb4 xb _ rfl (.inl (SqL.of xb3)) (.inr (xWP _ rfl ?_)));refine i2 (λd2=>?_) (λd2=>noneC);have h12:(MM.row os a).length<4/\(MM.row (os.set a (aW (MM.row os a) ((MM.row os a).idxOf one) (2*ts.length))) b).length<4:=by
   have d1':((vns (MM.row os a)).length:Int)<4-(if decide (vn a=vn b)=true then 1 else 0):=Yf d1;have d2':((vns (MM.row os b)).length:Int)<4-(if decide (vn a=vn b)=true then 1 else 0):=Yf d2;rw[hra]at d1';rw[Zq]at d2';by_cases hab:a=b
   ·subst hab;rw[Yb (by simp)]at d1';rw[MM.cK ha0,MM.gY]
    lia
   ·have nab:¬(decide (vn a=vn b)=true):=by
     intro z;have z':=Yf z;injection z' with z';exact hab (by lia)
    rw[Ya nab]at d1' d2';rw[MM.dZ (Yh hab)]
    lia
  refine(iZ _ _ (SqL.of n2.at_) xa4 (.inl ⟨rfl,_,SqL.of xa3⟩) _ _ (SqL.of n2.at_) xa4 (oY (.inl ⟨rfl,_,SqL.of xa3⟩) _ one rfl xa3 ha1 (dY _ _ _ rfl xa3 ?_ ?_ ?_)))
  ·rw[Zq];lia
  ·rw[Zq];exact Xq (g.g.four a) (by decide)
  rw[MM.kQ];have n3:=n2.set (l:=aW (MM.row os a) ((MM.row os a).idxOf one) (2*ts.length)) xa1;have t3:=hm1.ts.other xa3 (Yh nta) (.lst (vns (aW (MM.row os a) ((MM.row os a).idxOf one) (2*ts.length))));have s3:aJ H0 (upd H1 xa (.lst (vns (aW (MM.row os a) ((MM.row os a).idxOf one) (2*ts.length))))):=λc u h=>by rw[aE (aC h (n2.news _ xa2))];exact g2 _ _ h
  have hb2:two∈MM.row (os.set a (aW (MM.row os a) ((MM.row os a).idxOf one) (2*ts.length))) b:=by
   by_cases hab:b=a
   ·subst hab;rw[MM.cK ha0];exact MM.gX.mpr (.inr hb1)
   ·rw[MM.dZ hab];exact hb1
  have gd:=g.newTie (i:=(MM.row os a).idxOf one) (j:=(MM.row (os.set a (aW (MM.row os a) ((MM.row os a).idxOf one) (2*ts.length))) b).idxOf two) ha0 hb0 h12.1 h12.2;have ct:=MM.uM g e2 e23 (a:=a) (b:=b) (by rw[ho1];exact hpa) (by rw[ho2];exact hpb) h12.1 (by rw[ho1];exact h12.2);rw[ho1,ho2]at ct;have hol:(os.set a (aW (MM.row os a) ((MM.row os a).idxOf one) (2*ts.length))).length=os.length:=ZP;generalize upd H1 xa (.lst (vns (aW (MM.row os a) ((MM.row os a).idxOf one) (2*ts.length))))=H3 at n3 t3 s3;generalize os.set a (aW (MM.row os a) ((MM.row os a).idxOf one) (2*ts.length))=os1 at n3 hb2 gd ct h12 hol;obtain⟨yb,yb1,yb2,yb3,yb4⟩:=n3.item (p:=b) (by lia);have ib:=ZM hb2;refine(iZ _ _ (SqL.of n3.at_) yb4 (.inl ⟨rfl,_,SqL.of yb3⟩) _ _ (SqL.of n3.at_) yb4 (oY (.inl ⟨rfl,_,SqL.of yb3⟩) _ two rfl yb3 hb2 (dY _ _ _ rfl yb3 ?_ ?_ ?_)))
  ·rw[Zq];lia
  ·rw[Zq];exact Nat.lt_trans h12.2 (by decide)
  have e1:(λi j:Int=>V.int (i+j)) ((2*ts.length:Nat):Int) 1=vn (2*ts.length+1):=rfl;rw[e1,MM.kQ];have n4:=n3.set (l:=aW (MM.row os1 b) ((MM.row os1 b).idxOf two) (2*ts.length+1)) yb1;have t4:=t3.other yb3 (λz=>hm1.ar (z▸yb2)) (.lst (vns (aW (MM.row os1 b) ((MM.row os1 b).idxOf two) (2*ts.length+1))));have s4:aJ H0 (upd H3 yb (.lst (vns (aW (MM.row os1 b) ((MM.row os1 b).idxOf two) (2*ts.length+1))))):=λc u h=>by rw[aE (aC h (n2.news _ yb2))];exact s3 _ _ h
  generalize upd H3 yb (.lst (vns (aW (MM.row os1 b) ((MM.row os1 b).idxOf two) (2*ts.length+1))))=H4 at n4 t4 s4;obtain⟨tq,tq1,tq2,tq3⟩:=id t4;refine(xPP (.inl ⟨rfl,_,SqL.of tq1⟩) (by show 2<=ZW;decide) (λtp htp=>?_));have g5:=aB htp (.tup [vn a,vn b]);refine(aQ _ (g5 _ _ tq1) ?_ ?_)
  ·rw[Zq,tq2];exact Xq ht100 (by decide)
  have t5:=(g5.ts t4).push (t:=(a,b)) (g5 _ _ tq1) aA;have n5:cD H0 (upd (upd H4 tp (.tup [vn a,vn b])) ta (.lst (tq.map V.ref++[.ref tp]))) oa rr (os1.set b (aW (MM.row os1 b) ((MM.row os1 b).idxOf two) (2*ts.length+1))):=n4.keep λc u hc h=>by
   rw[aE (show c≠ta by rcases hc with rfl | hc;exact Yh hm1.ao;rintro rfl;exact hm1.ar hc)];exact g5 _ _ h
  have s5:aJ H0 (upd (upd H4 tp (.tup [vn a,vn b])) ta (.lst (tq.map V.ref++[.ref tp]))):=λc u h=>by rw[aE (aC h hm1.an)];exact g5 _ _ (s4 _ _ h)
  exact q _ rr _ _ s5 ⟨t5,n5,hm1.an,hm1.ao,hm1.ar⟩ gd (by rw[Zm];exact ZC _) (by rw[ZP];lia) (.inr ⟨by rw[Zm];rfl,.inr ⟨by rw[ZP];exact hol,ct⟩⟩)
end K32
namespace L2
open PySem PyProof.Rows
theorem gM.set{H:Hp}{a r:Addr}{ts:MM.aV}{xs:List V}{t:Nat×Nat}{j:Nat}(h:gM H a ts)(hx:H a=some (.lst xs))(hr:H r=some (.tup [vn t.1,vn t.2])):gM (upd H a (.lst (xs.set j (.ref r)))) a (ts.set j t):=by
 obtain⟨tr,h1,h2,h3⟩:=h;have ex:xs=tr.map V.ref:=by rw[hx]at h1;cases h1;rfl
 subst ex;refine(aQ (tr.set j r) (by rw[aA,ZG]) (by rw[ZP,ZP,h2]) (λi u hu=>?_));by_cases e:j=i
 ·subst e;have hj:j<ts.length:=by
   have:=(Zj.mp hu).1;rw[ZP]at this;exact this
  rw[ZK hj]at hu;cases hu;exact(xWP r (ZK (by rw[h2];exact hj)) (by rw[aE (bZ hr hx (λz=>nomatch z))];exact hr))
 ·rw[ZJ e]at hu;obtain⟨y,q1,q2⟩:=h3 i u hu;exact(xWP y (by rw[ZJ e];exact q1) (by rw[aE (bZ q2 hx (λz=>nomatch z))];exact q2))
theorem sW{α:Type}{x:α}:∀{l:List α},l.Nodup->x∉l->∀p,(l.set p x).Nodup
 |[],_,_,_=>by simp
 |a::l,nd,h,0=>by
  rw[List.set_cons_zero,List.nodup_cons];exact⟨λz=>h (Zw _ z),(List.nodup_cons.mp nd).2⟩
 |a::l,nd,h,p+1=>by
  rw[List.set_cons_succ,List.nodup_cons];refine⟨λz=>?_,sW (List.nodup_cons.mp nd).2 (λz=>h (Zw _ z)) p⟩;rcases List.mem_or_eq_of_mem_set z with z | z
  ·exact(List.nodup_cons.mp nd).1 z
  ·subst z;exact h Zd
theorem cD.setRef{H0 H H2:Hp}{o x:Addr}{rr:List Addr}{os:MM.aR}{l:List Nat}{p:Nat}(n:cD H0 H o rr os)(hx:H0 x=none)(hxr:x∉rr)(hxo:x≠o)(at2:H2 o=some (.lst ((rr.set p x).map V.ref)))(ax:H2 x=some (.lst (vns l)))
  (g:∀b u,b∈rr->H b=some u->H2 b=some u):cD H0 H2 o (rr.set p x) (os.set p l) where
 at_:=at2
 len:=by rw[ZP,ZP];exact n.len
 row:=λi m h=>by
  by_cases e:p=i
  ·subst e;have hp:p<os.length:=by
    have:=(Zj.mp h).1;rw[ZP]at this;exact this
   rw[ZK hp]at h;cases h;exact(xWP x (ZK (by rw[n.len];exact hp)) ax)
  ·rw[ZJ e]at h;obtain⟨y,h1,h2⟩:=n.row i m h;exact(xWP y (by rw[ZJ e];exact h1) (g _ _ (Zg h1) h2))
 nd:=sW n.nd hxr p
 nin:=λz=>by
  rcases List.mem_or_eq_of_mem_set z with z | z
  ·exact n.nin z
  ·exact hxo z.symm
 new:=n.new
 news:=λy hy=>by
  rcases List.mem_or_eq_of_mem_set hy with z | z
  ·exact n.news y z
  ·subst z;exact hx
theorem GE(l:List Nat){k:Nat}(h:k<=l.length):oV (vns l) (some (k:Int)) none=vns (l.drop k):=by
 unfold oV;have e:(vns l).length=l.length:=Zq _;rw[HT.pE,HT.l9,e,Nat.min_eq_left h];have e2:(vns l).drop k=vns (l.drop k):=by unfold vns;rw[List.map_drop]
 rw[e2];exact List.take_of_length_le (by rw[Zq,Yp];exact ZC _)
theorem M7(l:List Nat){k:Nat}(h:k<=l.length):oV (vns l) none (some (k:Int))=vns (l.take k):=by
 unfold oV;have e:(vns l).length=l.length:=Zq _;rw[HT.pE,HT.l9,e,Nat.min_eq_left h,List.drop_zero,Nat.sub_zero];unfold vns;rw[List.map_take]
theorem eV{n j:Nat}(h:j<n):ixN n (j:Int)=some j:=by
 unfold ixN;rw[Yb (by lia),Yb (by lia)];simp
theorem EF(l:List Nat)(k:Nat):(l.drop k++l.take k).Perm l:=by
 have h:=List.perm_append_comm (l₁:=l.drop k) (l₂:=l.take k);rw[List.take_append_drop]at h;exact h
end L2
namespace MM
theorem jZ{α:Type}{l:List α}{i j:Nat}{x d:α}(h:i≠j):(l.set i x).getD j d=l.getD j d:=by
 rw[Zv,Zv,ZJ h]
theorem iN{α:Type}{l:List α}{i:Nat}{x d:α}(h:i<l.length):(l.set i x).getD i d=x:=by
 rw[Zv,ZK h];rfl
theorem Good.tie{ts:aV}{os:aR}(g:Good ts os){i:Nat}(hi:i<ts.length):(ts.getD i (0,0)).1<os.length/\(ts.getD i (0,0)).2<os.length:=by
 have h1:=(g.g.has (2*i) (by lia)).1;have h2:=(g.g.has (2*i+1) (by lia)).1;unfold place at h1 h2;rw[Yb (by lia),show 2*i / 2=i by lia]at h1;rw[Ya (by lia),show(2*i+1) / 2=i by lia]at h2;exact⟨h1,h2⟩
theorem JE(U:Nat->Nat)(fl:List Nat)(f:Nat):(ZR (2*(fl.length+1))).map (λe=>L2.vn (nmF U (λk=>(fl++[f]).getD k 0) e)) =
  (ZR (2*fl.length)).map (λe=>L2.vn (nmF U (λk=>fl.getD k 0) e))++[L2.vn (2*U fl.length+f),L2.vn (2*U fl.length+(1-f))]:=by
 have e:2*(fl.length+1)=2*fl.length+1+1:=by lia
 rw[e,ZH,ZH,Zt,Zt,Yn];have h0:(fl++[f]).getD fl.length 0=f:=by simp[List.getD]
 have e1:nmF U (λk=>(fl++[f]).getD k 0) (2*fl.length)=2*U fl.length+f:=by
  unfold nmF;rw[Yb (by lia),show 2*fl.length / 2=fl.length by lia];show 2*U fl.length+(fl++[f]).getD fl.length 0=_;rw[h0]
 have e2:nmF U (λk=>(fl++[f]).getD k 0) (2*fl.length+1)=2*U fl.length+(1-f):=by
  unfold nmF;rw[Ya (by lia),show(2*fl.length+1) / 2=fl.length by lia];show 2*U fl.length+(1-(fl++[f]).getD fl.length 0)=_;rw[h0]
 have e3:(ZR (2*fl.length)).map (λe=>L2.vn (nmF U (λk=>(fl++[f]).getD k 0) e))=(ZR (2*fl.length)).map (λe=>L2.vn (nmF U (λk=>fl.getD k 0) e)):=by
  refine Ys λx hx=>?_;have hx':=Zs.mp hx;have q:(fl++[f]).getD (x / 2) 0=fl.getD (x / 2) 0:=by
   have:x / 2<fl.length:=by lia
   simp[List.getD,Zx this]
  unfold nmF;show L2.vn (2*U (x / 2)+(if x%2=0 then (fl++[f]).getD (x / 2) 0 else 1-(fl++[f]).getD (x / 2) 0))=_;rw[q]
 rw[e3];congr 1;show[L2.vn _,L2.vn _]=_;rw[e1,e2]
end MM
namespace K32
open PySem L2 PyProof.Rows
def BS:Sp:=λvs H Q _=>∃(ta oa:Addr) (c:Int) (ts:MM.aV) (os:MM.aR),vs=[.ref ta,.ref oa,.int c]/\gM H ta ts/\oH H oa os/\MM.Good ts os/\ts.length<=400/\os.length<=400 /\
 ∀(r tA oA:Addr) (rr:List Addr) (ts':MM.aV) (os':MM.aR) (H':Hp),aJ H H'->H' r=some (.tup [vn os.length,.ref tA,.ref oA])->nB H H' tA oA rr ts' os'->MM.Good ts' os'->ts'.length=ts.length->os'.length=os.length->(MM.dS ts' os'=MM.dS ts os/\(MM.jF ts os->MM.jF ts' os'))->Q (.ref r) H'
theorem vR(T:Txt K mg t):Ok P w base T 84 2 BS:=by
 refine T.okN 84 (scm:cV ["_law_ties","_law_orders","_law_cell","_law_places","_law_numbers","_law_names","_law_told","_law_k","_law_a","_law_b","_law_flip","_law_rows","_law_place_here","_law_order","_law_at"] _ _) (λvs H Q E h=>?_) ?_
 ·obtain⟨ta,oa,c,ts,os,rfl,_⟩:=h;rfl
 intro cdv A outer s H vs Q E hr h nd X;obtain⟨ta,oa,c,ts,os,rfl,ht,ho,g,ht400,ho400,q⟩:=h;refine(xWP _ (by exists 3,qR,dG,2,1,4,qR,dG,2,0,5,(e8 6 ["_law_tie"] [none]),a7 ?_,0,0,cL rfl (T.z 3) ?_,0,7,8,9,10,dG,2,aX,7,dF ?_ ?_,aI,aI,3,8,aI,3,9,aI,3,9,aI,3,8,10,eT ?_ ?_ set_list,6,aI,4,7,5,qN,5,aX,aI,4,7,10,aX,aI,4,7,10,(e8 11 ["_law_order"] [none]),a7 ?_,1,0,cL rfl (T.z 3) ?_,1,12,13,14,dG,2,aX,12,13,dF ?_ ?_,(fZ ["_law_end","_law_names"] [none,some 5]),a7 ?_,qN,mJ pD (pv 13) ?_ pH,pG (pv 14),mJ pD (pv 13) pH ?_,pG (pv 14),0,aI,1,0,eT ?_ ?_ set_list,11,aI,3,12,1,6,11) ?_);obtain⟨tr,tr1,tr2,tr3⟩:=id ht;obtain⟨rr,rr1,rr2,rr3⟩:=id ho;have trl:(tr.map V.ref).length=ts.length:=by rw[Zq];exact tr2
 have rrl:(rr.map V.ref).length=os.length:=by rw[Zq];exact rr2
 refine(aP c 0 rfl (by decide) (by decide) (λm0 hm0 _=>(bV oa _ rfl (.inl (SqL.of rr1)) m0 ((rr.map V.ref).length) rfl hm0 (by lia) (λpr ps hpr hpn hpl hpe=>?_))));have g1:=aB hpr (.lst (vns ps));refine(aP c 1 rfl (by decide) (by decide) (λm1 hm1 _=>(bV ta _ rfl (.inl (SqL.of (g1 _ _ tr1))) m1 ((tr.map V.ref).length) rfl hm1 (by lia) (λnr nu hnr hnn hnl hne=>?_))));rw[trl]at hnl hne;rw[rrl]at hpl hpe;have g2:=aB hnr (.lst (vns nu));have mP:MM.bX (λi=>ps.getD i 0) os.length:=by have:=MM.AN hpn (by rw[hpe];exact hpl);rw[hpe]at this;exact this
 have mU:MM.bX (λi=>nu.getD i 0) ts.length:=by have:=MM.AN hnn (by rw[hne];exact hnl);rw[hne]at this;exact this
 refine⟨(by show 0<=ZW;decide),λna0 hna0=>?_⟩;have g3:=aB hna0 (.lst []);have k1:(upd (upd (upd H pr (.lst (vns ps))) nr (.lst (vns nu))) na0 (.lst [])) pr=some (.lst (vns ps)):=g3 _ _ (g2 _ _ aA);have k2:(upd (upd (upd H pr (.lst (vns ps))) nr (.lst (vns nu))) na0 (.lst [])) nr=some (.lst (vns nu)):=g3 _ _ aA;have k3:(upd (upd (upd H pr (.lst (vns ps))) nr (.lst (vns nu))) na0 (.lst [])) na0=some (.lst []):=aA;have g4:=(g1.trans g2).trans g3;generalize upd (upd (upd H pr (.lst (vns ps))) nr (.lst (vns nu))) na0 (.lst [])=H4 at k1 k2 k3 g4;clear g1 g2 g3 hpr hnr hna0;have atP:∀x,x<os.length->atI (vns ps) (x:Int)=some (vn (ps.getD x 0)):=λx hx=>j4 (by lia) rfl;have atU:∀x,x<ts.length->atI (vns nu) (x:Int)=some (vn (nu.getD x 0)):=λx hx=>j4 (by lia) rfl;refine⟨⟨_,SqL.of (g4 _ _ tr1)⟩,λD hD=>?_⟩
 let Pv1:Nat->List L2.V->L2.Hp->Prop:=λi ys H'=>gM H' D (ZF i (0,0))/\H' D=some (.lst ys)/\aJ H4 H'
 refine comp_map ts.length Pv1 (xPP (aQ ([]) aA rfl (λi t h=>by simp at h)) aA (aB hD _)) ?_ ?_
 ·rintro i ys H' hi ⟨h1,h2,h3⟩;have hx:(tr.map V.ref)[i]?=some (.ref (tr[i]'(by lia))):=by rw[Zk,Zz (by lia)];rfl
  refine⟨(cG _ _ (SqL.of (h3 _ _ (g4 _ _ tr1))) hx),?_⟩;rintro x H'' ⟨rfl,hx'⟩;refine⟨(Fills.refl _).set _ rfl,?_⟩;refine⟨(by show 2<=ZW;decide),λtp htp=>?_⟩;have g5:=aB htp (.tup [vn 0,vn 0]);have h1':=(g5.ts h1).push (t:=(0,0)) (g5 _ _ h2) aA;obtain⟨tr',e1,e2,_⟩:=id h1;have hyl:ys.length=i:=by
   rw[h2]at e1;cases e1;rw[Zq,e2,List.length_replicate]
  refine(bU (g5 _ _ h2) (by rw[hyl];exact Xz hi (YQ ht400 (by decide))) ?_ aA ?_)
  ·rw[List.replicate_succ'];exact h1'
  ·exact λb o h=>by rw[aE (aC h hD)];exact g5 _ _ (h3 _ _ h)
 rintro ys H5 ⟨t5,d5,g5⟩;refine⟨(xWP _ (SqL.of (g5 _ _ (g4 _ _ tr1))) (by rw[trl];exact ZC _)),?_⟩;have naD:na0≠D:=aC k3 hD
 let Pv2:Nat->L2.St->L2.Hp->Prop:=λi σ H'=>∃(na:Addr) (fl:List Nat) (td:MM.aV) (o7 o8 o9 o10:Option V),
   σ=[some (.ref ta),some (.ref oa),some (.int c),some (.ref pr),some (.ref nr),some (.ref na),some (.ref D),o7,o8,o9,o10,none,none,none,none]/\aJ H4 H'/\fl.length=i/\(∀f∈fl,f<=1)/\na≠D /\
   H' na=some (.lst ((ZR (2*i)).map λe=>vn (MM.nmF (λk=>nu.getD k 0) (λk=>fl.getD k 0) e)))/\gM H' D td/\td.length=ts.length /\
   ∀k,k<i->td.getD (nu.getD k 0) (0,0)=if fl.getD k 0=0 then (ps.getD (ts.getD k (0,0)).1 0,ps.getD (ts.getD k (0,0)).2 0) else (ps.getD (ts.getD k (0,0)).2 0,ps.getD (ts.getD k (0,0)).1 0)
 refine(aQ ta rfl ⟨_,SqL.of (g5 _ _ (g4 _ _ tr1))⟩ (dD (xs:=tr.map V.ref) Pv2
  (cQ na0 ([]) _ none none none none rfl g5 (iA rfl (λf hf=>by cases hf) naD (g5 _ _ k3) t5 (by simp) (λk hk=>Yg hk (Nat.not_lt_zero _)))) (λi σ H' _ h=>by obtain⟨na,fl,td,o7,o8,o9,o10,_,h1,_⟩:=h;exact SqL.of (h1 _ _ (g4 _ _ tr1))) ?_ ?_))
 ·rintro i x σ H6 Tt hx ⟨na,fl,td,o7,o8,o9,o10,rfl,s6,hfl,hf1,nD,en,td6,tdl,hv⟩ hTt;have hi:i<ts.length:=by have:=(Zj.mp hx).1;lia
  obtain⟨rt,rt1,rt2⟩:=tr3 i _ (Zz hi);have ex:x=.ref rt:=by rw[Zk,rt1]at hx;cases hx;rfl
  subst ex;have tab:=g.tie hi;have hget:ts.getD i (0,0)=ts[i]:=by simp only[List.getD,Zz hi,YR]
  rw[<-hget]at rt2;have hUi:=mU.lt i hi;have gT:=aB hTt (.tup [vn i,.ref rt]);refine(aQ _ (SqT.of aA) rfl (aQ _ (SqT.of (gT _ _ (s6 _ _ (g4 _ _ rt2)))) rfl ?_));refine(aP c (70+(i:Int)) rfl (by lia) (by lia) (λm2 hm2 _=>⟨(by show(0:Int)<2;decide),?_⟩));obtain⟨f,ef,hf⟩:∃f:Nat,m2%2=(f:Int)/\f<=1:=(xWP ((m2%2).toNat) (by lia) (by lia))
  show b0 10 (V.int (m2%2)) _ _ _;rw[ef];have s7:=s6.trans gT;have td7:=gT.ts td6;have en7:=gT _ _ en;generalize upd H6 Tt (.tup [vn i,.ref rt])=H7 at s7 td7 en7;refine(bV _ _ (SqL.of (s7 _ _ k1)) (atP _ tab.1) _ _ (SqL.of (s7 _ _ k1)) (atP _ tab.2) (by show 2<=ZW;decide) (λp1 hp1=>?_));have gp1:=aB hp1 (.tup [vn (ps.getD (ts.getD i (0,0)).1 0),vn (ps.getD (ts.getD i (0,0)).2 0)]);refine(bV _ _ (SqL.of (gp1 _ _ (s7 _ _ k1))) (atP _ tab.2) _ _ (SqL.of (gp1 _ _ (s7 _ _ k1))) (atP _ tab.1) (by show 2<=ZW;decide) (λp2 hp2=>?_));have gp2:=aB hp2 (.tup [vn (ps.getD (ts.getD i (0,0)).2 0),vn (ps.getD (ts.getD i (0,0)).1 0)]);refine⟨(by show 2<=ZW;decide),λpl hpl=>?_⟩;have gp3:=aB hpl (.lst [.ref p1,.ref p2]);have hat:atI [V.ref p1,V.ref p2] (f:Int)=some (.ref (if f=0 then p1 else p2)):=by
   have:f=0\/f=1:=by lia
   rcases this with rfl | rfl<;>rfl
  have s8:=s7.trans ((gp1.trans gp2).trans gp3);have td8:=((gp1.trans gp2).trans gp3).ts td7;have en8:=gp3 _ _ (gp2 _ _ (gp1 _ _ en7));have htu:(upd (upd (upd H7 p1 (.tup [vn (ps.getD (ts.getD i (0,0)).1 0),vn (ps.getD (ts.getD i (0,0)).2 0)])) p2 (.tup [vn (ps.getD (ts.getD i (0,0)).2 0),vn (ps.getD (ts.getD i (0,0)).1 0)])) pl (.lst [.ref p1,.ref p2])) (if f=0 then p1 else p2) =
    some (.tup [vn (if f=0 then (ps.getD (ts.getD i (0,0)).1 0,ps.getD (ts.getD i (0,0)).2 0) else (ps.getD (ts.getD i (0,0)).2 0,ps.getD (ts.getD i (0,0)).1 0)).1,vn (if f=0 then (ps.getD (ts.getD i (0,0)).1 0,ps.getD (ts.getD i (0,0)).2 0) else (ps.getD (ts.getD i (0,0)).2 0,ps.getD (ts.getD i (0,0)).1 0)).2]):=by
   by_cases hz:f=0
   ·rw[Yb hz,Yb hz];exact gp3 _ _ (gp2 _ _ aA)
   ·rw[Ya hz,Ya hz];exact gp3 _ _ aA
  have epl:(upd (upd (upd H7 p1 (.tup [vn (ps.getD (ts.getD i (0,0)).1 0),vn (ps.getD (ts.getD i (0,0)).2 0)])) p2 (.tup [vn (ps.getD (ts.getD i (0,0)).2 0),vn (ps.getD (ts.getD i (0,0)).1 0)])) pl (.lst [.ref p1,.ref p2])) pl=some (.lst [.ref p1,.ref p2]):=aA;generalize upd (upd (upd H7 p1 (.tup [vn (ps.getD (ts.getD i (0,0)).1 0),vn (ps.getD (ts.getD i (0,0)).2 0)])) p2 (.tup [vn (ps.getD (ts.getD i (0,0)).2 0),vn (ps.getD (ts.getD i (0,0)).1 0)])) pl (.lst [.ref p1,.ref p2])=H8 at s8 td8 en8 htu epl;obtain⟨tq,tq1,tq2,_⟩:=id td8;refine(bO _ _ (SqL.of epl) hat _ _ (SqL.of (s8 _ _ k2)) (atU _ hi) (aH _ (nu.getD i 0) tq1 (eV (by rw[Zq,tq2,tdl];exact hUi)) ?_));have td9:=td8.set (j:=nu.getD i 0) tq1 htu;have s9:aJ H4 (upd H8 D (.lst ((tq.map V.ref).set (nu.getD i 0) (.ref (if f=0 then p1 else p2))))):=λb u h=>by rw[aE (aC h hD)];exact s8 _ _ h
  have en9:(upd H8 D (.lst ((tq.map V.ref).set (nu.getD i 0) (.ref (if f=0 then p1 else p2))))) na=some (.lst ((ZR (2*i)).map λe=>vn (MM.nmF (λk=>nu.getD k 0) (λk=>fl.getD k 0) e))):=by rw[aE nD];exact en8
  generalize upd H8 D (.lst ((tq.map V.ref).set (nu.getD i 0) (.ref (if f=0 then p1 else p2))))=H9 at td9 s9 en9;refine(aH _ _ (SqL.of (s9 _ _ k2)) (atU _ hi) (i3 (.inl ⟨by decide,by decide⟩) _ _ (SqL.of (s9 _ _ k2)) (atU _ hi) (xPP (.inl ⟨by decide,by decide⟩) (by show 2<=ZW;decide) (λnl hnl=>?_))));have v1:V.int (2*((nu.getD i 0:Nat):Int)+(f:Int))=vn (2*nu.getD i 0+f):=by show V.int _=V.int _;congr 1
  have v2:V.int (2*((nu.getD i 0:Nat):Int)+1-(f:Int))=vn (2*nu.getD i 0+(1-f)):=by show V.int _=V.int _;congr 1;lia
  have gn1:=aB hnl (.lst [V.int (2*((nu.getD i 0:Nat):Int)+(f:Int)),V.int (2*((nu.getD i 0:Nat):Int)+1-(f:Int))]);refine(aP _ _ (gn1 _ _ en9) aA ?_ (λnb hnb=>?_))
  ·rw[Zq,Yj];exact YQ (by show 2*i+2<=1000;lia) (by decide)
  have gn2:=aB hnb (.lst (((ZR (2*i)).map λe=>vn (MM.nmF (λk=>nu.getD k 0) (λk=>fl.getD k 0) e))++[V.int (2*((nu.getD i 0:Nat):Int)+(f:Int)),V.int (2*((nu.getD i 0:Nat):Int)+1-(f:Int))]));obtain⟨tq',tq1',_,_⟩:=id td9;refine(cQ nb (fl++[f]) _ _ _ _ _ rfl (s9.trans (gn1.trans gn2)) (iA (by rw[Zm,hfl];rfl) ?_ ((aC (gn1 _ _ tq1') hnb).symm) ?_ ((gn1.trans gn2).ts td9) (by rw[ZP];exact tdl) ?_))
  ·intro z hz;rcases Zf.mp hz with hz | hz
   ·exact hf1 z hz
   ·have:z=f:=by simpa using hz
    lia
  ·rw[aA];show some (HO.lst (((ZR (2*i)).map λe=>vn (MM.nmF (λk=>nu.getD k 0) (λk=>fl.getD k 0) e))++[V.int (2*((nu.getD i 0:Nat):Int)+(f:Int)),V.int (2*((nu.getD i 0:Nat):Int)+1-(f:Int))]))=_;rw[v1,v2];subst hfl;rw[MM.JE]
  ·intro k hk;subst hfl;rcases Xk k fl.length with hk' | hk'
   ·have ne:nu.getD fl.length 0≠nu.getD k 0:=λz=>by have:=mU.inj _ _ hi (by lia) z;lia
    have e1:(fl++[f]).getD k 0=fl.getD k 0:=by simp[List.getD,Zx hk']
    have e2:∀z:Nat×Nat,(td.set (nu.getD fl.length 0) z).getD (nu.getD k 0) (0,0)=td.getD (nu.getD k 0) (0,0):=λz=>MM.jZ ne;rw[e1,e2];exact hv k hk'
   ·have ek:k=fl.length:=by lia
    subst ek;have e1:(fl++[f]).getD fl.length 0=f:=by simp[List.getD]
    have e2:∀z:Nat×Nat,(td.set (nu.getD fl.length 0) z).getD (nu.getD fl.length 0) (0,0)=z:=λz=>MM.iN (by rw[tdl];exact hUi);rw[e1,e2]
 ·rintro σ H6 ⟨na,fl,td,o7,o8,o9,o10,rfl,s6,hfl,hf1,nD,en,td6,tdl,hv⟩;rw[trl]at hfl hv en;have hF:∀k,(λk=>fl.getD k 0) k<=1:=λk=>by
   show fl.getD k 0<=1;rw[Zv];cases hk:fl[k]? with
   |none=>simp
   |some z=>exact hf1 z (Zg hk)
  have hNM:=MM.qV mU hF;generalize hnm:MM.nmF (λk=>nu.getD k 0) (λk=>fl.getD k 0)=NM at en hNM;have s0:=g4.trans s6;refine⟨⟨_,SqL.of (s0 _ _ rr1)⟩,λD2 hD2=>?_⟩
  let Pv3:Nat->List L2.V->L2.Hp->Prop:=λi ys H'=>∃rr':List Addr,ys=rr'.map V.ref/\cD H6 H' D2 rr' (ZF i [])/\aJ H6 H'
  refine comp_map os.length Pv3 (aQ ([]) rfl ⟨aA,rfl,λi l h=>by simp at h,List.nodup_nil,by simp,hD2,λx hx=>by cases hx⟩ (aB hD2 _)) ?_ ?_
  ·rintro i ys H' hi ⟨rr',rfl,n',g'⟩;have hx:(rr.map V.ref)[i]?=some (.ref (rr[i]'(by lia))):=by rw[Zk,Zz (by lia)];rfl
   refine⟨(cG _ _ (SqL.of (g' _ _ (s0 _ _ rr1))) hx),?_⟩;rintro x H'' ⟨rfl,hx'⟩;refine⟨(Fills.refl _).set _ rfl,?_⟩;refine⟨(by show 0<=ZW;decide),λnl hnl=>?_⟩;have g5:=aB hnl (.lst []);have nlr:nl∉rr':=λz=>by obtain⟨l,hl⟩:=n'.ex z;rw[hnl]at hl;cases hl
   have nlo:nl≠D2:=(aC n'.at_ hnl).symm;refine(C8 (g5 _ _ n'.at_) ?_ (rr'++[nl]) (by rw[Zt];rfl) ?_ ?_)
   ·rw[Zq,n'.len,List.length_replicate];exact Xz hi (YQ ho400 (by decide))
   ·rw[List.replicate_succ'];exact n'.push (x:=nl) (l:=[]) (g'.free hnl) nlr nlo (by rw[aA,Zt];rfl) (by rw[aE nlo];exact aA) λb u hb h=>by rw[aE (show b≠D2 from λz=>n'.nin (z▸hb))];exact g5 _ _ h
   ·exact λb o h=>by rw[aE (aC h hD2)];exact g5 _ _ (g' _ _ h)
  rintro ys H7 ⟨rr7,rfl,n7,g7⟩;refine⟨(xWP _ (SqL.of (g7 _ _ (s0 _ _ rr1))) (by rw[rrl];exact ZC _)),?_⟩
  let Pv4:Nat->L2.St->L2.Hp->Prop:=λi σ H'=>∃(rr':List Addr) (rows:MM.aR) (o12 o13 o14:Option V),
    σ=[some (.ref ta),some (.ref oa),some (.int c),some (.ref pr),some (.ref nr),some (.ref na),some (.ref D),o7,o8,o9,o10,some (.ref D2),o12,o13,o14]/\aJ H6 H'/\cD H6 H' D2 rr' rows/\rows.length=os.length /\
    ∀p,p<i->∃l:List Nat,MM.row rows (ps.getD p 0)=l.map NM/\MM.Rot l (MM.row os p)
  refine(aQ oa rfl ⟨_,SqL.of (g7 _ _ (s0 _ _ rr1))⟩ (dD (xs:=rr.map V.ref) Pv4
   (bB rr7 _ none none none rfl g7 n7 (by simp) (λp hp=>Yg hp (Nat.not_lt_zero _))) (λi σ H' _ h=>by obtain⟨rr',rows,o12,o13,o14,_,h1,_⟩:=h;exact SqL.of (h1 _ _ (s0 _ _ rr1))) ?_ ?_))
  ·rintro i x σ H8 Tt hx ⟨rr',rows,o12,o13,o14,rfl,s8,n8,rl8,hw⟩ hTt;have hi:i<os.length:=by have:=(Zj.mp hx).1;lia
   obtain⟨xo,xo1,xo2⟩:=rr3 i _ (Zz hi);have ex:x=.ref xo:=by rw[Zk,xo1]at hx;cases hx;rfl
   subst ex;have hrow:MM.row os i=os[i]:=by unfold MM.row;rw[Zv,Zz hi];rfl
   rw[<-hrow]at xo2;have hfull:=g.g.full i hi;have hfour:=g.g.four i;have hlt:∀e∈MM.row os i,e<2*ts.length:=λe he=>(g.g.ends i e he).1;generalize hord:MM.row os i=ord at xo2 hfull hfour hlt;have hPi:=mP.lt i hi;have gT:=aB hTt (.tup [vn i,.ref xo]);have s9:=s8.trans gT;have n9:cD H6 (upd H8 Tt (.tup [vn i,.ref xo])) D2 rr' rows:=n8.keep λb u _ h=>gT _ _ h;refine(aQ _ (SqT.of aA) rfl ?_);generalize upd H8 Tt (.tup [vn i,.ref xo])=H9 at s9 n9;have exo:=s9 _ _ (s0 _ _ xo2);have ordl:(vns ord).length=ord.length:=Zq _;have ordp:0<ord.length:=List.length_pos_iff.mpr hfull;refine(aP c (90+(i:Int)) rfl (by lia) (by lia) (λd hd0 hd1=>(aP xo _ rfl (.inl (SqL.of exo)) (by show(0:Int)<((vns ord).length:Nat);lia) ?_)));obtain⟨k,hk,ek⟩:=MM.nS d (n:=(vns ord).length) (by lia);show b0 14 (V.int (d%((vns ord).length:Nat))) _ _ _;rw[ek];refine(xWP _ (SqL.of exo) (λs1 hs1=>?_));rw[GE ord (by lia)];have gs1:=aB hs1 (.lst (vns (ord.drop k)));refine(xWP _ (SqL.of (gs1 _ _ exo)) (λs2 hs2=>?_));rw[M7 ord (by lia)];have gs2:=aB hs2 (.lst (vns (ord.take k)));refine(aP _ _ (gs2 _ _ aA) aA ?_ (λrl hrl=>?_))
   ·rw[Zq,Zq,Yp,Yw];exact YQ (by lia:_<=100) (by decide)
   rw[<-kI];have gs3:=aB hrl (.lst (vns (ord.drop k++ord.take k)));have hperm:=EF ord k;have s10:=s9.trans ((gs1.trans gs2).trans gs3);have n10:cD H6 (upd (upd (upd H9 s1 (.lst (vns (ord.drop k)))) s2 (.lst (vns (ord.take k)))) rl (.lst (vns (ord.drop k++ord.take k)))) D2 rr' rows:=n9.keep λb u _ h=>gs3 _ _ (gs2 _ _ (gs1 _ _ h));have erl:(upd (upd (upd H9 s1 (.lst (vns (ord.drop k)))) s2 (.lst (vns (ord.take k)))) rl (.lst (vns (ord.drop k++ord.take k)))) rl=some (.lst (vns (ord.drop k++ord.take k))):=aA;generalize upd (upd (upd H9 s1 (.lst (vns (ord.drop k)))) s2 (.lst (vns (ord.take k)))) rl (.lst (vns (ord.drop k++ord.take k)))=H10 at s10 n10 erl;have hrot:MM.Rot (ord.drop k++ord.take k) ord:=⟨k,rfl⟩
   generalize ord.drop k++ord.take k=rot at erl hperm hrot;refine⟨⟨_,SqL.of erl⟩,λD3 hD3=>?_⟩
   let Pv5:Nat->List L2.V->L2.Hp->Prop:=λi ys H'=>ys=vns ((rot.take i).map NM)/\H'=upd H10 D3 (.lst ys)
   refine comp_map rot.length Pv5 ⟨rfl,rfl⟩ ?_ ?_
   ·rintro j ys H' hj ⟨rfl,rfl⟩;have gD:=aB hD3 (.lst (vns ((rot.take j).map NM)));have hx:(vns rot)[j]?=some (vn rot[j]):=by rw[Zk,Zz hj];rfl
    refine⟨(cG _ _ (SqL.of (gD _ _ erl)) hx),?_⟩;rintro x' H'' ⟨rfl,hx'⟩;have e6:=hx' _ (SqL.of (gD _ _ erl));rw[hx]at e6;cases e6;have hjl:=hlt rot[j] (hperm.mem_iff.mp (Zp hj));have hat:atI ((ZR (2*ts.length)).map λe=>vn (NM e)) ((rot[j]:Nat):Int)=some (vn (NM rot[j])):=bM (by rw[Zk,Yk hjl];rfl);have hrl5:rot.length<=4:=by rw[hperm.length_eq];exact hfour
    refine⟨(Fills.refl _).set _ rfl,?_⟩;refine(hJ _ _ (SqL.of (gD _ _ (s10 _ _ en))) hat aA ?_ ?_ ?_)
    ·rw[Zq,Zq,Yw];exact Xq (by lia:_<=4) (by decide)
    ·rw[List.take_add_one,Zz hj,Zt,kI];rfl
    ·rw[iB]
   ·rintro ys H' ⟨rfl,rfl⟩;rw[Yv];have gD:=aB hD3 (.lst (vns (rot.map NM)));refine⟨(xWP _ (SqL.of (gD _ _ erl)) (by rw[Zq];exact ZC _)),?_⟩;have D3r:D3∉rr':=λz=>by obtain⟨l,hl⟩:=n10.ex z;rw[hD3]at hl;cases hl
    have D3o:D3≠D2:=(aC n10.at_ hD3).symm;refine(aH _ _ (SqL.of (gD _ _ (s10 _ _ (s6 _ _ k1)))) (atP i hi) (aH _ (ps.getD i 0) (gD _ _ n10.at_) (eV (by rw[Zq,n10.len,rl8];exact hPi)) ?_));have n11:=n10.setRef (x:=D3) (l:=rot.map NM) (p:=ps.getD i 0) (H2:=upd (upd H10 D3 (.lst (vns (rot.map NM)))) D2 (.lst ((rr'.map V.ref).set (ps.getD i 0) (.ref D3)))) (s10.free hD3) D3r D3o (by rw[aA,ZG]) (by rw[aE D3o];exact aA)
     λb u hb h=>by rw[aE (show b≠D2 from λz=>n10.nin (z▸hb))];exact gD _ _ h
    refine(bB _ _ _ _ _ rfl ?_ n11 (by rw[ZP];exact rl8) (λp hp=>?_))
    ·exact λb u h=>by rw[aE (aC h hD2)];exact gD _ _ (s10 _ _ h)
    ·rcases Xk p i with hp' | hp'
     ·have ne:ps.getD p 0≠ps.getD i 0:=λz=>by have:=mP.inj p i (by lia) hi z;lia
      rw[MM.dZ ne];exact hw p hp'
     ·have ep:p=i:=by lia
      subst ep;rw[MM.cK (by rw[rl8];exact hPi),hord];exact(xWP rot rfl hrot)
  ·rintro σ H8 ⟨rr',rows,o12,o13,o14,rfl,s8,n8,rl8,hw⟩;rw[rrl]at hw;refine(aP oa _ rfl (.inl (SqL.of (s8 _ _ (s0 _ _ rr1)))) (by show 3<=ZW;decide) (λr hr'=>?_));have gr:=aB hr' (.tup [.int ((rr.map V.ref).length:Nat),.ref D,.ref D2]);obtain⟨tq,tq1,_,_⟩:=id td6;have nb:cD H (upd H8 r (.tup [.int ((rr.map V.ref).length:Nat),.ref D,.ref D2])) D2 rr' rows :=
    ⟨gr _ _ n8.at_,n8.len,(n8.keep (λb u _ h=>gr _ _ h)).row,n8.nd,n8.nin,s0.free n8.new,λx hx=>s0.free (n8.news x hx)⟩
   refine q r D D2 rr' td rows _ ((s0.trans s8).trans gr) (by rw[aA,rrl]) ⟨(s8.trans gr).ts td6,nb,g4.free hD,aC tq1 hD2,λz=>by have:=n8.news D z;rw[tq1]at this;cases this⟩ ?_ tdl rl8 ?_
   ·refine MM.mD g mU hF mP tdl rl8 hv λp hp=>?_;obtain⟨l,h1,h2⟩:=hw p hp;rw[hnm];exact(xWP l h1 h2.perm)
   ·refine MM.rT g mU hF mP tdl rl8 hv ?_;rw[hnm];exact hw
end K32
namespace MM
theorem good2:Good [(0,1)] [[0],[1]] where
 one:=ZC _
 g:={
  ends:=λp e he=>by
   match p,he with
   |0,he =>
    have h:e=0:=by simpa[row] using he
    subst h;exact⟨by decide,rfl⟩
   |1,he =>
    have h:e=1:=by simpa[row] using he
    subst h;exact⟨by decide,rfl⟩
   |p+2,he=>simp[row]at he
  has:=λe he=>by
   have:e=0\/e=1:=by simp at he;lia
   rcases this with rfl | rfl<;>exact⟨by decide,by decide⟩
  nd:=λp=>by
   match p with
   |0=>decide
   |1=>decide
   |p+2=>simp[row]
  full:=λp hp=>by
   match p,hp with
   |0,_=>decide
   |1,_=>decide
   |p+2,hp=>exact Yg hp (by show ¬p+2<2;lia)
  four:=λp=>by
   match p with
   |0=>decide
   |1=>decide
   |p+2=>simp[row] }
theorem KP:Good [(0,0)] [[0,1]] where
 one:=ZC _
 g:={
  ends:=λp e he=>by
   match p,he with
   |0,he =>
    have h:e=0\/e=1:=by simpa[row] using he
    rcases h with rfl | rfl<;>exact⟨by decide,rfl⟩
   |p+1,he=>simp[row]at he
  has:=λe he=>by
   have:e=0\/e=1:=by simp at he;lia
   rcases this with rfl | rfl<;>exact⟨by decide,by decide⟩
  nd:=λp=>by
   match p with
   |0=>decide
   |p+1=>simp[row]
  full:=λp hp=>by
   match p,hp with
   |0,_=>decide
   |p+1,hp=>exact Yg hp (by show ¬p+1<1;lia)
  four:=λp=>by
   match p with
   |0=>decide
   |p+1=>simp[row] }
theorem OV:Flat [(0,1)] [[0],[1]]:=by
 have f0:behind [(0,1)] [[0],[1]] 0=1:=by decide
 have f1:behind [(0,1)] [[0],[1]] 1=0:=by decide
 have m:=good2.maps;have a:oW (behind [(0,1)] [[0],[1]]) (ZR 2) [0]:=by
  refine⟨by simp,by simp,λx hx=>(xWP 0 (by simp) ?_),λr hr r' hr' _=>?_⟩
  ·have hx:=Zs.mp hx;rw[bG m (by decide)]
   match x,hx with
   |0,_=>exact⟨0,rfl⟩
   |1,_=>exact⟨1,f0⟩
  ·rw[Zb]at hr hr';rw[hr,hr']
 have c:=gF (N:=2) m a;show 2+(aT (behind [(0,1)] [[0],[1]]) 2).length=3;rw[c];rfl
theorem OW:Flat [(0,0)] [[0,1]]:=by
 have f0:behind [(0,0)] [[0,1]] 0=0:=by decide
 have f1:behind [(0,0)] [[0,1]] 1=1:=by decide
 have m:=KP.maps;have i0:∀k,iter (behind [(0,0)] [[0,1]]) k 0=0:=λk=>by
  induction k with
  |zero=>rfl
  |succ k ih=>show behind _ _ (iter _ k 0)=0;rw[ih,f0]
 have i1:∀k,iter (behind [(0,0)] [[0,1]]) k 1=1:=λk=>by
  induction k with
  |zero=>rfl
  |succ k ih=>show behind _ _ (iter _ k 1)=1;rw[ih,f1]
 have a:oW (behind [(0,0)] [[0,1]]) (ZR 2) [0,1]:=by
  refine⟨by simp,by simp,λx hx=>(xWP x ?_ (dQ m (Zs.mp hx))),λr hr r' hr' z=>?_⟩
  ·have hx:=Zs.mp hx
   match x,hx with
   |0,_=>simp
   |1,_=>simp
  ·have hr2:r=0\/r=1:=by simpa using hr
   rcases hr2 with rfl | rfl
   ·obtain⟨k,hk⟩:=(bG m (by decide)).mp z;rw[i0]at hk;exact hk
   ·obtain⟨k,hk⟩:=(bG m (by decide)).mp z;rw[i1]at hk;exact hk
 have c:=gF (N:=2) m a;show 1+(aT (behind [(0,0)] [[0,1]]) 2).length=3;rw[c];rfl
theorem fc2:FC [(0,1)] [[0],[1]]:=⟨OV,wW rfl⟩
theorem fc1:FC [(0,0)] [[0,1]]:=⟨OW,wW rfl⟩
end MM
namespace L2
open PySem PyProof.Rows
theorem nB.bse{H0 H1 H:Hp}{a o:Addr}{rr:List Addr}{ts:MM.aV}{os:MM.aR}(m:nB H1 H a o rr ts os)(g:aJ H0 H1):nB H0 H a o rr ts os :=
 ⟨m.ts,⟨m.os.at_,m.os.len,m.os.row,m.os.nd,m.os.nin,g.free m.os.new,λx hx=>g.free (m.os.news x hx)⟩,g.free m.an,m.ao,m.ar⟩
end L2
namespace K32
open PySem L2 PyProof.Rows
def NY:Sp:=λvs H Q _=>∃(sa:Addr) (ns:List Int) (steps most:Int),vs=[.ref sa,.int steps,.int most]/\SqL H sa (ns.map V.int)/\0<=steps/\steps<=30 /\
 ∀(r tA oA:Addr) (rr:List Addr) (ts:MM.aV) (os:MM.aR) (H':Hp),aJ H H'->H' r=some (.tup [vn os.length,.ref tA,.ref oA])->nB H H' tA oA rr ts os->MM.Good ts os->ts.length<=40->os.length<=40->(ts.length:Int)<=steps+1->MM.FC ts os->Q (.ref r) H'
theorem IW(T:Txt K mg t):Ok P w base T 85 5 (NY):=by
 left
 obtain⟨sa,ns,steps,most,rfl,hS,hs0,hs1,q⟩:=h;refine(xWP _ (by exists 3,i8,0,4,5,bY,dG,3,4,5,dG,3,aX,1,6,E9,4,5,dG,i8,0,aX,6,aX,6,2,vR,4,5,i8,0) ?_);refine(dO sa ns 0 rfl hS (by decide) (λc=>?_));refine⟨(by show 2<=ZW;decide),λt0 ht0=>⟨(by show 1<=ZW;decide),λta hta=>?_⟩⟩;have a1:=aB ht0 (.tup [vn 0,vn 1]);have a2:=aB hta (.lst [.ref t0]);refine⟨(by show 1<=ZW;decide),λo0 ho0=>⟨(by show 1<=ZW;decide),λo1 ho1=>⟨(by show 2<=ZW;decide),λoa hoa=>?_⟩⟩⟩;have a3:=aB ho0 (.lst [vn 0]);have a4:=aB ho1 (.lst [vn 1]);have a5:=aB hoa (.lst [.ref o0,.ref o1]);have gA:=(((a1.trans a2).trans a3).trans a4).trans a5;have n01:o0≠o1:=aC aA ho1;have n0a:oa≠o0:=(aC (a4 _ _ aA) hoa).symm;have n1a:oa≠o1:=(aC aA hoa).symm;have mA:nB H (upd (upd (upd (upd (upd H t0 (.tup [vn 0,vn 1])) ta (.lst [.ref t0])) o0 (.lst [vn 0])) o1 (.lst [vn 1])) oa (.lst [.ref o0,.ref o1])) ta oa [o0,o1] [(0,1)] [[0],[1]]:=by
  refine⟨(aQ ([t0]) (a5 _ _ (a4 _ _ (a3 _ _ aA))) rfl (λi u hu=>?_)),⟨aA,rfl,λi u hu=>?_,by simp[n01],by simp[n0a,n1a],?_,λx hx=>?_⟩,a1.free hta,aC (a4 _ _ (a3 _ _ aA)) hoa,λz=>?_⟩
  ·match i,hu with
   |0,hu=>cases hu;exact(xWP t0 rfl (a5 _ _ (a4 _ _ (a3 _ _ (a2 _ _ aA)))))
   |i+1,hu=>simp at hu
  ·match i,hu with
   |0,hu=>cases hu;exact(xWP o0 rfl (a5 _ _ (a4 _ _ aA)))
   |1,hu=>cases hu;exact(xWP o1 rfl (a5 _ _ aA))
   |i+2,hu=>simp at hu
  ·exact((a1.trans a2).trans (a3.trans a4)).free hoa
  ·have hx':x=o0\/x=o1:=by simpa using hx
   rcases hx' with rfl | rfl
   ·exact(a1.trans a2).free ho0
   ·exact((a1.trans a2).trans a3).free ho1
  ·have hz:ta=o0\/ta=o1:=by simpa using z
   rcases hz with rfl | rfl
   ·exact aC aA ho0 rfl
   ·exact aC (a3 _ _ aA) ho1 rfl
 have gdA:=MM.good2;generalize upd (upd (upd (upd (upd H t0 (.tup [vn 0,vn 1])) ta (.lst [.ref t0])) o0 (.lst [vn 0])) o1 (.lst [vn 1])) oa (.lst [.ref o0,.ref o1])=HA at gA mA;clear a1 a2 a3 a4 a5 n01 n0a n1a ht0 hta ho0 ho1 hoa;refine(aP c 0 rfl (by decide) (by decide) (λm0 hm0 _=>⟨(by show(0:Int)<4;decide),?_⟩));refine i2 (λcc=>?_) (λcc=>?_)
 ·refine⟨(by show 2<=ZW;decide),λt1 ht1=>⟨(by show 1<=ZW;decide),λtb htb=>?_⟩⟩;have a1:=aB ht1 (.tup [vn 0,vn 0]);have a2:=aB htb (.lst [.ref t1]);refine⟨(by show 2<=ZW;decide),λo2 ho2=>⟨(by show 1<=ZW;decide),λob hob=>?_⟩⟩;have a3:=aB ho2 (.lst [vn 0,vn 1]);have a4:=aB hob (.lst [.ref o2]);have gB:=gA.trans (((a1.trans a2).trans a3).trans a4);have mB:nB H (upd (upd (upd (upd HA t1 (.tup [vn 0,vn 0])) tb (.lst [.ref t1])) o2 (.lst [vn 0,vn 1])) ob (.lst [.ref o2])) tb ob [o2] [(0,0)] [[0,1]]:=by
   refine⟨(aQ ([t1]) (a4 _ _ (a3 _ _ aA)) rfl (λi u hu=>?_)),⟨aA,rfl,λi u hu=>?_,by simp,by simp;exact(aC aA hob).symm,?_,λx hx=>?_⟩,gA.free (a1.free htb),aC (a3 _ _ aA) hob,λz=>?_⟩
   ·match i,hu with
    |0,hu=>cases hu;exact(xWP t1 rfl (a4 _ _ (a3 _ _ (a2 _ _ aA))))
    |i+1,hu=>simp at hu
   ·match i,hu with
    |0,hu=>cases hu;exact(xWP o2 rfl (a4 _ _ aA))
    |i+1,hu=>simp at hu
   ·exact gA.free ((a1.trans (a2.trans a3)).free hob)
   ·have hx':x=o2:=by simpa using hx
    subst hx';exact gA.free ((a1.trans a2).free ho2)
   ·have hz:tb=o2:=by simpa using z
    exact aC aA ho2 hz
  have gdB:=MM.KP;generalize upd (upd (upd (upd HA t1 (.tup [vn 0,vn 0])) tb (.lst [.ref t1])) o2 (.lst [vn 0,vn 1])) ob (.lst [.ref o2])=HB at gB mB;clear a1 a2 a3 a4 ht1 htb ho2 hob;refine(aP c 1 rfl (by decide) (by decide) (λm1 hm1 _=>(tQ (by show(0:Int)<steps+1;lia) (m1%(steps+1)) rfl ?_ ?_ ?_)))
  ·have:=Xw m1 (show steps+1≠0 by lia);lia
  ·have:=Xx m1 (show 0<steps+1 by lia);lia
  have hn:((m1%(steps+1)).toNat:Int)<=steps:=by have:=Xx m1 (show 0<steps+1 by lia);lia
  let Pv1:Nat->L2.St->L2.Hp->Prop:=λi σ H'=>∃(rr:List Addr) (ts:MM.aV) (os:MM.aR) (o6:Option V),σ=[some (.ref sa),some (.int steps),some (.int most),some (.int c),some (.ref tb),some (.ref ob),o6]/\aJ H H'/\nB H H' tb ob rr ts os/\MM.Good ts os/\ts.length<=i+1/\os.length<=i+2/\MM.FC ts os
  refine cZ (lo:=0) (n:=(m1%(steps+1)).toNat) Pv1
   (b9 _ _ _ none rfl gB mB gdB (by simp) ⟨ by simp,MM.fc1⟩) ?_ ?_
  ·rintro i σ H1 hi ⟨rr,ts,os,o6,rfl,g1,hm,gd,l1,l2,fl⟩;refine(u5 (by show(0:Int)<6;decide) sa ns _ rfl (g1.seq hS) (by lia) (λc2=>(aP _ _ rfl (by lia) (by lia) (λm2 hm2 _=>(lH H tb ob m2 most rr ts os rfl (iA g1 hm gd (by lia) (by lia) hm2 ?_))))));exact λH2 rr' ts' os' g' hm' gd' k1 k2 gw=>(b9 rr' ts' os' _ rfl g' hm' gd' (by lia) ⟨ by lia,gw.fc fl⟩)
  ·rintro σ H1 ⟨rr,ts,os,o6,rfl,g1,hm,gd,l1,l2,fl⟩;refine(dO sa ns 1 rfl (g1.seq hS) (by decide) (λc3=>(bB tb ob c3 ts os rfl hm.ts hm.os.os gd (xPP (by lia) (by lia) ?_))));exact λr tA oA rr' ts' os' H2 g2 er hm2 gd2 k1 k2 k3=>q r tA oA rr' ts' os' H2 (g1.trans g2) (by rw[er,k2]) (hm2.bse g1) gd2 (by lia) (by lia) (by lia) ⟨by have:=fl.flat;have:=k3.1;unfold MM.Flat at *;lia,k3.2 fl.conn⟩
 ·refine(aP c 1 rfl (by decide) (by decide) (λm1 hm1 _=>(tQ (by show(0:Int)<steps+1;lia) (m1%(steps+1)) rfl ?_ ?_ ?_)))
  ·have:=Xw m1 (show steps+1≠0 by lia);lia
  ·have:=Xx m1 (show 0<steps+1 by lia);lia
  have hn:((m1%(steps+1)).toNat:Int)<=steps:=by have:=Xx m1 (show 0<steps+1 by lia);lia
  let Pv2:Nat->L2.St->L2.Hp->Prop:=λi σ H'=>∃(rr:List Addr) (ts:MM.aV) (os:MM.aR) (o6:Option V),σ=[some (.ref sa),some (.int steps),some (.int most),some (.int c),some (.ref ta),some (.ref oa),o6]/\aJ H H'/\nB H H' ta oa rr ts os/\MM.Good ts os/\ts.length<=i+1/\os.length<=i+2/\MM.FC ts os
  refine cZ (lo:=0) (n:=(m1%(steps+1)).toNat) Pv2
   (b9 _ _ _ none rfl gA mA gdA (by simp) ⟨ by simp,MM.fc2⟩) ?_ ?_
  ·rintro i σ H1 hi ⟨rr,ts,os,o6,rfl,g1,hm,gd,l1,l2,fl⟩;refine(u5 (by show(0:Int)<6;decide) sa ns _ rfl (g1.seq hS) (by lia) (λc2=>(aP _ _ rfl (by lia) (by lia) (λm2 hm2 _=>(lH H ta oa m2 most rr ts os rfl (iA g1 hm gd (by lia) (by lia) hm2 ?_))))));exact λH2 rr' ts' os' g' hm' gd' k1 k2 gw=>(b9 rr' ts' os' _ rfl g' hm' gd' (by lia) ⟨ by lia,gw.fc fl⟩)
  ·rintro σ H1 ⟨rr,ts,os,o6,rfl,g1,hm,gd,l1,l2,fl⟩;refine(dO sa ns 1 rfl (g1.seq hS) (by decide) (λc3=>(bB ta oa c3 ts os rfl hm.ts hm.os.os gd (xPP (by lia) (by lia) ?_))));exact λr tA oA rr' ts' os' H2 g2 er hm2 gd2 k1 k2 k3=>q r tA oA rr' ts' os' H2 (g1.trans g2) (by rw[er,k2]) (hm2.bse g1) gd2 (by lia) (by lia) (by lia) ⟨by have:=fl.flat;have:=k3.1;unfold MM.Flat at *;lia,k3.2 fl.conn⟩
end K32
namespace L2
open PySem PyProof.Rows
def dW(H:Hp)(w:Addr)(n:Nat)(ts:MM.aV)(os:MM.aR):Prop:=∃tA oA:Addr,H w=some (.tup [vn n,.ref tA,.ref oA])/\gM H tA ts/\oH H oA os
theorem aJ.web{H H':Hp}(g:aJ H H'){w:Addr}{n:Nat}{ts:MM.aV}{os:MM.aR}(h:dW H w n ts os):dW H' w n ts os:=by
 obtain⟨tA,oA,h1,h2,h3⟩:=h;exact(aH tA oA (g _ _ h1) (g.ts h2) (g.os h3))
end L2
namespace K32
open PySem L2 PyProof.Rows
theorem jS(T:Txt K mg t):Ok P w base T 16 1 DV:=by
 left
 obtain⟨e,rfl,q⟩:=h;refine(xWP _ (by exists MF,0) ?_);have e1:Builtin.bitXor (e:Int) 1=((MM.oth e:Nat):Int):=by
  rw[PyProof.Rows.bitXor_and,PyProof.Rows.bitAnd_m1];unfold MM.oth;split<;>lia
 show Q (.int (Builtin.bitXor (e:Int) 1)) H;rw[e1];exact q
def DQ:Sp:=λvs H Q _=>∃(wa:Addr) (n:Nat) (ts:MM.aV) (os:MM.aR) (e:Nat),vs=[.ref wa,vn e]/\dW H wa n ts os/\e<2*ts.length/\Q (vn (MM.place ts e)) H
theorem E8(T:Txt K mg t):Ok P w base T 17 1 DQ:=by
 left
 obtain⟨wa,n,ts,os,e,rfl,⟨tA,oA,hw,ht,ho⟩,he,q⟩:=h;refine(xWP _ (by exists lX,lX,aG,0,bE,1,1) ?_);obtain⟨xs,r,h1,h2,h3,h4⟩:=ht.item (i:=e / 2) (by lia);refine(aP _ (.ref tA) (SqT.of hw) rfl ⟨by decide,by decide⟩ (.inl (aH xs _ (SqL.of h1) (by show atI xs ((e:Int) / 2)=_;rw[show(e:Int) / 2=((e / 2:Nat):Int) by lia];exact h3) ?_)));refine⟨(by show(0:Int)<2;decide),.inr (.inl (aH _ _ (SqT.of h4) (BC e) ?_))⟩;unfold MM.place at q;split
 ·rename_i h;rw[Yb h]at q;exact q
 ·rename_i h;rw[Ya h]at q;exact q
def LM:Sp:=λvs H Q _=>∃(wa:Addr) (n:Nat) (ts:MM.aV) (os:MM.aR) (e:Nat),vs=[.ref wa,vn e]/\dW H wa n ts os/\e<2*ts.length/\Q (vn (MM.place ts (MM.oth e))) H
theorem uA(T:Txt K mg t):Ok P w base T 18 2 LM:=by
 left
 obtain⟨wa,n,ts,os,e,rfl,hw,he,q⟩:=h;refine(xWP _ (by exists E8,0,jS,1) ?_);exact(pS e rfl wa n ts os (MM.oth e) rfl hw ⟨ MM.bQ he,q⟩)
def D5:Sp:=λvs H Q _=>∃(wa:Addr) (n:Nat) (ts:MM.aV) (os:MM.aR) (e:Nat),vs=[.ref wa,vn e]/\dW H wa n ts os/\MM.Good ts os/\e<2*ts.length/\Q (vn (MM.behind ts os e)) H
theorem sV(T:Txt K mg t):Ok P w base T 19 3 D5:=by
 left
 obtain⟨wa,n,ts,os,e,rfl,hw,g,he,q⟩:=h;refine(xWP _ (by exists 2,lX,aG,0,uA,0,1,aI,2,iE YO PySem.F.slot_list_index PySem.F.type_list_index jT ?_ ?_,2,jS,1) ?_);obtain⟨tA,oA,hw1,ht,ho⟩:=id hw;have hp:=g.g.has (MM.oth e) (MM.bQ he);obtain⟨xs,r,h1,h2,h3,h4⟩:=ho.item hp.1;refine(aH _ (.ref oA) (SqT.of hw1) rfl (kB wa n ts os e rfl hw he (.inl (aH xs _ (SqL.of h1) h3 ?_))));exact(r8 (.inl ⟨rfl,_,SqL.of h4⟩) e rfl _ _ rfl h4 hp.2 (aH _ _ (SqL.of h4) (BB hp.2) q))
def yB:Sp:=λvs H Q _=>∃(wa:Addr) (n:Nat) (ts:MM.aV) (os:MM.aR) (e:Nat),vs=[.ref wa,vn e]/\dW H wa n ts os/\MM.Good ts os/\ts.length<=500/\e<2*ts.length/\∀r,H r=none->Q (.ref r) (upd H r (.lst (vns (MM.aL (MM.behind ts os) e))))
theorem vT(T:Txt K mg t):Ok P w base T 21 4 yB:=by
 left
 obtain⟨wa,n,ts,os,e,rfl,hw,g,h500,he,q⟩:=h;refine(xWP _ (by exists 2,1,3,sV,0,1,e9,3,1,2,3,3,sV,0,3,2) ?_);have m:=g.maps;obtain⟨rd,rdN⟩:=MM.cY m he;refine⟨(by show 1<=ZW;decide),λla hla=>?_⟩;have g1:=aB hla (.lst [vn e]);refine(bB wa n ts os e rfl (g1.web hw) g he ?_);generalize hf:MM.behind ts os=f at m rd rdN q
 let Wv1:Nat->L2.St->L2.Hp->Prop:=λk σ H4=>∃j,k=MM.per f e-j/\0<j/\j<=MM.per f e/\σ=[some (.ref wa),some (vn e),some (.ref la),some (vn (MM.iter f j e))]/\H4=upd H la (.lst (vns (MM.path f e j)))
 refine(xWP Wv1 (dI _ 1 rfl Nat.one_pos rd.1 rfl rfl) ?_);rintro k σ H4 ⟨j,rfl,hj0,hj,rfl,rfl⟩;by_cases hc:MM.iter f j e=e
 ·refine iFb (by rw[hc];simp) ?_;have ej:j=MM.per f e:=by
   rcases Xk j (MM.per f e) with z | z
   ·exact Yg hc (rd.2.2 j hj0 z)
   ·lia
  subst ej;exact(q la hla)
 ·refine iTb (by simp;lia) ?_;have hjp:=MM.qD rd hj0 hj hc;refine(xWP _ (λσ' H' h=>h) ?_);refine(kZ (.inl ⟨rfl,_,SqL.of aA⟩) _ aA ?_ ?_)
  ·rw[Zq,MM.jR];exact Xq (by lia:j<=1000) (by decide)
  have e7:vns (MM.path f e j)++[vn (MM.iter f j e)]=vns (MM.path f e (j+1)):=by rw[MM.nQ,kI];rfl
  rw[e7,iB];refine(bB wa n ts os (MM.iter f j e) rfl ((aB hla _).web hw) g (MM.cF m he j) ?_);rw[hf];exact(C4 (MM.per f e-(j+1)) (by lia) (j+1) rfl (by lia) (by lia) rfl rfl)
end K32
namespace MM
theorem wN{p:Nat->Bool}{N i:Nat}(hi:i<N)(h0:∀j,j<i->p j=false)(h1:p i=true):∃r,(ZR N).filter p=i::r:=by
 have e:N=(i+1)+(N-(i+1)):=by omega
 rw[e,List.range_add,ZH,List.filter_append,List.filter_append];have e1:(ZR i).filter p=[]:=by
  rw[List.filter_eq_nil_iff];intro a ha;rw[h0 a (Zs.mp ha)];exact YT
 rw[e1,List.nil_append,List.filter_cons,Yb h1];exact⟨_,rfl⟩
end MM
namespace K32
open PySem L2 PyProof.Rows
def HK:Sp:=λvs H Q _=>∃(wa:Addr) (n:Nat) (ts:MM.aV) (os:MM.aR),vs=[.ref wa]/\dW H wa n ts os/\MM.Good ts os/\ts.length<=500 /\
 ∀(r:Addr) (rr:List Addr) (H':Hp),aJ H H'->cD H H' r rr (MM.aT (MM.behind ts os) (2*ts.length))->Q (.ref r) H'
theorem hZ(T:Txt K mg t):Ok P w base T 20 5 HK:=by
 refine T.okN 20 (scm:cV ["web","told","seen","first","land","end"] _ _) (λvs H Q E h=>?_) ?_
 ·obtain⟨wa,n,ts,os,rfl,_⟩:=h;rfl
 intro cdv A outer s H vs Q E hr h nd X;obtain⟨wa,n,ts,os,rfl,hw,g,h500,q⟩:=h;refine(xWP _ (by exists 1,(e8 2 ["end"] [none]),aG,0,0,aG,0,3,bH ?_ (λ_=>rfl),aI,2,3,4,vT,0,3,a7 ?_,4,5,dF ?_ ?_,eT ?_ ?_ set_list,2,5,1,4,1) ?_);have m:=g.maps;obtain⟨tA,oA,hw1,ht,ho⟩:=id hw;obtain⟨tr,tr1,tr2,tr3⟩:=id ht;have eN:(2:Int)*((tr.map V.ref).length:Nat)=((2*ts.length:Nat):Int):=by rw[Zq,tr2];push_cast;rfl
 refine⟨(by show 0<=ZW;decide),λD1 hD1=>?_⟩;have g1:=aB hD1 (.lst []);refine(bV _ (.ref tA) (SqT.of (g1 _ _ hw1)) rfl tA _ rfl (.inl (SqL.of (g1 _ _ tr1))) (.inl ⟨by decide,by decide⟩) (dA _ rfl ?_ ?_ (λD2 hD2=>?_)))
 ·show -(2 ^ 62)<=(2:Int)*((tr.map V.ref).length:Nat);lia
 ·show(2:Int)*((tr.map V.ref).length:Nat)<2 ^ 62;rw[eN];lia
 have eN2:((2:Int)*((tr.map V.ref).length:Nat)).toNat=2*ts.length:=by rw[eN];exact Int.toNat_natCast _
 generalize hf:MM.behind ts os=f at m q;generalize hN:2*ts.length=N at m q eN eN2
 let Pv1:Nat->List L2.V->L2.Hp->Prop:=λi ys H'=>ys=(ZF i false).map V.bl/\H'=upd (upd H D1 (.lst [])) D2 (.lst ys)
 refine comp_map N Pv1 ⟨rfl,rfl⟩ ?_ ?_
 ·rintro i ys H' hi ⟨rfl,rfl⟩;refine⟨(by show i<((2:Int)*((tr.map V.ref).length:Nat)).toNat;lia),?_⟩;rintro x H'' ⟨rfl,rfl⟩;refine(bU ((Fills.refl _).set _ rfl) aA ?_ ?_ ?_)
  ·rw[Zq,List.length_replicate];exact Xz hi (YQ (by lia:N<=1000) (by decide))
  ·rw[List.replicate_succ',Zt];rfl
  ·rw[iB]
 rintro ys H2 ⟨rfl,rfl⟩;refine⟨(by show((2:Int)*((tr.map V.ref).length:Nat)).toNat<=N;lia),?_⟩;have g2':=aB hD2 (.lst ((ZF N false).map V.bl));have g2:=g1.trans g2';have nD:D1≠D2:=aC aA hD2;have n0:cD H (upd (upd H D1 (.lst [])) D2 (.lst ((ZF N false).map V.bl))) D1 [] []:=⟨g2' _ _ aA,rfl,λi l h=>by simp at h,List.nodup_nil,by simp,hD1,λx hx=>by cases hx⟩
 have e0:(upd (upd H D1 (.lst [])) D2 (.lst ((ZF N false).map V.bl))) D2=some (.lst ((ZF N false).map V.bl)):=aA;have hD2H:H D2=none:=g1.free hD2;generalize upd (upd H D1 (.lst [])) D2 (.lst ((ZF N false).map V.bl))=H2 at g2 n0 e0;clear g2' hD2 g1;refine(bV _ (.ref tA) (SqT.of (g2 _ _ hw1)) rfl tA _ rfl (.inl (SqL.of (g2 _ _ tr1))) (.inl ⟨by decide,by decide⟩) (dA _ rfl ?_ ?_ ?_))
 ·show -(2 ^ 62)<=(2:Int)*((tr.map V.ref).length:Nat);lia
 ·show(2:Int)*((tr.map V.ref).length:Nat)<2 ^ 62;rw[eN];lia
 let Pv2:Nat->L2.St->L2.Hp->Prop:=λi σ H'=>∃(rr:List Addr) (done:MM.aR) (sn:List Bool) (o3 o4 o5:Option V),σ=[some (.ref wa),some (.ref D1),some (.ref D2),o3,o4,o5]/\aJ H H'/\cD H H' D1 rr done/\D2∉rr /\
   H' D2=some (.lst (sn.map V.bl))/\sn.length=N/\done++MM.lf f ((ZR N).filter λx=>!sn.getD x false)=MM.aT f N/\∀j,j<i->sn.getD j false=true
 refine cZ (lo:=0) (n:=((2:Int)*((tr.map V.ref).length:Nat)).toNat) Pv2
  (fN ([]) ([]) (ZF N false) none none none rfl g2 n0 (bU (by simp) e0 (by simp) ?_ (λj hj=>Yg hj (Nat.not_lt_zero _)))) ?_ ?_
 ·have e:(ZR N).filter (λx=>!(ZF N false).getD x false)=ZR N:=by
   rw[List.filter_eq_self];intro a ha;have:=Zs.mp ha;simp[Zv,List.getElem?_replicate,this]
  rw[e];rfl
 ·rintro i σ H3 hi ⟨rr,done,sn,o3,o4,o5,rfl,g3,n3,dr,es,sl,eq,hs⟩;rw[eN2]at hi;have hi0:(0:Int)+(i:Int)=(i:Int):=Int.zero_add _;rw[hi0];have hat:atI (sn.map V.bl) (i:Int)=some (.bl (sn.getD i false)):=bM (by rw[Zk,Zv,Zz (show i<sn.length by lia)];rfl);refine(l8 _ _ (SqL.of es) hat _ rfl ?_);cases hb:sn.getD i false with
  |true =>
   refine iFb rfl ?_;refine(fN rr done sn _ _ _ rfl g3 n3 (bU dr es sl eq (λj hj=>?_)));rcases Xk j i with z | z
   ·exact hs j z
   ·have:j=i:=by lia
    subst this;exact hb
  |false =>
   refine iTb rfl ?_;refine(bB wa n ts os i rfl (g3.web hw) g h500 ⟨ by lia,λla hla=>?_⟩);rw[hf];have gl:=aB hla (.lst (vns (MM.aL f i)));have lanD1:la≠D1:=(aC n3.at_ hla).symm;have lanD2:la≠D2:=(aC es hla).symm;have lar:la∉rr:=λz=>by obtain⟨l,hl⟩:=n3.ex z;rw[hla]at hl;cases hl
   have hll:=MM.fJ m hi;have lan:=MM.lW m hi;have lal:=(MM.rB m hi).2;have selfl:=MM.dQ m hi
   let Pv3:Nat->L2.St->L2.Hp->Prop:=λj σ H'=>∃(sn':List Bool) (o5:Option V),σ=[some (.ref wa),some (.ref D1),some (.ref D2),some (vn i),some (.ref la),o5]/\H'=upd (upd H3 la (.lst (vns (MM.aL f i)))) D2 (.lst (sn'.map V.bl))/\sn'.length=N /\
     ∀x,sn'.getD x false=(sn.getD x false||decide (x∈(MM.aL f i).take j))
   refine⟨⟨_,SqL.of aA⟩,cR (xs:=vns (MM.aL f i)) Pv3
    (aP sn _ rfl ?_ sl (λx=>by simp)) (λj σ H' _ h=>by obtain⟨sn',o,_,rfl,_⟩:=h;exact SqL.of (by rw[aE lanD2];exact aA)) ?_ ?_⟩
   ·funext b
    by_cases hb':b=D2
    ·subst hb';rw[aA];exact gl _ _ es
    ·rw[aE hb']
   ·rintro j x σ H' hx ⟨sn',o,rfl,rfl,sl',hsn⟩;obtain⟨hj,ej⟩:=Zj.mp hx;rw[Zq]at hj;have ex:x=vn (MM.aL f i)[j]:=by rw[<-ej];simp
    subst ex;have hxN:=hll _ (Zp hj);refine(bV _ ((MM.aL f i)[j]) aA (eV (by rw[Zq];lia)) (sn'.set (MM.aL f i)[j] true) _ rfl ?_ (by rw[ZP];exact sl') (λy=>?_))
    ·rw[iB,ZG]
    ·have hmem:y∈(MM.aL f i).take (j+1)↔y∈(MM.aL f i).take j\/y=(MM.aL f i)[j]:=by
      rw[List.take_add_one,Zz hj,Zf];simp
     by_cases hy:(MM.aL f i)[j]=y
     ·subst hy;rw[MM.iN (by lia)];simp[hmem]
     ·rw[MM.jZ hy,hsn y];have:(y∈(MM.aL f i).take (j+1))=(y∈(MM.aL f i).take j):=by
       rw[eq_iff_iff,hmem];constructor
       ·rintro(z | z)
        ·exact z
        ·exact Yg z.symm hy
       ·exact .inl
      simp only[this]
   ·rintro σ H' ⟨sn',o,rfl,rfl,sl',hsn⟩;rw[Zq,Yv]at hsn;have n4:cD H (upd (upd H3 la (.lst (vns (MM.aL f i)))) D2 (.lst (sn'.map V.bl))) D1 rr done:=n3.keep λb u hb h=>by
     rw[aE (show b≠D2 by rcases hb with rfl | hb;exact nD;rintro rfl;exact dr hb)];exact gl _ _ h
    have g4:aJ H (upd (upd H3 la (.lst (vns (MM.aL f i)))) D2 (.lst (sn'.map V.bl))):=λb u h=>by rw[aE (aC h hD2H)];exact gl _ _ (g3 _ _ h)
    have la4:(upd (upd H3 la (.lst (vns (MM.aL f i)))) D2 (.lst (sn'.map V.bl))) la=some (.lst (vns (MM.aL f i))):=by rw[aE lanD2];exact aA
    have es4:(upd (upd H3 la (.lst (vns (MM.aL f i)))) D2 (.lst (sn'.map V.bl))) D2=some (.lst (sn'.map V.bl)):=aA;generalize upd (upd H3 la (.lst (vns (MM.aL f i)))) D2 (.lst (sn'.map V.bl))=H4 at n4 g4 la4 es4;have hdl:done.length<=N:=by
     have h1:=MM.qY m _ (ZR N) (ZC _) (λx hx=>Zs.mp hx);have h2:=congrArg List.length eq;rw[Zm]at h2;unfold MM.aT at h2;rw[Yj]at h1
     lia
    refine(kZ (.inl ⟨rfl,_,SqL.of n4.at_⟩) _ n4.at_ ?_ ?_)
    ·rw[Zq,n4.len];exact Xq (by lia:done.length<=1000) (by decide)
    have n5:=n4.push (x:=la) (l:=MM.aL f i) (H2:=upd H4 D1 (.lst (rr.map V.ref++[.ref la]))) (g3.free hla) lar lanD1 (by rw[aA,Zt];rfl) (by rw[aE lanD1];exact la4) λb u hb h=>by rw[aE (show b≠D1 from λz=>n4.nin (z▸hb))];exact h
    refine(fN (rr++[la]) (done++[MM.aL f i]) sn' _ _ _ rfl ?_ n5 (bU ?_ ?_ sl' ?_ (λj hj=>?_)))
    ·exact λb u h=>by rw[aE (aC h hD1)];exact g4 _ _ h
    ·intro z;rcases Zf.mp z with z | z
     ·exact dr z
     ·have:D2=la:=by simpa using z
      exact lanD2 this.symm
    ·rw[aE (Yh nD)];exact es4
    ·obtain⟨r,hr'⟩:=MM.wN (p:=λx=>!sn.getD x false) hi (λj hj=>by rw[hs j hj];rfl) (by rw[hb];rfl);have e2:(ZR N).filter (λx=>!sn'.getD x false)=(i::r).filter λx=>decide (x∉MM.aL f i):=by
      rw[<-hr',List.filter_filter];refine List.filter_congr λx _=>?_;rw[hsn x];by_cases z:x∈MM.aL f i<;>simp[z]
     rw[hr',MM.jB m (λx hx=>by rw[<-hr']at hx;exact Zs.mp (Yz.mp hx).1)]at eq;rw[Yn,e2];exact eq
    ·rw[hsn j];rcases Xk j i with z | z
     ·rw[hs j z];rfl
     ·have:j=i:=by lia
      subst this;simp[selfl]
 ·rintro σ H3 ⟨rr,done,sn,o3,o4,o5,rfl,g3,n3,dr,es,sl,eq,hs⟩;rw[eN2]at hs;have e:(ZR N).filter (λx=>!sn.getD x false)=[]:=by
   rw[List.filter_eq_nil_iff];intro a ha;rw[hs a (Zs.mp ha)];exact YT
  rw[e,MM.FR,List.append_nil]at eq;exact(q D1 rr H3 g3 (eq▸n3))
end K32
namespace MM
theorem fB{f:Nat->Nat}{N:Nat}(m:bX f N){x:Nat}(hx:x<N):∃(k:Nat) (d:List Nat),(aT f N)[k]?=some d/\x∈d/\∀(j:Nat) (d':List Nat),(aT f N)[j]?=some d'->x∈d'->j=k :=
 y0 m _ _ (ZC _) (λy hy=>Zs.mp hy) x (Zs.mpr hx)
end MM
namespace K32
open PySem L2 PyProof.Rows
def BU:Sp:=λvs H Q _=>∃(wa:Addr) (n:Nat) (ts:MM.aV) (os:MM.aR),vs=[.ref wa]/\dW H wa n ts os/\MM.Good ts os/\ts.length<=500 /\
 ∀(r:Addr) (nm:List Nat) (H':Hp),aJ H H'->H r=none->H' r=some (.lst (vns nm))->nm.length=2*ts.length->(∀(k:Nat) (d:List Nat) (x:Nat),(MM.aT (MM.behind ts os) (2*ts.length))[k]?=some d->x∈d->nm.getD x 0=k)->Q (.ref r) H'
theorem qP(T:Txt K mg t):Ok P w base T 22 6 BU:=by
 refine T.okN 22 (scm:cV ["web","numbers","number","land","end"] _ _) (λvs H Q E h=>?_) ?_
 ·obtain⟨wa,n,ts,os,rfl,_⟩:=h;rfl
 intro cdv A outer s H vs Q E hr h nd X;obtain⟨wa,n,ts,os,rfl,hw,g,h500,q⟩:=h;refine(xWP _ (by exists (e8 1 ["end"] [none]),aG,0,0,cL rfl (T.z 3) ?_,hZ,0,2,3,a7 ?_,3,4,dF ?_ ?_,2,eT ?_ ?_ set_list,1,4,1) ?_);have m:=g.maps;obtain⟨tA,oA,hw1,ht,ho⟩:=id hw;obtain⟨tr,tr1,tr2,tr3⟩:=id ht;have eN:(2:Int)*((tr.map V.ref).length:Nat)=((2*ts.length:Nat):Int):=by rw[Zq,tr2];push_cast;rfl
 refine(bV _ (.ref tA) (SqT.of hw1) rfl tA _ rfl (.inl (SqL.of tr1)) (.inl ⟨by decide,by decide⟩) (dA _ rfl ?_ ?_ (λD hD=>?_)))
 ·show -(2 ^ 62)<=(2:Int)*((tr.map V.ref).length:Nat);lia
 ·show(2:Int)*((tr.map V.ref).length:Nat)<2 ^ 62;rw[eN];lia
 have eN2:((2:Int)*((tr.map V.ref).length:Nat)).toNat=2*ts.length:=by rw[eN];exact Int.toNat_natCast _
 generalize hf:MM.behind ts os=f at m q;generalize hN:2*ts.length=N at m q eN eN2
 let Pv1:Nat->List L2.V->L2.Hp->Prop:=λi ys H'=>ys=vns (ZF i 0)/\H'=upd H D (.lst ys)
 refine comp_map N Pv1 ⟨rfl,rfl⟩ ?_ ?_
 ·rintro i ys H' hi ⟨rfl,rfl⟩;refine⟨(by show i<((2:Int)*((tr.map V.ref).length:Nat)).toNat;lia),?_⟩;rintro x H'' ⟨rfl,rfl⟩;refine(bU ((Fills.refl _).set _ rfl) aA ?_ ?_ ?_)
  ·rw[Zq,List.length_replicate];exact Xz hi (YQ (by lia:N<=1000) (by decide))
  ·rw[List.replicate_succ',kI];rfl
  ·rw[iB]
 rintro ys H2 ⟨rfl,rfl⟩;refine⟨(by show((2:Int)*((tr.map V.ref).length:Nat)).toNat<=N;lia),?_⟩;have g2:=aB hD (.lst (vns (ZF N 0)));have e2:(upd H D (.lst (vns (ZF N 0)))) D=some (.lst (vns (ZF N 0))):=aA;generalize upd H D (.lst (vns (ZF N 0)))=H2 at g2 e2;refine(aY wa n ts os rfl (g2.web hw) g h500 (λr rr H3 g3 n3=>(aQ r rfl ⟨_,SqL.of n3.at_⟩ ?_)));rw[hf,hN]at n3;have rl:(rr.map V.ref).length=(MM.aT f N).length:=by rw[Zq];exact n3.len
 have rD:r≠D:=λz=>by have:=n3.new;rw[z,e2]at this;cases this
 have rrD:D∉rr:=λz=>by have:=n3.news D z;rw[e2]at this;cases this
 have hlk:∀i,i<(MM.aT f N).length->∃d x,(MM.aT f N)[i]?=some d/\rr[i]?=some x/\H3 x=some (.lst (vns d))/\(∀y∈d,y<N):=λi hi=>by
  obtain⟨x,h1,h2⟩:=n3.row i _ (Zz hi);exact(aP _ x (Zz hi) h1 h2 ((MM.oN m (Zp hi)).2))
 let Pv2:Nat->L2.St->L2.Hp->Prop:=λi σ H'=>∃(nm:List Nat) (o2 o3 o4:Option V),σ=[some (.ref wa),some (.ref D),o2,o3,o4]/\(∀b u,b≠D->H3 b=some u->H' b=some u)/\H' D=some (.lst (vns nm))/\nm.length=N /\
   ∀(k:Nat) (d:List Nat) (x:Nat),k<i->(MM.aT f N)[k]?=some d->x∈d->nm.getD x 0=k
 refine dD (xs:=rr.map V.ref) Pv2
  (aY _ none none none rfl (λb u _ h=>h) (g3 _ _ e2) (by simp) (λk d x hk=>Yg hk (Nat.not_lt_zero _))) (λi σ H' _ h=>by obtain⟨nm,o2,o3,o4,_,h1,_⟩:=h;exact SqL.of (h1 _ _ rD n3.at_)) ?_ ?_
 ·rintro i x σ H4 Tt hx ⟨nm,o2,o3,o4,rfl,b4,e4,l4,hk4⟩ hTt;have hi:i<(MM.aT f N).length:=by have:=(Zj.mp hx).1;lia
  obtain⟨d,xa,hd1,hx1,hx2,hdl⟩:=hlk i hi;have ex:x=.ref xa:=by rw[Zk,hx1]at hx;cases hx;rfl
  subst ex;have gT:=aB hTt (.tup [vn i,.ref xa]);have xaD:xa≠D:=λz=>rrD (z▸Zg hx1);refine(aQ _ (SqT.of aA) rfl ?_);have b5:∀b u,b≠D->H3 b=some u->(upd H4 Tt (.tup [vn i,.ref xa])) b=some u:=λb u hb h=>gT _ _ (b4 b u hb h);have e5:=gT _ _ e4;generalize upd H4 Tt (.tup [vn i,.ref xa])=H5 at b5 e5
  let Pv3:Nat->L2.St->L2.Hp->Prop:=λj σ H'=>∃(nm':List Nat) (o4:Option V),σ=[some (.ref wa),some (.ref D),some (vn i),some (.ref xa),o4]/\H'=upd H5 D (.lst (vns nm'))/\nm'.length=N/\∀y,nm'.getD y 0=if y∈d.take j then i else nm.getD y 0
  refine⟨⟨_,SqL.of (b5 _ _ xaD hx2)⟩,cR (xs:=vns d) Pv3
   (aP nm _ rfl ?_ l4 (λy=>by simp)) (λj σ H' _ h=>by obtain⟨nm',o,_,rfl,_⟩:=h;exact SqL.of (by rw[aE xaD];exact b5 _ _ xaD hx2)) ?_ ?_⟩
  ·funext b
   by_cases hb':b=D
   ·subst hb';rw[aA];exact e5
   ·rw[aE hb']
  ·rintro j y σ H' hy ⟨nm',o,rfl,rfl,l',hnm⟩;obtain⟨hj,ej⟩:=Zj.mp hy;rw[Zq]at hj;have ex:y=vn d[j]:=by rw[<-ej];simp
   subst ex;have hyN:=hdl _ (Zp hj);refine(bV _ (d[j]) aA (eV (by rw[Zq];lia)) (nm'.set d[j] i) _ rfl ?_ (by rw[ZP];exact l') (λz=>?_))
   ·rw[iB];unfold vns;rw[ZG]
   ·have hmem:z∈d.take (j+1)↔z∈d.take j\/z=d[j]:=by rw[List.take_add_one,Zz hj,Zf];simp
    by_cases hz:d[j]=z
    ·subst hz;rw[MM.iN (by lia),Yb (hmem.mpr (.inr rfl))]
    ·rw[MM.jZ hz,hnm z];by_cases hz2:z∈d.take j
     ·rw[Yb hz2,Yb (hmem.mpr (.inl hz2))]
     ·rw[Ya hz2,Ya (λc=>(hmem.mp c).elim hz2 λc=>hz c.symm)]
  ·rintro σ H' ⟨nm',o,rfl,rfl,l',hnm⟩;rw[Zq,Yv]at hnm;refine(aY nm' _ _ _ rfl (λb u hb h=>by rw[aE hb];exact b5 b u hb h) aA l' (λk d' x hk hkd hx=>?_));rw[hnm x];rcases Xk k i with z | z
   ·have hxd:x∉d:=λc=>by
     obtain⟨k0,d0,h1,h2,h3⟩:=MM.fB m (hdl x c);have:=h3 k d' hkd hx;have:=h3 i d hd1 c
     lia
    rw[Ya hxd];exact hk4 k d' x z hkd hx
   ·have:k=i:=by lia
    subst this;rw[hd1]at hkd;cases hkd;rw[Yb hx]
 ·rintro σ H4 ⟨nm,o2,o3,o4,rfl,b4,e4,l4,hk4⟩;rw[rl]at hk4;refine(q D nm H4 (λb u h=>b4 b u (aC h hD) (g3 _ _ (g2 _ _ h))) hD e4 l4 λk d x hkd hx=>hk4 k d x ?_ hkd hx);exact(Zj.mp hkd).1
end K32
namespace L2
open PySem PyProof.Rows
theorem GK{H:Hp}:∀(xs:List V) (ds:List PyData),xs.length=ds.length->(∀(i:Nat) x d,xs[i]?=some x->ds[i]?=some d->Bd H x d)->Bds H xs ds
 |[],[],_,_=>.nil
 |[],_::_,h,_=>by cases h
 |_::_,[],h,_=>by cases h
 |x::xs,d::ds,h,f=>.cons (f 0 x d rfl rfl) (GK xs ds (by simpa using h) λi x' d' h1 h2=>f (i+1) x' d' h1 h2)
end L2
namespace MM
end MM
namespace K32
open PySem L2 PyProof.Rows
noncomputable def flB(n:Nat)(ts:MM.aV)(os:MM.aR):Bool:=decide (V.int ((n:Int)+((MM.dS ts os:Nat):Int))=V.int ((ts.length:Nat)+2))
theorem F5{ts:MM.aV}{os:MM.aR}(f:MM.Flat ts os):flB os.length ts os=true:=by
 unfold flB;unfold MM.Flat at f;refine Ye ?_;congr 1
 lia
def LN:Sp:=λvs H Q _=>∃(wa:Addr) (n:Nat) (ts:MM.aV) (os:MM.aR),vs=[.ref wa]/\dW H wa n ts os/\MM.Good ts os/\ts.length<=500/\∀(H':Hp),aJ H H'->Q (.bl (flB n ts os)) H'
theorem JA(T:Txt K mg t):Ok P w base T 23 6 LN:=by
 left
 obtain⟨wa,n,ts,os,rfl,hw,g,h500,q⟩:=h;obtain⟨tA,oA,h1,h2,h3⟩:=id hw;obtain⟨tr,t1,t2,t3⟩:=id h2;refine(xWP _ (by exists bY,aX,lX,0,hZ,0,aX,lX,0) ?_);refine(.inr (.inl (aH _ _ (SqT.of h1) rfl ?_)));refine(aY wa n ts os rfl hw g h500 (λr rr H' g1 n1=>(aH r _ rfl (.inl (SqL.of n1.at_)) ?_)));refine(.inr (.inl (aH _ _ (SqT.of (g1 _ _ h1)) rfl ?_)));refine(aH tA _ rfl (.inl (SqL.of (g1 _ _ t1))) ?_);have:=q H' g1;unfold flB MM.dS at this;rw[<-n1.len,<-t2]at this;show Q (.bl (decide (V.int _=V.int _))) H';simpa only[Zq] using this
end K32
namespace AW
open MM
def cT(ts:aV):Ts:=ts.map λt=>((t.1:Int),(t.2:Int))
def cO(os:aR):Os:=os.map λo=>o.map λn:Nat=>(n:Int)
theorem nY(ts:aV):(cT ts).length=ts.length:=Zq _
theorem GI(os:aR):(cO os).length=os.length:=Zq _
theorem KH{ts:aV}{e:Nat}(h:e<2*ts.length):plc (cT ts) e=(place ts e:Int):=by
 have hi:e / 2<ts.length:=by lia
 unfold plc place cT;rw[Zk,Zz hi,Zv,Zz hi];simp only[Option.map_some,YR];split<;>rfl
theorem QI{ts:aV}{os:aR}(g:Good ts os):InW os.length (cT ts):=λt ht=>by
 obtain⟨u,hu,rfl⟩:=Zh.mp ht;obtain⟨i,hi,rfl⟩:=Yy.mp hu;have a:=(g.g.has (2*i) (by lia)).1;have b:=(g.g.has (2*i+1) (by lia)).1;have e1:place ts (2*i)=ts[i].1:=by
  unfold place;rw[Yb (by lia),show 2*i / 2=i by lia,Zv,Zz hi];rfl
 have e2:place ts (2*i+1)=ts[i].2:=by
  unfold place;rw[Ya (by lia),show(2*i+1) / 2=i by lia,Zv,Zz hi];rfl
 rw[e1]at a;rw[e2]at b;exact(xPP ⟨by show(0:Int)<=(ts[i].1:Int);lia,by show(ts[i].1:Int)<_;lia⟩ (by show(0:Int)<=(ts[i].2:Int);lia) (by show(ts[i].2:Int)<_;lia))
theorem cast_inj:∀a b:Nat,(a:Int)=(b:Int)->a=b:=λa b h=>by lia
theorem OX{ts:aV}{os:aR}(g:Good ts os):Fit (cT ts) (cO os):=λi o ho=>by
 unfold cO at ho;rw[Zk]at ho;obtain⟨l,hl,rfl⟩:=Xv.mp ho;have er:row os i=l:=by unfold row;rw[Zv,hl];rfl
 refine⟨?_,EX (nR cast_inj (er▸g.g.nd i)) (uC _ _) λa=>?_⟩
 ·have:=g.g.four i;rw[er]at this;rw[Zq];exact this
 rw[yV,nY,Zh];constructor
 ·rintro⟨e,he,rfl⟩;have:=g.g.ends i e (er.symm▸he);exact⟨⟨by lia,by lia⟩,by rw[Int.toNat_natCast,KH this.1,this.2]⟩
 ·rintro⟨⟨h0,h1⟩,h2⟩;obtain⟨e,rfl⟩:=Xy h0;have he:e<2*ts.length:=by lia
  rw[Int.toNat_natCast,KH he]at h2;have hp:place ts e=i:=by lia
  have:=(g.g.has e he).2;rw[hp,er]at this;exact(xWP e this rfl)
theorem sP{ts:aV}{e:Nat}(h:e<2*ts.length):∃t∈cT ts,(t.1=(place ts e:Int)/\t.2=(place ts (oth e):Int))\/(t.2=(place ts e:Int)/\t.1=(place ts (oth e):Int)):=by
 have hi:e / 2<ts.length:=by lia
 refine(xWP ((ts[e / 2].1:Int),(ts[e / 2].2:Int)) (Zh.mpr (xWP (ts[e / 2]) (Zp hi) rfl)) ?_);unfold place;rw[iR,mO,Zv,Zz hi];by_cases c:e%2=0
 ·apply Or.inl;rw[Yb c,Ya (by lia)];exact⟨rfl,rfl⟩
 ·right;rw[Ya c,Yb (by lia)];exact⟨rfl,rfl⟩
theorem G0{ts:aV}{os:aR}(g:Good ts os)(c:jF ts os):BD os.length (cT ts):=by
 have at_:∀p,p<os.length->∃e,e<2*ts.length/\place ts e=p:=λp hp=>by
  cases hr:row os p with
  |nil=>exact Yg hr (g.g.full p hp)
  |cons e l=>exact⟨e,g.g.ends p e (by rw[hr];exact Zd)⟩
 have key:=c (λe=>Rch (cT ts) (place ts e:Int)) (λe he h=>by
  have hb:=(g.behind he).2;show Rch _ ((place ts (behind ts os e):Nat):Int);rw[hb];obtain⟨t,ht,h1 | h1⟩:=sP he
  ·exact h1.2▸Rch.fwd ht (h1.1.symm▸h)
  ·exact h1.2▸Rch.bwd ht (h1.1.symm▸h)) (λe he h=>by
  obtain⟨t,ht,h1 | h1⟩:=sP he
  ·exact h1.2▸Rch.fwd ht (h1.1.symm▸h)
  ·exact h1.2▸Rch.bwd ht (h1.1.symm▸h))
 intro p h0 h1;obtain⟨q,rfl⟩:=Xy h0;obtain⟨e,he,rfl⟩:=at_ q (by lia);obtain⟨z,hz,ez⟩:=at_ 0 (by lia);exact key z e hz he (by show Rch _ ((place ts z:Nat):Int);rw[ez];exact .zero)
theorem OM{ts:aV}{os:aR}(g:Good ts os)(c:jF ts os)(h1:os.length<=200)(h2:ts.length<=400):BH os.length (cT ts) (cO os):=by
 have o1:1<=os.length:=by have:=(g.g.has 0 (by have:=g.one;lia)).1;lia
 exact(bU (xPP ⟨by lia,by lia⟩ (by rw[nY];exact g.one) (by rw[nY];exact h2)) (QI g) (by rw[GI]) (OX g) (G0 g c))
end AW
namespace K32
open PySem L2 PyProof.Rows
def mn(i j:Int):Int:=if j<i then j else i
def few(ls:List Int)(j:Nat):Int:=at0 ls j-mn (at0 ls j) (at0 ls (MM.oth j))
def lY(ls:List Int)(n:Nat):List V:=(ZR n).map λj=>.int (few ls j)
theorem wO(ls:List Int)(n:Nat):lY ls (n+1)=lY ls n++[.int (few ls n)]:=by
 unfold lY;rw[ZH,Zt];rfl
theorem zE(ls:List Int)(n:Nat):(lY ls n).length=n:=by unfold lY;simp
def HH:Sp:=λvs H Q _=>∃(p c l:Addr) (n:Nat) (cs ls:List Int),vs=[.ref p]/\SqT H p [.ref c,.ref l]/\SqL H c (cs.map V.int)/\SqL H l (ls.map V.int)/\ls.length=2*n/\n<=1000 /\
 ∀(r a b:Addr) (H':Hp),aJ H H'->H a=none->H b=none->a≠b->H' r=some (.tup [.ref a,.ref b])->H' a=some (.lst (cs.map V.int))->H' b=some (.lst (lY ls (2*n)))->Q (.ref r) H'
theorem E3(T:Txt K mg t)(G_other_end:Ok P w base T 16 1 DV):Ok P w base T 58 2 (HH):=by
 left
 obtain⟨p,c,l,n,cs,ls,rfl,hT,hC,hS,hl,hn,q⟩:=h;have nd1:(["end","left","lefts"]:List Str).Nodup:=by decide
 refine(xWP _ (by exists 1,aG,0,(e8 2 ["end","left","lefts"] [none,none,some 1]),cL rfl (T.z 3) ?_,1,0,1,1,aN (nX rfl) rfl (T.z 9) boot_min ?_,1,aI,2,bT G_other_end hr (T.f 16) aZ ?_,0,bS dE rfl (T.z 7) boot_list ?_,aG,0,2) ?_);refine(aH _ (.ref l) hT rfl ?_);refine(aQ l rfl ⟨_,hS⟩ (λD hD=>?_))
 let Pv1:Nat->List L2.V->L2.Hp->Prop:=λi ys H'=>ys=lY ls i/\H' D=some (.lst ys)/\aJ H H'
 refine comp_map (2*n) Pv1 (xPP rfl aA (aB hD _)) ?_ ?_
 ·rintro i ys H' hi ⟨rfl,hD',g1⟩;have hS1:=g1.seq hS;refine⟨(cG _ _ hS1 (bR (by lia))),?_⟩;rintro x H'' ⟨T',x',rfl,hT',rfl,hx⟩;have ex:=hx _ hS1;rw[bR (by lia)]at ex;cases ex;have g2:=aB hT' (.tup [.int i,.int (at0 ls i)]);have hS2:=g2.seq hS1;refine(aQ _ (SqT.of aA) rfl ⟨ ((Fills.refl _).set _ rfl).set _ rfl,?_⟩);refine(xM i rfl _ _ hS2 (aU (j:=MM.oth i) (by rw[hl];exact MM.bQ hi) rfl) _ _ rfl (bU (g2 _ _ hD') ?_ ?_ aA ?_))
  ·rw[zE];exact Xz hi (YQ (by lia:2*n<=2000) (by decide))
  ·rw[wO];rfl
  ·exact λb o h=>by rw[aE (aC h hD)];exact g2 _ _ (g1 _ _ h)
 ·rintro ys H' ⟨rfl,hD',g1⟩;refine⟨(xWP _ (g1.seq hS) (by rw[Zq];lia)),?_⟩;refine(bO _ (.ref c) (aJ.tup g1 hT) rfl c _ rfl (.inl (g1.seq hC)) (λa ha=>?_));refine⟨(by show 2<=ZW;decide),λr hr'=>?_⟩;have g2:=aB ha (.lst (cs.map V.int));have g3:=aB hr' (.tup [.ref a,.ref D]);exact q r a D _ (g1.trans (g2.trans g3)) (g1.free ha) hD (aC hD' ha).symm aA (g3 _ _ aA) (g3 _ _ (g2 _ _ hD'))
def sum2(ls:List Int)(k:Nat):Int:=at0 ls (2*k)+at0 ls (2*k+1)
def lM(ls:List Int)(n:Nat):List V:=(ZR n).map λj=>.int (sum2 ls j)
theorem lL(ls:List Int)(n:Nat):(lM ls n).length=n:=by unfold lM;simp
theorem BQ{ls:List Int}{n i:Nat}{x:V}(h:(lM ls n)[i]?=some x):i<n/\x=.int (sum2 ls i):=by
 unfold lM at h;rw[Zk]at h;obtain⟨j,hj,rfl⟩:=Xv.mp h;obtain⟨hi,rfl⟩:=Zj.mp hj;simp at hi ⊢;exact hi
theorem jC{ls:List Int}{i:Nat}{x:V}(h:(ls.map V.int)[i]?=some x):i<ls.length/\x=.int (at0 ls i):=by
 have hi:i<ls.length:=by
  have:=(Zj.mp h).1;simpa using this
 rw[bR hi]at h;exact⟨hi,(Option.some.inj h).symm⟩
theorem xX{ls:List (Option Int)}{i:Nat}{x:V}(h:(vos ls)[i]?=some x):i<ls.length/\x=vo (ov ls i):=by
 have hi:i<ls.length:=by
  have:=(Zj.mp h).1;simpa using this
 rw[xD hi]at h;exact⟨hi,(Option.some.inj h).symm⟩
structure nA(H:Hp)(p wa ba sa:Addr)(ws:List Int)(bs ss:List (Option Int)):Prop where
 tp:H p=some (.tup [.ref wa,.ref ba,.ref sa])
 w:H wa=some (.lst (ws.map V.int))
 b:H ba=some (.lst (vos bs))
 s:H sa=some (.lst (vos ss))
structure kY(H:Hp)(p ca la:Addr)(cs ls:List Int):Prop where
 tp:H p=some (.tup [.ref ca,.ref la])
 c:H ca=some (.lst (cs.map V.int))
 l:H la=some (.lst (ls.map V.int))
theorem nA.mono{H H':Hp}{p wa ba sa:Addr}{ws:List Int}{bs ss:List (Option Int)}(h:nA H p wa ba sa ws bs ss)(g:aJ H H'):nA H' p wa ba sa ws bs ss:=⟨g _ _ h.tp,g _ _ h.w,g _ _ h.b,g _ _ h.s⟩
theorem kY.mono{H H':Hp}{p ca la:Addr}{cs ls:List Int}(h:kY H p ca la cs ls)(g:aJ H H'):kY H' p ca la cs ls:=⟨g _ _ h.tp,g _ _ h.c,g _ _ h.l⟩
structure Fit(k:Nat)(ws:List Int)(bs ss:List (Option Int))(cs ls:List Int):Prop where
 w:ws.length=k
 b:bs.length=k
 s:ss.length=2*k
 c:cs.length=2*k
 l:ls.length=2*k
 n:k<=100
 wb:∀x∈ws,0<=x/\x<=1000
def FJ(bs:List (Option Int))(ls:List Int)(k:Nat):Prop:=∀b,ov bs k=some b->sum2 ls k<=b
def qU(ss:List (Option Int))(cs:List Int)(k:Nat):Prop:=∀c,ov ss k=some c->at0 cs k=c
def l0(bs ss:List (Option Int))(cs ls:List Int)(n:Nat):Prop:=(∀k,k<n->FJ bs ls k)/\∀k,k<2*n->qU ss cs k
noncomputable def iM(bs ss:List (Option Int))(cs ls:List Int)(n:Nat):Bool:=@decide (l0 bs ss cs ls n) (Classical.propDecidable _)
theorem mR{bs ss:List (Option Int)}{cs ls:List Int}{n:Nat}(h:l0 bs ss cs ls n):iM bs ss cs ls n=true:=by unfold iM;simp[h]
theorem mS{bs ss:List (Option Int)}{cs ls:List Int}{n:Nat}(h:¬l0 bs ss cs ls n):iM bs ss cs ls n=false:=by unfold iM;simp[h]
def A8(ws ls:List Int)(n:Nat):List Int:=(ZR n).map λk=>sum2 ls k*at0 ws k
def costOf(ws ls:List Int)(n:Nat):Int:=(A8 ws ls n).sum
theorem A7(ws ls:List Int)(n:Nat):(ZR n).map (λk=>V.int (sum2 ls k*at0 ws k))=(A8 ws ls n).map V.int:=by unfold A8;rw[Ym];rfl
theorem GF(ws ls:List Int)(n:Nat):(ZR n).map (λk=>V.int (at0 ws k*sum2 ls k))=(A8 ws ls n).map V.int:=by
 rw[<-A7];congr 1;funext k;rw[Int.mul_comm]
end K32
namespace L2
open PySem PyProof.Rows NM
theorem kG{H:Hp}{wa:Addr}{ws:List Way}{rs:List Addr}(e1:H wa=some (.lst (rs.map V.ref)))(e2:rs.length=ws.length)(e3:∀(i:Nat) w,ws[i]?=some w->∃r,rs[i]?=some r/\H r=some (.tup (wv w))){r:Addr}{w:Way}(er:H r=some (.tup (wv w))) :
  eK (upd H wa (.lst (rs.map V.ref++[.ref r]))) wa (ws++[w]):=by
 refine(aQ (rs++[r]) (by rw[aA,Zt];rfl) (by simp[e2]) (λj x hx=>?_));by_cases hj:j<ws.length
 ·rw[Zx hj]at hx;obtain⟨r',q1,q2⟩:=e3 j x hx;exact(xWP r' (by rw[Zx (by lia)];exact q1) (by rw[aE (bZ q2 e1 (λz=>nomatch z))];exact q2))
 ·have hj2:j=ws.length:=by
   have:=(Zj.mp hx).1;simp at this;lia
  subst hj2;simp at hx;subst hx;exact(xWP r (by rw[<-e2];simp) (by rw[aE (bZ er e1 (λz=>nomatch z))];exact er))
theorem DA{H:Hp}{ws1 ws2:List Way}{rs1 rs2:List Addr}(e2:rs1.length=ws1.length)(e3:∀(i:Nat) w,ws1[i]?=some w->∃r,rs1[i]?=some r/\H r=some (.tup (wv w)))
  (f2:rs2.length=ws2.length) (f3:∀(i:Nat) w,ws2[i]?=some w->∃r,rs2[i]?=some r/\H r=some (.tup (wv w))) {p:Addr}(hp:H p=none) :
  eK (upd H p (.lst (rs1.map V.ref++rs2.map V.ref))) p (ws1++ws2):=by
 have g:=aB hp (.lst (rs1.map V.ref++rs2.map V.ref));refine(aQ (rs1++rs2) (by rw[aA,Zt]) (by simp[e2,f2]) (λj x hx=>?_));by_cases hj:j<ws1.length
 ·rw[Zx hj]at hx;obtain⟨r',q1,q2⟩:=e3 j x hx;exact(xWP r' (by rw[Zx (by lia)];exact q1) (g _ _ q2))
 ·rw[Zy (by lia)]at hx;obtain⟨r',q1,q2⟩:=f3 _ x hx;exact(xWP r' (by rw[Zy (by lia),e2];exact q1) (g _ _ q2))
theorem dW.mono{H H':Hp}{w:Addr}{n:Nat}{ts:MM.aV}{os:MM.aR}(h:dW H w n ts os)(g:aJ H H'):dW H' w n ts os:=g.web h
end L2
namespace K32
open PySem L2 PyProof.Rows NM
noncomputable abbrev LL(ts:MM.aV)(os:MM.aR):List (List Nat):=MM.aT (MM.behind ts os) (2*ts.length)
structure gN(ts:MM.aV)(os:MM.aR)(nm:List Nat):Prop where
 len:nm.length=2*ts.length
 at_:∀(k:Nat) (d:List Nat) (x:Nat),(LL ts os)[k]?=some d->x∈d->nm.getD x 0=k
theorem gN.uniq{ts:MM.aV}{os:MM.aR}{nm nm':List Nat}(g:MM.Good ts os)(h:gN ts os nm)(h':gN ts os nm'):nm=nm':=by
 have h1:=h.len;have h2:=h'.len;apply Yt;intro i;by_cases hi:i<2*ts.length
 ·obtain⟨k,d,q1,q2,_⟩:=MM.fB g.maps hi;have e1:=h.at_ k d i q1 q2;have e2:=h'.at_ k d i q1 q2;have a1:i<nm.length:=by lia
  have a2:i<nm'.length:=by lia
  simp only[List.getD,Zz a1,Zz a2,YR]at e1 e2;rw[Zz a1,Zz a2,e1,e2]
 ·rw[Zr (by lia),Zr (by lia)]
def eP(n:Nat)(ts:MM.aV)(nm:List Nat)(ss:List (Option Int))(e:Nat):Way:=⟨MM.place ts (MM.oth e),n+nm.getD e 0,(ov ss e).getD 1,some ((ov ss e).getD 4),0⟩
def sZ(n:Nat)(nm:List Nat)(ws:List Int)(bs:List (Option Int))(e:Nat):Way:=⟨n+nm.getD e 0,n+nm.getD (MM.oth e) 0,0,ov bs (e / 2),at0 ws (e / 2)⟩
def fO(n:Nat)(ts:MM.aV)(nm:List Nat)(ws:List Int)(bs ss:List (Option Int)):List Way:=(ZR (2*ts.length)).map (eP n ts nm ss)++(ZR (2*ts.length)).map (sZ n nm ws bs)
def eY(ll:List (List Nat))(outer k:Nat):Int:=(if k=outer then -4 else 4)-2*((ll.getD k []).length:Int)
def cM(n:Nat)(ll:List (List Nat))(outer:Nat):List Int:=ZF n 4++(ZR ll.length).map (eY ll outer)
theorem hV{α:Type}(f:Nat->α)(i:Nat):(ZR (i+1)).map f=(ZR i).map f++[f i]:=by rw[ZH,Zt];rfl
def D4:Sp:=λvs H Q _=>∃(wa sa:Addr) (n:Nat) (ts:MM.aV) (os:MM.aR) (ss:List (Option Int)),vs=[.ref wa,.ref sa]/\dW H wa n ts os/\MM.Good ts os/\ts.length<=40/\H sa=some (.lst (vos ss))/\ss.length=2*ts.length /\
 ∀(r:Addr) (nm:List Nat) (H':Hp),aJ H H'->H r=none->gN ts os nm->eK H' r ((ZR (2*ts.length)).map (eP n ts nm ss))->Q (.ref r) H'
theorem CB(T:Txt K mg t):Ok P w base T 63 7 D4:=by
 left
 obtain⟨wa,sa,n,ts,os,ss,rfl,hWeb,g,h40,hS,hsl,q⟩:=h;refine(xWP _ (by exists 2,cL rfl (T.z 3) ?_,qP,0,3,4,5,jQ ?_ aM ?_,eX,aI,1,3,aI,1,3,6,jQ ?_ ?_ ?_,eX,aI,1,3,mK (T.g 0),aI,1,3,2,uA,0,3,aX,aG,0,4,5,6,2) ?_);refine⟨(by show 0<=ZW;decide),λwl hwl=>?_⟩;have g0:=aB hwl (.lst []);refine(aY wa n ts os rfl (hWeb.mono g0) g (by lia) (λr nm H1 g1 hr0 er hnl hnm=>?_));have num:gN ts os nm:=⟨hnl,hnm⟩
 have nrl:r≠wl:=(aC aA hr0).symm;have w1:H1 wl=some (.lst []):=g1 _ _ aA
 let Pv1:Nat->L2.St->L2.Hp->Prop:=λi σ H'=>eK H' wl ((ZR i).map (eP n ts nm ss))/\aJ H H'/\H' r=some (.lst (vns nm))/\∃o3 o4 o5 o6:Option V,σ=[some (.ref wa),some (.ref sa),some (.ref wl),o3,o4,o5,o6]
 refine(aQ r rfl ⟨_,SqL.of er⟩ (dD (xs:=vns nm)
  Pv1
  (cH (aQ ([]) w1 rfl (λi w h=>by simp at h)) (g0.trans g1) er (jG _ _ _ _ rfl)) (λi σ H' _ h=>SqL.of h.2.2.1) ?_ ?_))
 ·rintro i x σ H2 Tp hx ⟨⟨rs,e1,e2,e3⟩,g2,er2,o3,o4,o5,o6,rfl⟩ hTp;obtain⟨hi,rfl⟩:=xY hx;have hi':i<2*ts.length:=by lia
  have g3:=aB hTp (.tup [vn i,vn (nm.getD i 0)]);have g23:=g2.trans g3;have e1':=g3 _ _ e1;have eS:=g23 _ _ hS;have hWeb3:=hWeb.mono g23;obtain⟨tA,oA,hw,_,_⟩:=id hWeb3;refine(aQ _ (SqT.of aA) rfl ?_);have fin:∀(lo hi:Int),lo=(ov ss i).getD 1->hi=(ov ss i).getD 4->∀(p:Addr),(upd H2 Tp (.tup [vn i,vn (nm.getD i 0)])) p=none ->
    eK (upd (upd (upd H2 Tp (.tup [vn i,vn (nm.getD i 0)])) p (.tup [vn (MM.place ts (MM.oth i)),.int ((n:Int)+((nm.getD i 0:Nat):Int)),.int lo,.int hi,.int 0])) wl (.lst (rs.map V.ref++[.ref p]))) wl ((ZR (i+1)).map (eP n ts nm ss)) /\
    aJ H (upd (upd (upd H2 Tp (.tup [vn i,vn (nm.getD i 0)])) p (.tup [vn (MM.place ts (MM.oth i)),.int ((n:Int)+((nm.getD i 0:Nat):Int)),.int lo,.int hi,.int 0])) wl (.lst (rs.map V.ref++[.ref p]))) /\
    (upd (upd (upd H2 Tp (.tup [vn i,vn (nm.getD i 0)])) p (.tup [vn (MM.place ts (MM.oth i)),.int ((n:Int)+((nm.getD i 0:Nat):Int)),.int lo,.int hi,.int 0])) wl (.lst (rs.map V.ref++[.ref p]))) r=some (.lst (vns nm)):=by
   intro lo hi hlo hhi p hp;have g4:=aB hp (.tup [vn (MM.place ts (MM.oth i)),.int ((n:Int)+((nm.getD i 0:Nat):Int)),.int lo,.int hi,.int 0]);refine(xPP ?_ (λb o h=>by rw[aE (aC h hwl)];exact g4 _ _ (g23 _ _ h)) (by rw[aE nrl];exact g4 _ _ (g3 _ _ er2)));rw[hV];refine kG (g4 _ _ e1') e2 (λj w hj=>by obtain⟨r',q1,q2⟩:=e3 j w hj;exact(xWP r' q1 (g4 _ _ (g3 _ _ q2)))) ?_;rw[aA];unfold wv eP;rw[<-hlo,<-hhi];simp only[vo,vn,Int.natCast_add]
  rcases ho:ov ss i with _ | c
  ·have eC:atI (vos ss) ((i:Nat):Int)=some .non:=by rw[rM (j:=i) (by lia) rfl,ho];rfl
   refine(aP _ _ (SqL.of eS) eC rfl (iTb (by rfl) ?_));refine(aP _ _ (SqL.of eS) eC rfl (iTb (by rfl) ?_));refine(pU (.inl ⟨rfl,_,SqL.of e1'⟩) wa n ts os i rfl hWeb3 hi' (aH _ _ (SqT.of hw) rfl ⟨ (by show 5<=ZW;decide),λp hp=>?_⟩));obtain⟨f1,f2,f3⟩:=fin 1 4 (by rw[ho];rfl) (by rw[ho];rfl) p hp;exact(kE _ (aB hp _ _ _ e1') (by rw[Zq,e2];simp;exact Xz hi' (YQ (by lia:2*ts.length<=80) (by decide))) f1 f2 f3 (jG _ _ _ _ rfl))
  ·have eC:atI (vos ss) ((i:Nat):Int)=some (.int c):=by rw[rM (j:=i) (by lia) rfl,ho];rfl
   refine(aP _ _ (SqL.of eS) eC rfl (iFb (by rfl) (aH _ _ (SqL.of eS) eC ?_)));refine(aP _ _ (SqL.of eS) eC rfl (iFb (by rfl) (aH _ _ (SqL.of eS) eC ?_)));refine(pU (.inl ⟨rfl,_,SqL.of e1'⟩) wa n ts os i rfl hWeb3 hi' (aH _ _ (SqT.of hw) rfl ⟨ (by show 5<=ZW;decide),λp hp=>?_⟩));obtain⟨f1,f2,f3⟩:=fin c c (by rw[ho];rfl) (by rw[ho];rfl) p hp;exact(kE _ (aB hp _ _ _ e1') (by rw[Zq,e2];simp;exact Xz hi' (YQ (by lia:2*ts.length<=80) (by decide))) f1 f2 f3 (jG _ _ _ _ rfl))
 ·rintro σ H2 ⟨hw2,g2,er2,o3,o4,o5,o6,rfl⟩;rw[Zq,hnl]at hw2;exact(q wl nm H2 g2 hwl num hw2)
def LI:Sp:=λvs H Q _=>∃(wa p wA bA sA:Addr) (n:Nat) (ts:MM.aV) (os:MM.aR) (ws:List Int) (bs ss:List (Option Int)),vs=[.ref wa,.ref p]/\dW H wa n ts os/\MM.Good ts os/\ts.length<=40/\nA H p wA bA sA ws bs ss/\ws.length=ts.length/\bs.length=ts.length /\
 ∀(r:Addr) (nm:List Nat) (H':Hp),aJ H H'->H r=none->gN ts os nm->eK H' r ((ZR (2*ts.length)).map (sZ n nm ws bs))->Q (.ref r) H'
theorem IY(T:Txt K mg t):Ok P w base T 64 7 LI:=by
 left
 obtain⟨wa,p,wA,bA,sA,n,ts,os,ws,bs,ss,rfl,hWeb,g,h40,hW,hwl',hbl,q⟩:=h;refine(xWP _ (by exists 2,aG,1,3,aG,1,4,qP,0,5,cL rfl (T.z 3) ?_,4,6,7,8,aI,4,jS,6,5,aX,aG,0,7,aX,aG,0,8,aI,3,bE,6,aI,2,bE,6,5) ?_);refine(aH _ _ (SqT.of hW.tp) rfl ?_);refine(aH _ _ (SqT.of hW.tp) rfl ?_);refine(aY wa n ts os rfl hWeb g (by lia) (λr nm H1 g1 hr0 er hnl hnm=>?_));have num:gN ts os nm:=⟨hnl,hnm⟩
 refine⟨(by show 0<=ZW;decide),λwl hwl=>?_⟩;have g0:=g1.trans (aB hwl (.lst []));have er1:=aB hwl (.lst []) _ _ er;have nrl:r≠wl:=aC er hwl;have hwl0:H wl=none:=g1.free hwl
 let Pv2:Nat->L2.St->L2.Hp->Prop:=λi σ H'=>eK H' wl ((ZR i).map (sZ n nm ws bs))/\aJ H H'/\H' r=some (.lst (vns nm))/\∃o6 o7 o8:Option V,σ=[some (.ref wa),some (.ref p),some (.ref wA),some (.ref bA),some (.ref r),some (.ref wl),o6,o7,o8]
 refine(aQ r rfl ⟨_,SqL.of er1⟩ (dD (xs:=vns nm)
  Pv2
  (cH (aQ ([]) aA rfl (λi w h=>by simp at h)) g0 er1 (oS _ _ _ rfl)) (λi σ H' _ h=>SqL.of h.2.2.1) ?_ ?_))
 ·rintro i x σ H2 Tp hx ⟨⟨rs,e1,e2,e3⟩,g2,er2,o6,o7,o8,rfl⟩ hTp;obtain⟨hi,rfl⟩:=xY hx;have hi':i<2*ts.length:=by lia
  have ho':MM.oth i<2*ts.length:=MM.bQ hi';have g3:=aB hTp (.tup [vn i,vn (nm.getD i 0)]);have g23:=g2.trans g3;have e1':=g3 _ _ e1;have er3:=g3 _ _ er2;have hW3:=hW.mono g23;obtain⟨tA,oA,hw,_,_⟩:=id (hWeb.mono g23);have ei2:((i:Nat):Int) / 2=((i / 2:Nat):Int):=by lia
  refine(aQ _ (SqT.of aA) rfl ?_);refine(zP i rfl _ _ (SqL.of er3) (j4 (j:=MM.oth i) (by lia) rfl) ?_);refine(i3 (.inl ⟨rfl,_,SqL.of e1'⟩) _ _ (SqT.of hw) rfl (aH _ _ (SqT.of hw) rfl (lJ ⟨by decide,by decide⟩ _ _ (SqL.of hW3.b) (rM (j:=i / 2) (by lia) ei2) ⟨by decide,by decide⟩ _ _ (SqL.of hW3.w) (xPP (aU (j:=i / 2) (by lia) ei2) (by show 5<=ZW;decide) (λpp hpp=>?_)))));have g4:=aB hpp (.tup [.int ((n:Int)+((nm.getD i 0:Nat):Int)),.int ((n:Int)+((nm.getD (MM.oth i) 0:Nat):Int)),.int 0,vo (ov bs (i / 2)),.int (at0 ws (i / 2))]);refine(kE _ (g4 _ _ e1') (by rw[Zq,e2];simp;exact Xz hi' (YQ (by lia:2*ts.length<=80) (by decide))) ?_ (λb o h=>by rw[aE (aC h hwl0)];exact g4 _ _ (g23 _ _ h)) (by rw[aE nrl];exact g4 _ _ er3) (oS _ _ _ rfl));rw[hV];refine kG (g4 _ _ e1') e2 (λj w hj=>by obtain⟨r',q1,q2⟩:=e3 j w hj;exact(xWP r' q1 (g4 _ _ (g3 _ _ q2)))) ?_;rw[aA];unfold wv sZ;simp only[vn,Int.natCast_add]
 ·rintro σ H2 ⟨hw2,g2,er2,o6,o7,o8,rfl⟩;rw[Zq,hnl]at hw2;exact(q wl nm H2 g2 hwl0 num hw2)
def DP:Sp:=λvs H Q _=>∃(k o:Nat),vs=[vn k,vn o]/\Q (.int (if k=o then -4 else 4)) H
theorem sU(T:Txt K mg t):Ok P w base T 55 1 DP:=by
 left
 obtain⟨k,o,rfl,q⟩:=h;refine(xWP _ (by exists jQ ?_ ?_ ?_,bY,0,1,mK (T.g 0),mK (T.g 0)) ?_);refine(i2 (λc=>?_) (λc=>?_))
 ·have:k=o:=by
   have c':V.int (k:Int)=V.int (o:Int):=Yf c;have:=V.int.inj c'
   lia
  rw[Yb this]at q;exact(q)
 ·have:¬k=o:=λz=>c (by subst z;exact Ye rfl);rw[Ya this]at q;exact q
def HJ:Sp:=λvs H Q _=>∃(wa p wA bA sA:Addr) (n o:Nat) (ts:MM.aV) (os:MM.aR) (ws:List Int) (bs ss:List (Option Int)),vs=[.ref wa,vn o,.ref p]/\dW H wa n ts os/\MM.Good ts os/\ts.length<=40/\n<=40/\o<(LL ts os).length/\nA H p wA bA sA ws bs ss/\ws.length=ts.length/\bs.length=ts.length/\ss.length=2*ts.length /\
 ∀(r na wl:Addr) (nm:List Nat) (H':Hp),aJ H H'->H na=none->H wl=none->na≠wl->gN ts os nm->gI H' r na wl (cM n (LL ts os) o) (fO n ts nm ws bs ss)->Q (.ref r) H'
theorem qQ(T:Txt K mg t):Ok P w base T 62 8 HJ:=by
 left
 obtain⟨wa,p,wA,bA,sA,n,o,ts,os,ws,bs,ss,rfl,hWeb,g,h40,hn40,ho,hW,hwl',hbl,hsl,q⟩:=h;have hLN:(LL ts os).length<=2*ts.length:=by
  have:=MM.qY g.maps _ (ZR (2*ts.length)) (ZC _) (λz hz=>Zs.mp hz);rw[Yj]at this;exact this
 refine(xWP _ (by exists (e8 3 ["place"] [none]),aG,0,0,mK (T.g 0),cL rfl (T.z 3) ?_,hZ,0,4,5,3,sU,4,1,5,3,qN,CB,0,aG,2,IY,0,2) ?_);obtain⟨tA,oA,hw,_,_⟩:=id hWeb;refine(nG _ _ (SqT.of hw) rfl _ rfl (by lia) (by lia) (λna hna=>?_));refine bD ((n:Int)).toNat (λ_=>.int 4) hna (by lia) (λi H' hi _=>hi) (λH' _=>ZC _) ?_ ?_
 ·rintro i H' x H'' k hi g2 ⟨rfl,rfl⟩ hk;exact⟨(Fills.refl _).set _ rfl,hk _ (aJ.refl _)⟩
 intro H1 g1 ena;rw[show(ZR ((n:Int)).toNat).map (λ_=>V.int 4)=(ZF n (4:Int)).map V.int by
  have:((n:Int)).toNat=n:=by lia
  rw[this];apply Yt;intro i;by_cases h:i<n
  ·simp[h]
  ·simp[h]]at ena
 dsimp only[b0];refine(aY wa n ts os rfl (hWeb.mono g1) g (by lia) (λr rr H2 g2 nos=>?_));have g12:=g1.trans g2;have ena2:=g2 _ _ ena;have nrr:na≠r:=λz=>by have:=nos.new;rw[<-z,ena]at this;cases this
 have nrx:∀x∈rr,x≠na:=λx hx z=>by have:=nos.news x hx;rw[z,ena]at this;cases this
 let Pv3:Nat->L2.St->L2.Hp->Prop:=λi σ H'=>aJ H H'/\H' r=some (.lst (rr.map V.ref))/\(∀(j:Nat) l,(LL ts os)[j]?=some l->∃x,rr[j]?=some x/\H' x=some (.lst (vns l)))/\H' na=some (.lst ((ZF n (4:Int)++(ZR i).map (eY (LL ts os) o)).map V.int))/\∃o4 o5:Option V,σ=[some (.ref wa),some (vn o),some (.ref p),some (.ref na),o4,o5]
 refine(aQ r rfl ⟨_,SqL.of nos.at_⟩ (dD (xs:=rr.map V.ref)
  Pv3
  (bU g12 nos.at_ nos.row (by simpa using ena2) (xWW _ _ rfl)) (λi σ H' _ h=>SqL.of h.2.1) ?_ ?_))
 ·rintro i x σ H3 Tp hx ⟨g3,er3,hrow,en3,o4,o5,rfl⟩ hTp;obtain⟨y,hy,rfl⟩:=eU hx;have hil:i<(LL ts os).length:=by rw[<-nos.len];exact(Zj.mp hy).1
  obtain⟨y',hy',ey⟩:=hrow i _ (Zz hil);rw[hy]at hy';cases hy';have g4:=aB hTp (.tup [vn i,.ref y]);have en4:=g4 _ _ en3;have ey4:=g4 _ _ ey;refine(aQ _ (SqT.of aA) rfl ?_);refine(xR (.inl ⟨rfl,_,SqL.of en4⟩) i o rfl y _ rfl (.inl (SqL.of ey4)) (.inl ⟨by decide,by decide⟩) (aQ _ en4 ?_ ?_))
  ·simp;exact Xz (by lia:n+i<200) (by decide)
  refine(bU (λb o' h=>by rw[aE (aC h hna)];exact g4 _ _ (g3 _ _ h)) (by rw[aE nrr.symm];exact g4 _ _ er3) (λj l hl=>?_) ?_ (xWW _ _ rfl))
  ·obtain⟨x,q1,q2⟩:=hrow j l hl;exact(xWP x q1 (by rw[aE (nrx x (Zg q1))];exact g4 _ _ q2))
  ·rw[aA,hV,<-Yn,Zt (l₂:=[eY (LL ts os) o i])];have e:eY (LL ts os) o i=(if i=o then -4 else 4)-2*(((vns (LL ts os)[i]).length:Nat):Int):=by
    unfold eY;simp[List.getD,hil]
   rw[e];rfl
 rintro σ H3 ⟨g3,er3,hrow,en3,o4,o5,rfl⟩;rw[Zq,nos.len]at en3;have hW3:=hW.mono g3;refine(aH _ _ (SqT.of hW3.tp) rfl (fN wa sA n ts os ss rfl (hWeb.mono g3) g (cH h40 hW3.s hsl (λc1 nm H4 g4 hc1 num hc=>?_))));have g34:=g3.trans g4;refine(b8 wa p wA bA sA n ts os ws (pQ bs ss rfl (hWeb.mono g34) g h40 (hW.mono g34) hwl' hbl (λc2 nm' H5 g5 hc2 num' hl=>?_)));have enm:=gN.uniq g num num';subst enm;obtain⟨rs1,a1,a2,a3⟩:=hc.mono g5;obtain⟨rs2,b1,b2,b3⟩:=hl;refine(aP _ _ a1 b1 (by rw[Zq,Zq,a2,b2];simp;exact YQ (by lia:2*ts.length+2*ts.length<=200) (by decide)) (λwl hwl=>?_));have g6:=aB hwl (.lst (rs1.map V.ref++rs2.map V.ref));have g35:=g4.trans g5;refine⟨(by show 2<=ZW;decide),λr' hr'=>?_⟩;have g7:=aB hr' (.tup [.ref na,.ref wl]);have en6:=g6 _ _ (g35 _ _ en3);refine q r' na wl nm _ (((g3.trans g35).trans g6).trans g7) hna ((g3.trans g35).free hwl) (aC (g35 _ _ en3) hwl) num ⟨aA,g7 _ _ en6,eK.mono (DA a2 a3 b2 b3 hwl) g7⟩
end K32
namespace L2
open PySem PySem.Spec PyProof.Rows
theorem NK{H:Hp}{a:Addr}{tn:MM.aV}(h:TsI H a (AW.cT tn)):gM H a tn:=by
 obtain⟨tr,h1,h2,h3⟩:=h;refine(aQ tr h1 (by rw[h2,AW.nY]) (λi t e=>h3 i ((t.1:Int),(t.2:Int)) ?_));unfold AW.cT;rw[Zk,e];rfl
theorem OJ{H:Hp}{a:Addr}{on:MM.aR}(h:OsI H a (AW.cO on)):oH H a on:=by
 obtain⟨tr,h1,h2,h3⟩:=h;refine(aQ tr h1 (by rw[h2,AW.GI]) (λi l e=>?_));obtain⟨r,r1,r2⟩:=h3 i (l.map λn:Nat=>(n:Int)) (by unfold AW.cO;rw[Zk,e];rfl);exact(xWP r r1 (by rw[r2,Ym];rfl))
theorem xW{H:Hp}{w:Addr}{tn:MM.aV}{on:MM.aR}(h:xG H w on.length (AW.cT tn) (AW.cO on)):dW H w on.length tn on:=let⟨tA,oA,h1,h2,h3⟩:=h;(aH tA oA h1 (NK h2) (OJ h3))
end L2
namespace K32
open PySem L2 PyProof.Rows
theorem chO{σ:L2.St}{H:Hp}{Q:VK}{x:Int}{tb tc:TE}(hb:∀R:VK,R (.int x) H->tb σ H R)(h1:¬0<=x->Q (.bl false) H)(h2:0<=x->tc σ H λv H'=>rI0 (λi j=>V.bl (decide (i<j))) (.int x) v H' Q) :
  pZ (rI0 λi j=>V.bl (decide (i<=j))) (rI0 λi j=>V.bl (decide (i<j))) (tC (V.int 0)) tb tc σ H Q:=by
 refine hb _ (i2 (λh=>h2 (Yf h)) λh=>h1 λz=>h (Ye z))
structure Mp(H:Hp)(wa:Addr)(tn:MM.aV)(on:MM.aR):Prop where
 w:xG H wa on.length (AW.cT tn) (AW.cO on)
 m:AW.BH on.length (AW.cT tn) (AW.cO on)
 g:MM.Good tn on
theorem Mp.same{H H':Hp}{wa:Addr}{tn:MM.aV}{on:MM.aR}(h:Mp H wa tn on)(g:aJ H H'):Mp H' wa tn on:=⟨h.w.same g,h.m,h.g⟩
theorem Mp.few{H:Hp}{wa:Addr}{tn:MM.aV}{on:MM.aR}(h:Mp H wa tn on):tn.length<=400:=by have:=h.m.1.2.2;rw[AW.nY]at this;exact this
def N4:Sp:=λvs H Q _=>∃(wa:Addr) (tn:MM.aV) (on:MM.aR),vs=[.ref wa]/\Mp H wa tn on/\MM.Flat tn on/\∀H',aJ H H'->Q .non H'
theorem FH(T:Txt K mg t):Ok P w base T 24 7 N4:=by
 left
 obtain⟨wa,tn,on,rfl,hM,hF,q⟩:=h;have h4:=hM.few;refine(xWP _ (aS (kK (bT (FG T) hr (T.f 11) aZ (aK (pv 0) aO)))
  (a0 (eQ (iL (bH (bT (JA T) hr (T.f 23) aZ (aK (pv 0) aO)) (λ_=>rfl))) fP cE))) ?_)
 refine(l7 wa _ _ _ rfl hM.w hM.m (λH1 g1=>?_));refine(aY wa _ tn on rfl (xW (hM.w.same g1)) hM.g (by lia) (λH2 g2=>(xWP _ rfl (iFb (by rw[F5 hF];rfl) (q _ (g1.trans g2))))))
noncomputable abbrev nL(tn:MM.aV)(on:MM.aR):Nat:=(MM.aT (MM.behind tn on) (2*tn.length)).length
def N1:Sp:=λvs H Q _=>∃(wa:Addr) (o:Int) (tn:MM.aV) (on:MM.aR),vs=[.ref wa,.int o]/\Mp H wa tn on/\MM.Flat tn on/\0<=o/\o<nL tn on/\∀H',aJ H H'->Q .non H'
theorem MS(T:Txt K mg t):Ok P w base T 25 8 N1:=by
 left
 obtain⟨wa,o,tn,on,rfl,hM,hF,h0,h1,q⟩:=h;have h4:=hM.few;refine(xWP _ (aS (kK (bT (FH T) hr (T.f 24) aZ (aK (pv 0) aO)))
  (a0 (eQ (iL (jM k9 jI aM (pv 1) (aN bK rfl (T.z 6) PySem.boot_len (aK (bT (hZ T) hr (T.f 20) aZ (aK (pv 0) aO)) aO)))) fP cE))) ?_)
 refine(dO wa tn on rfl hM hF (λH1 g1=>?_));dsimp only[zT,BO,HC,G8,vC];refine chO (x:=o) ?h1 ?h2 ?h3
 case h1=>exact λR h=>(h)
 case h2=>exact λz=>Yg h0 z
 intro _;refine(aY wa _ tn on rfl (xW (hM.w.same g1)) hM.g (by lia) (λr rr H2 g2 n2=>(aH r _ rfl (.inl (SqL.of n2.at_)) ?_)));have hl:(((rr.map V.ref).length:Nat):Int)=(nL tn on:Int):=by rw[Zq,n2.len]
 exact iFb (by rw[hl,Ye h1];rfl) (q _ (g1.trans g2))
end K32
namespace L2
open PySem PySem.Spec PyProof.Rows
theorem CV(xs:List V)(k:Nat):oV xs (some (k:Int)) none=xs.drop k:=by
 unfold oV;rw[HT.l9,HT.pE];by_cases h:k<=xs.length
 ·rw[Nat.min_eq_left h,List.take_of_length_le (by rw[Yp];lia)]
 ·rw[Nat.min_eq_right (by lia),List.drop_of_length_le (ZC _),List.drop_of_length_le (by lia),List.take_nil]
theorem JX(xs:List V)(k:Nat):oV xs none (some (k:Int))=xs.take k:=by
 unfold oV;rw[HT.l9,HT.pE,List.drop_zero,Nat.sub_zero];by_cases h:k<=xs.length
 ·rw[Nat.min_eq_left h]
 ·rw[Nat.min_eq_right (by lia),List.take_of_length_le (ZC _),List.take_of_length_le (by lia)]
end L2
namespace K32
open PySem L2 PyProof.Rows NM
theorem HV(n:Nat):(ZF n (4:Int)).sum=4*n:=by
 induction n with
 |zero=>rfl
 |succ n ih=>rw[List.replicate_succ,List.sum_cons,ih];lia
theorem zV(f g:Nat->Int):∀l:List Nat,(l.map λk=>f k-2*g k).sum=(l.map f).sum-2*(l.map g).sum
 |[]=>rfl
 |k::l=>by
  rw[ZI,List.sum_cons,zV f g l,ZI,List.sum_cons,ZI,List.sum_cons];lia
theorem zW(o:Nat):∀n:Nat,((ZR n).map λk=>if k=o then (-4:Int) else 4).sum=if o<n then 4*(n:Int)-8 else 4*n
 |0=>rfl
 |n+1=>by
  rw[ZH,Zt,List.sum_append,zW o n,ZI,List.map_nil,List.sum_cons,List.sum_nil];by_cases h:n=o
  ·subst h;rw[Yb rfl,Ya (by lia),Yb (by lia)];lia
  ·rw[Ya h];by_cases h2:o<n
   ·rw[Yb h2,Yb (by lia)];lia
   ·rw[Ya h2,Ya (by lia)];lia
theorem vD:∀l:List Nat,(l.map λn:Nat=>(n:Int)).sum=((l.sum:Nat):Int)
 |[]=>rfl
 |a::l=>by rw[ZI,List.sum_cons,List.sum_cons,vD l];lia
theorem AQ:∀ll:List (List Nat),(ll.map List.length).sum=ll.flatten.length
 |[]=>rfl
 |l::ll=>by rw[ZI,List.sum_cons,AQ ll,List.flatten_cons,Zm]
theorem one_le{a:Nat}:∀{l:List Nat},a∈l->a<=l.sum
 |b::l,h=>by
  rw[List.sum_cons];rcases Zn.mp h with rfl | h
  ·lia
  ·have:=one_le h;lia
theorem GP{tn:MM.aV}{on:MM.aR}(g:MM.Good tn on):((LL tn on).map List.length).sum=2*tn.length:=by
 rw[AQ,(MM.y9 g.maps).length_eq,Yj]
theorem CF{tn:MM.aV}{on:MM.aR}(g:MM.Good tn on)(f:MM.Flat tn on){o:Nat}(ho:o<(LL tn on).length):(cM on.length (LL tn on) o).sum=0:=by
 unfold cM;rw[List.sum_append,HV];have e:(ZR (LL tn on).length).map (eY (LL tn on) o)=(ZR (LL tn on).length).map λk=>(if k=o then (-4:Int) else 4)-2*(((LL tn on).getD k []).length:Int):=rfl;have e2:(ZR (LL tn on).length).map (λk=>(((LL tn on).getD k []).length:Int))=((LL tn on).map List.length).map λn:Nat=>(n:Int):=by
  rw[Ym];refine List.ext_getElem (by simp) λi h1 h2=>?_;have hi:i<(LL tn on).length:=by simpa using h1
  simp[Zv,Zz hi]
 rw[e,zV (λk=>if k=o then (-4:Int) else 4) (λk=>(((LL tn on).getD k []).length:Int)),zW,Yb ho,e2,vD,GP g];have:on.length+(LL tn on).length=tn.length+2:=f
 lia
structure C0(ws:List Int)(bs ss:List (Option Int)):Prop where
 w:∀x∈ws,0<=x/\x<=1000
 b:∀x,some x∈bs->0<=x/\x<=1000
 s:∀x,some x∈ss->1<=x/\x<=4
theorem uB{tn:MM.aV}{on:MM.aR}{nm:List Nat}(g:MM.Good tn on)(h:gN tn on nm){e:Nat}(he:e<2*tn.length):nm.getD e 0<(LL tn on).length:=by
 obtain⟨k,d,q1,q2,_⟩:=MM.fB g.maps he;rw[h.at_ k d e q1 q2];exact(Zj.mp q1).1
theorem xF{ws:List Int}{i:Nat}(h:i<ws.length):at0 ws i∈ws:=by unfold at0;rw[Zv,Zz h];exact Zp h
theorem EZ{l:List (Option Int)}{i:Nat}{x:Int}(h:ov l i=some x):some x∈l:=by
 unfold ov at h;rw[Zv]at h;cases hh:l[i]? with
 |none=>rw[hh]at h;cases h
 |some y=>rw[hh]at h;exact h▸Zg hh
theorem uD{tn:MM.aV}{on:MM.aR}{nm:List Nat}{ws:List Int}{bs ss:List (Option Int)}{o:Nat}(g:MM.Good tn on)(f:MM.Flat tn on)(t40:tn.length<=40)(ho:o<(LL tn on).length)(hn:gN tn on nm)(hl:ws.length=tn.length)(hw:C0 ws bs ss) :
  oR (cM on.length (LL tn on) o) (fO on.length tn nm ws bs ss)/\(cM on.length (LL tn on) o).length=tn.length+2/\(fO on.length tn nm ws bs ss).length=4*tn.length:=by
 have fl:on.length+(LL tn on).length=tn.length+2:=f;have nl:(cM on.length (LL tn on) o).length=on.length+(LL tn on).length:=by unfold cM;simp
 have wl:(fO on.length tn nm ws bs ss).length=4*tn.length:=by unfold fO;simp;lia
 have o1:1<=on.length:=by have:=(g.g.has 0 (by have:=g.one;lia)).1;lia
 refine(xPP ⟨by lia,by lia,by lia,CF g f ho,λx hx=>?_,λwy hwy=>?_⟩ (by lia) wl)
 ·unfold cM at hx;rcases Zf.mp hx with z | z
  ·rw[List.eq_of_mem_replicate z];lia
  ·obtain⟨k,hk,rfl⟩:=Zh.mp z;have hk:=Zs.mp hk;have:((LL tn on).getD k []).length<=2*tn.length:=by
    rw[<-GP g,Zv,Zz hk];exact one_le (Yr (Zp hk))
   unfold eY;split<;>lia
 ·unfold fO at hwy;rcases Zf.mp hwy with z | z
  ·obtain⟨e,he,rfl⟩:=Zh.mp z;have he:=Zs.mp he;have h1:=(g.g.has (MM.oth e) (MM.bQ he)).1;have h2:=uB g hn he;cases hs:ov ss e with
   |none=>unfold eP;rw[hs];exact⟨by show MM.place tn (MM.oth e)<_;lia,by show on.length+nm.getD e 0<_;lia,by show(-1000:Int)<=1/\(1:Int)<=1000;lia,λh hh=>by cases hh;show(1:Int)<=4/\(4:Int)<=1000;lia,by show(-1000:Int)<=0/\(0:Int)<=1000;lia⟩
   |some x =>
    have:=hw.s x (EZ hs);unfold eP;rw[hs];exact⟨by show MM.place tn (MM.oth e)<_;lia,by show on.length+nm.getD e 0<_;lia,by show(-1000:Int)<=x/\x<=1000;lia,λh hh=>by cases hh;show x<=x/\x<=1000;lia,by show(-1000:Int)<=0/\(0:Int)<=1000;lia⟩
  ·obtain⟨e,he,rfl⟩:=Zh.mp z;have he:=Zs.mp he;have h1:=uB g hn he;have h2:=uB g hn (MM.bQ he);have h3:=hw.w _ (xF (ws:=ws) (i:=e / 2) (by lia));refine⟨by show on.length+nm.getD e 0<_;lia,by show on.length+nm.getD (MM.oth e) 0<_;lia,by show(-1000:Int)<=0/\(0:Int)<=1000;lia,λh hh=>?_,by show(-1000:Int)<=at0 ws (e / 2)/\at0 ws (e / 2)<=1000;lia⟩;have:=hw.b h (EZ hh);exact this
theorem O0{n:Nat}{tn:MM.aV}{nm:List Nat}{ws:List Int}{bs ss:List (Option Int)}(hl:ws.length=tn.length)(hw:C0 ws bs ss):∀w∈fO n tn nm ws bs ss,0<=w.c:=λw h=>by
 unfold fO at h;rcases Zf.mp h with z | z
 ·obtain⟨e,he,rfl⟩:=Zh.mp z;exact Int.le_refl 0
 ·obtain⟨e,he,rfl⟩:=Zh.mp z;have he:=Zs.mp he;exact(hw.w _ (xF (ws:=ws) (i:=e / 2) (by lia))).1
theorem MT(T:Txt K mg t):Ok P w base T 49 5 p9:=by
 exact vU T (qT T) (yO T (FA T (pJ T))) (CA T (IZ T (pJ T) (E5 T) (FF T)) (E6 T (pJ T) (yS T) (AK T) (MJ T)) (E7 T) (IQ T (yS T)) (IP T (yS T) (AK T)))
def PY:Sp:=λvs H Q _=>∃(wa p wA bA sA:Addr) (o:Nat) (tn:MM.aV) (on:MM.aR) (ws:List Int) (bs ss:List (Option Int)),vs=[.ref wa,vn o,.ref p]/\Mp H wa tn on/\MM.Flat tn on/\tn.length<=40/\on.length<=40/\o<nL tn on/\nA H p wA bA sA ws bs ss/\ws.length=tn.length/\bs.length=tn.length/\ss.length=2*tn.length/\C0 ws bs ss /\
 (∀(r la:Addr) (lot:List Int) (H':Hp),H la=none->aJ H H'->H' r=some (.tup [.str "none",.ref la])->H' la=some (.lst (lot.map V.int))->lot.length<=42->Q (.ref r) H') /\
 (∀(r v a b ra:Addr) (cs ls ps:List Int) (H':Hp),(H a=none/\H b=none/\H ra=none)->aJ H H'->H' r=some (.tup [.str "shape",.ref v,.ref ra])->H' v=some (.tup [.ref a,.ref b]) ->
  H' a=some (.lst (cs.map V.int))->H' b=some (.lst (ls.map V.int))->H' ra=some (.lst (ps.map V.int))->cs.length=2*tn.length->ls.length=2*tn.length->ps.length<=42->Q (.ref r) H')
theorem OK(T:Txt K mg t):Ok P w base T 65 9 PY:=by
 have G_shortened:=E3 (P:=P) (w:=w) (base:=base) T (jS T)
 left
 obtain⟨wa,p,wA,bA,sA,o,tn,on,ws,bs,ss,rfl,hM,hF,t40,o40,ho,hW,l1,l2,l3,hok,qn,q⟩:=h;refine(xWP _ (by exists MS,0,1,3,MT,qQ,0,1,2,bY,aG,3,3,4,aG,0,5,bT G_shortened hr (T.f 58) aZ ?_,mJ pD ?_ pH ?_,aG,3,pG (pv 4),mJ pD ?_ ?_ pH,aG,3,pG (pv 4),5,aG,3) ?_);refine(b9 wa o tn on rfl hM hF (by lia) (by lia) (λH1 g1=>?_));have hM1:=hM.same g1;dsimp only;refine PD (λσ' H'=>∃r:Addr,σ'=[some (.ref wa),some (vn o),some (.ref p),some (.ref r),none,none]/\aJ H H'/\((∃(la:Addr) (lot:List Int),H la=none/\H' r=some (.tup [.str "none",.ref la])/\H' la=some (.lst (lot.map V.int))/\lot.length<=42) \/
  ∃(z:Str) (ga ra:Addr) (gs ps:List Int),H' r=some (.tup [.str z,.ref ga,.ref ra])/\decide (V.str z=V.str (ZT "none"))=false/\H ra=none/\H' ga=some (.lst (gs.map V.int))/\H' ra=some (.lst (ps.map V.int))/\ps.length<=42/\gs.length=4*tn.length)) (λN n1=>?_) ?_
 ·refine(b8 wa p wA bA sA on.length o tn on (dX ws bs ss rfl (xW hM1.w) hM.g t40 o40 ho (bU (hW.mono g1) l1 l2 l3 (λrn na wl nm H2 g2 _ _ _ hnum hN=>?_))));obtain⟨nok,nlen,wlen⟩:=uD hM.g hF t40 ho hnum l1 hok (bs:=bs) (ss:=ss);have g02:=g1.trans g2;refine(bB rn na wl _ _ rfl hN nok (O0 l1 hok) (xPP (by lia) (λr la lot H3 fl g3 f0 f1 hl=>?_) (λr ga pb gs ps H3 fl g3 f0 f1 f2 pl gl=>?_)))
  ·exact n1 _ _ (aQ r rfl (g02.trans g3) (.inl (aP la lot (g02.free fl) f0 f1 (by lia))))
  ·exact n1 _ _ (aQ r rfl (g02.trans g3) (.inr (bB _ ga pb gs ps f0 (by decide +kernel) (g02.free fl) f1 (xPP f2 (by lia) (by lia)))))
 rintro σ H3 ⟨r,rfl,g3,⟨la,lot,fl,f0,f4,f5⟩ | ⟨z,ga,ra,gs,ps,f0,fz,fra,f1,f2,pl,hg⟩⟩
 ·exact(aH _ _ (SqT.of f0) rfl (iTb (by rfl) (qn _ _ _ _ fl g3 f0 f4 f5)))
 obtain⟨tA,oA,e1,⟨tr,e2,e3,e4⟩,_⟩:=(hM.same g3).w;refine(aH _ _ (SqT.of f0) rfl (iFb fz ?_));refine(bV _ _ (SqT.of e1) rfl tA _ rfl (.inl (SqL.of e2)) (.inl ⟨by decide,by decide⟩) ?_);have em:2*(((tr.map V.ref).length:Nat):Int)=((2*tn.length:Nat):Int):=by rw[Zq,e3,AW.nY];lia
 show b0 4 (V.int (2*(((tr.map V.ref).length:Nat):Int))) _ _ _;rw[em];dsimp only[b0];refine(aH _ _ (SqT.of f0) rfl (xWP _ (SqL.of f1) (λc hc=>?_)));rw[JX];have k4:=aB hc (.lst ((gs.map V.int).take (2*tn.length)));refine(aH _ _ (SqT.of (k4 _ _ f0)) rfl (xWP _ (SqL.of (k4 _ _ f1)) (λd hd=>?_)));rw[CV];have k5:=aB hd (.lst ((gs.map V.int).drop (2*tn.length)));refine⟨(by show 2<=ZW;decide),λu hu=>?_⟩;have k6:=aB hu (.tup [.ref c,.ref d]);refine(fN u c d tn.length (gs.take (2*tn.length)) (gs.drop (2*tn.length)) rfl (SqT.of aA) (SqL.of (k6 _ _ (k5 _ _ (by rw[aA,List.map_take])))) (cH (SqL.of (k6 _ _ (by rw[aA,List.map_drop]))) (by rw[Yp];lia) (by lia) (λv a b H4 g4 na nb nab v1 v2 v3=>?_)));have g46:=k4.trans (k5.trans (k6.trans g4));have k46:=k4.trans (k5.trans k6);have lc2:(gs.take (2*tn.length)).length=2*tn.length:=by rw[Yw];lia
 have ll2:(gs.drop (2*tn.length)).length=2*tn.length:=by rw[Yp];lia
 refine(aP _ _ (SqT.of (g46 _ _ f0)) rfl (by show 3<=ZW;decide) (λy hy=>?_));have k7:=aB hy (.tup [.str "shape",.ref v,.ref ra]);exact q _ v a b ra _ _ ps _ (xPP ((g3.trans k46).free na) ((g3.trans k46).free nb) fra) (g3.trans (g46.trans k7)) aA (k7 _ _ v1) (k7 _ _ v2) (by rw[Ym];exact k7 _ _ v3) (k7 _ _ (g46 _ _ f2)) lc2 (by simp) pl
end K32
namespace K32
open PySem L2 PyProof.Rows
theorem rep1:∀k:Nat,(ZF k [V.int 1]).flatten=(ZF k (1:Int)).map V.int
 |0=>rfl
 |k+1=>by rw[List.replicate_succ,List.flatten_cons,rep1 k];rfl
def DO:Sp:=λvs H Q _=>∃(wa:Addr) (n:Nat) (ts:MM.aV) (os:MM.aR) (c:Int),vs=[.ref wa,.int c]/\dW H wa n ts os/\1<=ts.length/\ts.length<=100 /\
 ∀(p wA bA sA:Addr) (ws:List Int) (bs ss:List (Option Int)) (H':Hp),aJ H H'->nA H' p wA bA sA ws bs ss->ws.length=ts.length->bs.length=ts.length->ss.length=2*ts.length->C0 ws bs ss->Q (.ref p) H'
theorem yP(T:Txt K mg t):Ok P w base T 86 2 DO:=by
 refine T.okN 86 (scm:cV ["_law_web","_law_cell","_law_many","_law_most","_law_weights","_law_bars","_law_sets","_law_k"] _ _) (λvs H Q E h=>?_) ?_
 ·obtain⟨wa,n,ts,os,c,rfl,_⟩:=h;rfl
 intro cdv A outer s H vs Q E hr h nd X;obtain⟨wa,n,ts,os,c,rfl,⟨tA,oA,hw,⟨tr,t1,t2,t3⟩,_⟩,h1,h100,q⟩:=h;have nd_l_k_l_most_l_cell:(["_law_k","_law_most","_law_cell"]:List Str).Nodup:=by decide
 refine(xWP _ (aS (eZ 2 nd (aN bK rfl (T.z 6) PySem.boot_len (aK (cP aG (pv 0) aM (λ_ _=>rfl)) aO)))
  (aS (eZ 3 nd (cP aI (jP (aK aM (aK aM aO))) (bI gL (bI bE (bT (dG T) hr (T.f 76) aZ (aK (pv 1) (aK aM aO))) aM) aM) (λ_ _=>rfl)))
  (aS (qG (i:=4) nd rfl (Or.inl rfl)  (N':=["_law_k","_law_most","_law_cell"]) (js:=[none,some 3,some 1]) rfl (fR rfl (T.z 10) (aK (pv 2) aO)) (λ_ _ _ _ _=>(b7 (i:=0) nd_l_k_l_most_l_cell rfl (Or.inl rfl))) (λ_ _ _ _ _=>tY) (λ_ _ _ _ _=>(bI gL (bT (dG T) hr (T.f 76) aZ (aK (pv 2) (aK (bI aX aM (pv 0)) aO))) (pv 1))))
  (aS (eQ (bL bY (bI gL (bT (dG T) hr (T.f 76) aZ (aK (pv 1) (aK aM aO))) aM) aM (dH _)) (a0 (eZ 4 nd (bI t9 (jP (aK aM aO)) (pv 2)))) cE)
  (aS (eZ 5 nd (bI t9 (jP (aK nP aO)) (pv 2)))
  (aS (eZ 6 nd (bI t9 (jP (aK nP aO)) (bI lT aM (pv 2))))
  (aS (eQ (bL bY (bI gL (bI bE (bT (dG T) hr (T.f 76) aZ (aK (pv 1) (aK aM aO))) aM) aM) aM (dH _)) (a0 (i5 PassesOwn.never rfl (fR rfl (T.z 10) (aK (bI aX aM (bI gL (bT (dG T) hr (T.f 76) aZ (aK (pv 1) (aK aM aO))) aM)) aO)) (b7 (i:=7) nd rfl (Or.inl rfl)) (a0 (dF (bI gL (bI bE (bT (dG T) hr (T.f 76) aZ (aK (pv 1) (aK (bI aX aM (pv 7)) aO))) aM) aM) (eT (pv 5) (bI gL (bT (dG T) hr (T.f 76) aZ (aK (pv 1) (aK (bI aX aM (pv 7)) aO))) (pv 2)) set_list))))) cE)
  (aS (eQ (bL bY (bI gL (bI bE (bT (dG T) hr (T.f 76) aZ (aK (pv 1) (aK aM aO))) aM) aM) aM (dH _)) (a0 (i5 PassesOwn.never rfl (fR rfl (T.z 10) (aK (bI aX aM (bI gL (bT (dG T) hr (T.f 76) aZ (aK (pv 1) (aK aM aO))) aM)) aO)) (b7 (i:=7) nd rfl (Or.inl rfl)) (a0 (dF (bI aX aM (bI gL (bI bE (bT (dG T) hr (T.f 76) aZ (aK (pv 1) (aK (bI aX aM (pv 7)) aO))) aM) aM)) (eT (pv 6) (bI gL (bT (dG T) hr (T.f 76) aZ (aK (pv 1) (aK (bI aX aM (pv 7)) aO))) (bI lT aM (pv 2))) set_list))))) cE)
  (a0 (jN (nO (aK (pv 4) (aK (pv 5) (aK (pv 6) aO)))))))))))))) ?_)
 refine(bO _ (.ref tA) (SqT.of hw) rfl tA _ rfl (.inl (SqL.of t1)) ?_);show b0 2 (V.int ((tr.map V.ref).length:Nat)) _ _ _;rw[Zq,t2];generalize hT:ts.length=T' at *;refine⟨(by show 2<=ZW;decide),λp0 hp0=>?_⟩;have g0:=aB hp0 (.lst [V.int 4,V.int 1001]);have e0:(upd H p0 (.lst [V.int 4,V.int 1001])) p0=some (.lst [V.int 4,V.int 1001]):=aA;generalize upd H p0 (.lst [V.int 4,V.int 1001])=H0 at g0 e0;refine(aP c 41 rfl (by decide) (by decide) (λm0 _ _=>?_));obtain⟨most,hm,hm0⟩:∃most:Int,atI [V.int 4,V.int 1001] (m0 / 12%2)=some (.int most)/\0<most/\most<=1001:=by
  have h2:m0 / 12%2=0\/m0 / 12%2=1:=by lia
  rcases h2 with h2 | h2
  ·exact(aQ 4 (by rw[h2];rfl) (by decide) (by decide))
  ·exact(aQ 1001 (by rw[h2];rfl) (by decide) (by decide))
 refine(tR ⟨by decide,by decide⟩ (by show(0:Int)<2;decide) _ _ (SqL.of e0) hm ?_);refine(dA (T':Int) rfl (by lia) (by lia) (λD hD=>?_));refine wX T' (λ_ v=>∃z:Int,v=.int z/\0<=z/\z<=1000) hD (by lia) (λi H' hi _=>by show i<((T':Int)).toNat;lia) (λH' _=>by show((T':Int)).toNat<=T';lia) ?_ ?_
 ·rintro i H' x H'' k hi g1 ⟨rfl,rfl⟩ hk;refine⟨(Fills.refl _).set _ rfl,?_⟩;refine(aP c (60+(0+(i:Int))) rfl (by lia) (by lia) (λm _ _=>⟨hm0.1,hk _ _ (aQ (m%most) rfl (Xw _ (by lia)) ?_) (aJ.refl _)⟩));have:=Xx m hm0.1
  lia
 intro vs H1 hl hp g1 eD;obtain⟨ws,rfl,lw⟩:=EI (λi v hv=>by obtain⟨z,e,_⟩:=hp i v hv;exact⟨z,e⟩);have wb:∀x∈ws,0<=x/\x<=1000:=λx hx=>by
  obtain⟨i,hi,rfl⟩:=Yy.mp hx;obtain⟨z,e,hz⟩:=hp i (.int ws[i]) (by rw[Zk,Zz hi];rfl);cases e;exact hz
 rw[hl]at lw;have gD:aJ H H1:=g0.trans g1;dsimp only[b0];refine via (λσ' H'=>∃(wA:Addr) (ws:List Int),σ'=[some (.ref wa),some (.int c),some (.int T'),some (.int most),some (.ref wA),none,none,none]/\aJ H H'/\H' wA=some (.lst (ws.map V.int))/\ws.length=T'/\∀x∈ws,0<=x/\x<=1000) (λnx=>?_) ?_
 ·refine(aP c 41 rfl (by decide) (by decide) (λm1 _ _=>⟨(by show(0:Int)<3;decide),i2 (λ_=>?_) (λ_=>nx _ _ (dI D ws rfl gD eD lw wb))⟩));refine⟨(by show 1<=ZW;decide),λp1 hp1=>?_⟩;have g2:=gD.trans (aB hp1 (.lst [V.int 1]));refine(iJ _ aA (by lia) (by lia) (YQ (show 1*((T':Int)).toNat<=100 by lia) (by decide)) (λp2 hp2=>nx _ _ (dI p2 (ZF T' 1) rfl (g2.trans (aB hp2 _)) ?_ (by simp) (λx hx=>by rw[List.eq_of_mem_replicate hx];decide))));rw[aA,show((T':Int)).toNat=T' by lia,rep1]
 clear eD wb lw hp hl gD g1;clear ws;rintro σ1 H2 ⟨wA,ws,rfl,g2,eW,lw,wb⟩;have reps:∀k:Nat,(ZF k [V.non]).flatten=vos (ZF k none):=λk=>by
  induction k with
  |zero=>rfl
  |succ k ih=>rw[List.replicate_succ,List.flatten_cons,ih];rfl
 refine⟨(by show 1<=ZW;decide),λp3 hp3=>?_⟩;have g3:=aB hp3 (.lst [V.non]);refine(iJ _ aA (by lia) (by lia) (YQ (show 1*((T':Int)).toNat<=100 by lia) (by decide)) (λbA hbA=>?_));have g4:=aB hbA (.lst (ZF ((T':Int)).toNat [V.non]).flatten);have eB:(upd (upd H2 p3 (.lst [V.non])) bA (.lst (ZF ((T':Int)).toNat [V.non]).flatten)) bA=some (.lst (vos (ZF T' none))):=by
  rw[aA,reps];congr 4
 have eW2:=g4 _ _ (g3 _ _ eW);have gH:=g2.trans (g3.trans g4);have hb0:H bA=none:=(g2.trans g3).free hbA;generalize upd (upd H2 p3 (.lst [V.non])) bA (.lst (ZF ((T':Int)).toNat [V.non]).flatten)=H3 at eB eW2 gH g4;refine⟨(by show 1<=ZW;decide),λp5 hp5=>?_⟩;have g5:=aB hp5 (.lst [V.non]);refine(zR (.inl ⟨by decide,by decide⟩) _ aA (by lia) (by lia) (YQ (show 1*((2*(T':Int))).toNat<=200 by lia) (by decide)) (λsA hsA=>?_));have g6:=aB hsA (.lst (ZF ((2*(T':Int))).toNat [V.non]).flatten);have eS:(upd (upd H3 p5 (.lst [V.non])) sA (.lst (ZF ((2*(T':Int))).toNat [V.non]).flatten)) sA=some (.lst (vos (ZF (2*T') none))):=by
  rw[aA,reps];congr 4
 have eW3:=g6 _ _ (g5 _ _ eW2);have eB3:=g6 _ _ (g5 _ _ eB);have gS:=gH.trans (g5.trans g6);have hs0:H sA=none:=(gH.trans g5).free hsA;have nWb:wA≠bA:=λz=>by subst z;rw[(g3 _ _ eW)]at hbA;cases hbA
 have nWs:wA≠sA:=λz=>by subst z;rw[(g5 _ _ eW2)]at hsA;cases hsA
 have nBs:bA≠sA:=λz=>by subst z;rw[(g5 _ _ eB)]at hsA;cases hsA
 generalize upd (upd H3 p5 (.lst [V.non])) sA (.lst (ZF ((2*(T':Int))).toNat [V.non]).flatten)=H4 at eS eW3 eB3 gS;clear eB eW2 eW g4 g3 g5 g6 g2 gH hp3 hp5 hbA hsA;dsimp only[b0]
 let J:L2.St->Hp->Prop:=λσ' H'=>∃(bs ss:List (Option Int)) (o:Option V),σ'=[some (.ref wa),some (.int c),some (.int T'),some (.int most),some (.ref wA),some (.ref bA),some (.ref sA),o]/\aJ H H'/\H' wA=some (.lst (ws.map V.int))/\H' bA=some (.lst (vos bs))/\H' sA=some (.lst (vos ss))/\bs.length=T'/\ss.length=2*T'/\(∀x,some x∈bs->0<=x/\x<=1000)/\∀x,some x∈ss->1<=x/\x<=4
 have none_mem:∀{k:Nat}{x:Int},some x∈ZF k (none:Option Int)->False:=λh=>by cases List.eq_of_mem_replicate h
 have mem_set:∀{l:List (Option Int)}{j:Nat}{v x:Int}{p:Int->Prop},(∀x,some x∈l->p x)->p v->some x∈l.set j (some v)->p x:=λh1 h2 hx=>by
  rcases List.mem_or_eq_of_mem_set hx with hx | hx
  ·exact h1 _ hx
  ·cases hx;exact h2
 refine via J (λnx=>?_) ?_
 ·refine(aP c 41 rfl (by decide) (by decide) (λm1 _ _=>(xPP ⟨by decide,by decide⟩ (by show(0:Int)<2;decide) (i2 (λ_=>?_) (λ_=>nx _ _ (dX _ _ _ rfl gS eW3 eB3 eS (by simp) (xPP (by simp) (λx hx=>(none_mem hx).elim) (λx hx=>(none_mem hx).elim))))))));refine(aP c 42 rfl (by decide) (by decide) (λm2 _ _=>(tQ (by show(0:Int)<3;decide) _ rfl (by lia) (by lia) ?_)))
  let Pv1:Nat->L2.St->L2.Hp->Prop:=λ_=>J
  refine cZ (lo:=0) (n:=(1+m2%3).toNat) Pv1 (dX _ _ _ rfl gS eW3 eB3 eS (by simp) (xPP (by simp) (λx hx=>(none_mem hx).elim) (λx hx=>(none_mem hx).elim))) ?_ (λσ' H' h=>nx _ _ h);rintro i σ H5 hi ⟨bs,ss,o,rfl,k1,k2,k3,k4,k5,k6,k7,k8⟩;refine(aP c (43+(0+(i:Int))) rfl (by lia) (by lia) (λm3 _ _=>(u6 ⟨by decide,by decide⟩ (by show(0:Int)<4;decide) c (43+(0+(i:Int))) rfl (by lia) (by lia) (λm4 _ _=>⟨(by show(0:Int)<(T':Int);lia),?_⟩))));obtain⟨j,hj,ej⟩:=MM.nS m4 (n:=T') (by lia);refine(aH _ j k3 (fV (by rw[Zq,k5];exact hj) ej) ?_);have e:(vos bs).set j (V.int (m3 / 16%4))=vos (bs.set j (some (m3 / 16%4))):=zS bs j (some _);rw[e];refine(dX _ ss _ rfl (λb u z=>by rw[aE (aC z hb0)];exact k1 _ _ z) (by rw[aE nWb];exact k2) aA (by rw[aE (Yh nBs)];exact k4) (by rw[ZP];exact k5) (xPP k6 (λx hx=>mem_set k7 ⟨by lia,by lia⟩ hx) k8))
 clear eW3 eB3 eS gS;rintro σ2 H6 ⟨bs,ss,o,rfl,k1,k2,k3,k4,k5,k6,k7,k8⟩;refine via J (λnx=>?_) ?_
 ·refine(aP c 41 rfl (by decide) (by decide) (λm1 _ _=>(xPP ⟨by decide,by decide⟩ (by show(0:Int)<2;decide) (i2 (λ_=>?_) (λ_=>nx _ _ (dX _ _ _ rfl k1 k2 k3 k4 k5 (xPP k6 k7 k8)))))));refine(aP c 46 rfl (by decide) (by decide) (λm2 _ _=>(tQ (by show(0:Int)<2;decide) _ rfl (by lia) (by lia) ?_)))
  let Pv2:Nat->L2.St->L2.Hp->Prop:=λ_=>J
  refine cZ (lo:=0) (n:=(1+m2%2).toNat) Pv2 (dX _ _ _ rfl k1 k2 k3 k4 k5 (xPP k6 k7 k8)) ?_ (λσ' H' h=>nx _ _ h);clear k1 k2 k3 k4 k5 k6 k7 k8;rintro i σ H5 hi ⟨bs,ss,o,rfl,k1,k2,k3,k4,k5,k6,k7,k8⟩;refine(aP c (47+(0+(i:Int))) rfl (by lia) (by lia) (λm3 _ _=>(u6 ⟨by decide,by decide⟩ (by show(0:Int)<4;decide) c (47+(0+(i:Int))) rfl (by lia) (by lia) (λm4 _ _=>(xPP (.inl ⟨by decide,by decide⟩) (by show(0:Int)<2*(T':Int);lia) ?_)))));obtain⟨j,hj,ej⟩:=MM.nS m4 (n:=2*T') (by lia);refine(aH _ j k4 (fV (by rw[Zq,k6];exact hj) (by rw[<-ej];push_cast;rfl)) ?_);have e:(vos ss).set j (V.int (1+m3 / 32%4))=vos (ss.set j (some (1+m3 / 32%4))):=zS ss j (some _);rw[e];refine(dX bs _ _ rfl (λb u z=>by rw[aE (aC z hs0)];exact k1 _ _ z) (by rw[aE nWs];exact k2) (by rw[aE nBs];exact k3) aA k5 (xPP (by rw[ZP];exact k6) k7 (λx hx=>mem_set (p:=λx=>1<=x/\x<=4) k8 ⟨by lia,by lia⟩ hx)))
 clear k1 k2 k3 k4 k5 k6 k7 k8;rintro σ2 H7 ⟨bs,ss,o,rfl,k1,k2,k3,k4,k5,k6,k7,k8⟩;refine⟨(by show 3<=ZW;decide),λp hp=>?_⟩;have gp:=aB hp (.tup [.ref wA,.ref bA,.ref sA]);exact q p wA bA sA ws bs ss _ (k1.trans gp) ⟨aA,gp _ _ k2,gp _ _ k3,gp _ _ k4⟩ lw k5 k6 ⟨wb,k7,k8⟩
end K32
namespace K32
open PySem L2 PyProof.Rows NM
def GB(ps ns:List Int):List Int:=(ZR ns.length).map λk=>at0 ps k*at0 ns k
theorem GA(ps ns:List Int):(ZR ns.length).map (λk=>V.int (at0 ps k*at0 ns k))=(GB ps ns).map V.int:=by unfold GB;rw[Ym];rfl
theorem JU(ps ns:List Int):(ZR ns.length).map (λk=>V.int (at0 ns k*at0 ps k))=(GB ps ns).map V.int:=by
 rw[<-GA];congr 1;funext k;rw[Int.mul_comm]
def AA(f:List Int->Way->Option Int):Sp:=λvs H Q _=>∃(p na wa pa:Addr) (ns:List Int) (ws:List Way) (ps:List Int),vs=[.ref p,.ref pa]/\gI H p na wa ns ws/\oR ns ws/\H pa=some (.lst (ps.map V.int))/\ps.length=ns.length /\
 ∀H',aJ H H'->Q (vo (bnd (f ps) ws (dot ps ns ns.length))) H'
theorem B9(T:Txt K mg t):Ok P w base T 88 1 (AA least):=by
 refine T.okN 88 (scm:cV ["_law_net_here","_law_prices","_law_total","_law_one","_law_other_here","_law_low","_law_high","_law_price","_law_each"] _ _) (λvs H Q E h=>?_) ?_
 ·obtain⟨p,na,wa,pa,ns,ws,ps,rfl,_⟩:=h;rfl
 intro cdv A outer s H vs Q E hr h nd X;obtain⟨p,na,wa,pa,ns,ws,ps,rfl,hN,hO,hp,hl,q⟩:=h;obtain⟨rs,e1,e2,e3⟩:=hN.w;refine(xWP _ (by exists 2,aN (dR rfl) rfl (T.z 13) boot_sum ?_,(fZ ["_law_need","_law_one"] [none,none]),lP rfl (T.z 14) ?_,aG,0,1,0,1,0,1,a7 ?_,aG,0,3,4,5,6,7,8,aX,7,aI,1,3,aI,1,4,eX,6,8,eX,6,6,5,2,aX,2,aN (nX rfl) rfl (T.z 9) boot_min ?_,5,8,6,8,2) ?_);have hn2:=hO.n2;refine(gZ _ _ (SqT.of hN.tp) rfl na pa _ _ rfl (xPP hN.n hp (λD hD=>?_)));have lp:∀{i:Nat},i<ns.length->(ps.map V.int)[i]?=some (.int (at0 ps i)):=λhi=>bR (by lia);have ln:∀{i:Nat},i<ns.length->(ns.map V.int)[i]?=some (.int (at0 ns i)):=λhi=>bR (by lia);refine bD ns.length (λk=>.int (at0 ns k*at0 ps k)) hD (by lia) (λi H' hi g2=>(l7 _ _ _ _ (g2 _ _ hN.n) (g2 _ _ hp) (ln hi) (lp hi))) (λH' g2=>(aH _ _ (g2 _ _ hN.n) (g2 _ _ hp) (.inl (by rw[Zq];lia)))) ?_ ?_
 ·rintro i H' x H'' k hi g2 ⟨Tp,x',y',rfl,hTp,rfl,y1,y2⟩ hk;have ey:=y2 _ (g2 _ _ hp);rw[lp hi]at ey;cases ey;have ex:=y1 _ (g2 _ _ hN.n);rw[ln hi]at ex;cases ex;have hb:=hO.nb _ (fL (ls:=ns) (j:=i) hi);refine(aQ _ (SqT.of aA) rfl ⟨ ((Fills.refl _).set _ rfl).set _ rfl,?_⟩);exact⟨.inl ⟨by lia,by lia⟩,hk _ (aB hTp _)⟩
 intro H1 g1 eD;rw[JU]at eD;refine(aH D _ rfl (SqL.of eD) ?_);have ed:(GB ps ns).sum=dot ps ns ns.length:=rfl;rw[ed]
 let Pv1:Nat->L2.St->L2.Hp->Prop:=λi σ H'=>H'=H1/\∃(tot:Int) (o3 o4 o5 o6 o7 o8:Option V),bnd (least ps) ws (dot ps ns ns.length)=bnd (least ps) (ws.drop i) tot/\σ=[some (.ref p),some (.ref pa),some (.int tot),o3,o4,o5,o6,o7,o8]
 refine(aH _ _ (SqT.of (g1 _ _ hN.tp)) rfl ⟨ ⟨_,SqL.of (g1 _ _ e1)⟩,cR (xs:=rs.map V.ref)
  Pv1 (xQ rfl _ _ _ _ _ _ _ rfl rfl) (λi σ H' _ h=>by obtain⟨rfl,_⟩:=h;exact SqL.of (g1 _ _ e1)) ?_ ?_⟩)
 ·rintro i x σ H' hx ⟨rfl,tot,o3,o4,o5,o6,o7,o8,hb,rfl⟩;obtain⟨r,hr1,rfl⟩:=eU hx;obtain⟨w,hw,er⟩:=lK e2 e3 hr1;have ok:=hO.w w (Zg hw);have ha:=ok.a;have hb':=ok.b;have hlo:=ok.lo;have hP:SqL H' pa (ps.map V.int):=SqL.of (g1 _ _ hp);refine(aQ _ (SqT.of (g1 _ _ er)) rfl ?_);refine(aH _ (.int (at0 ps w.a)) hP (aU (j:=w.a) (by lia) rfl) (aH _ (.int (at0 ps w.b)) hP (aU (j:=w.b) (by lia) rfl) ?_));have er2:w.c-at0 ps w.a+at0 ps w.b=rt ps w:=rfl
  conv=>whnf
  dsimp only;rw[er2];have hd:least ps w=(match w.hi with | some h=>some (mn (w.lo*rt ps w) (h*rt ps w)) | none=>if rt ps w<0 then none else some (w.lo*rt ps w)):=rfl;generalize rt ps w=rr at hd;refine⟨rfl,?_⟩;rcases hh:w.hi with _ | h
  ·rw[hh]at hd;dsimp only at hd;refine iTb (by rfl) ?_;by_cases h1:rr<0
   ·rw[Yb h1]at hd;refine iTb (Ye h1) ?_;have:=q H' g1;rw[hb,m7 hw hd]at this;exact this
   ·rw[Ya h1]at hd;refine iFb (Yc h1) ?_;refine⟨rfl,iTb (by rfl) ?_⟩;refine(tR (.inl ⟨by lia,by lia⟩) (.inl ⟨by lia,by lia⟩) _ _ rfl rfl (rZ _ _ _ _ _ _ _ ?_ rfl));rw[hb,eJ hw hd,Ya (by lia)]
  ·rw[hh]at hd;dsimp only at hd;have hhi:=ok.hi h hh;refine iFb (by rfl) (iF ?_);refine⟨rfl,iFb (by rfl) ?_⟩;exact(tR (.inl ⟨by lia,by lia⟩) (.inl ⟨by lia,by lia⟩) _ _ rfl rfl (rZ _ _ _ _ _ _ _ (by rw[hb,eJ hw hd];rfl) rfl))
 ·rintro σ H' ⟨rfl,tot,o3,o4,o5,o6,o7,o8,hb,rfl⟩;have:=q H' g1;rw[hb,Zq,e2,List.drop_length]at this;exact this
end K32
namespace K32
open PySem L2 PyProof.Rows
def DZ:Sp:=λvs H Q _=>∃(p wa ba sa p2 ca la:Addr) (n:Nat) (ws:List Int) (bs ss:List (Option Int)) (cs ls:List Int),vs=[.ref p,.ref p2]/\nA H p wa ba sa ws bs ss/\kY H p2 ca la cs ls/\Fit n ws bs ss cs ls /\
 ∀H',aJ H H'->Q (.bl (iM bs ss cs ls n)) H'
theorem B8(T:Txt K mg t):Ok P w base T 91 1 DZ:=by
 left
 obtain⟨p,wa,ba,sa,p2,ca,la,n,ws,bs,ss,cs,ls,rfl,hW,hT,hF,q⟩:=h;have hn:=hF.n;have hc2:=hF.c;have hl2:=hF.l;have hb2:=hF.b;have hs2:=hF.s;refine(xWP _ (by exists dF ?_ ?_,0,2,3,4,cL rfl (T.z 3) ?_,3,5,6,fX,6,aX,aI,aG,1,5,aI,aG,1,aX,5,6,(yN hr.units),(fZ ["_law_end","_law_sets","_law_shape"] [none,some 4,some 1]),4,0,qL ?_,gR,aI,1,0,aI,aG,2,0,0) ?_);refine(aQ _ (SqT.of hW.tp) rfl ?_)
 let Pv1:Nat->L2.St->L2.Hp->Prop:=λi σ H'=>(∀k,k<i->FJ bs ls k)/\aJ H H'/\∃o2 o3:Option V,σ=[some (.ref p),some (.ref p2),some (.ref wa),some (.ref ba),some (.ref sa),o2,o3]
 refine(aQ ba rfl ⟨_,SqL.of hW.b⟩ (dD (xs:=vos bs) Pv1 (xPP (λk h=>Yg h (by lia)) (aJ.refl _) (xWW none none rfl))
  (λi σ H' _ h=>SqL.of (h.2.1 _ _ hW.b)) ?_ ?_))
 ·rintro i y σ H' Tp hy ⟨hk,g2,o2,o3,rfl⟩ hTp;obtain⟨hi2,rfl⟩:=xX hy;have g3:=g2.trans (aB hTp (.tup [vn i,vo (ov bs i)]));refine(aQ _ (SqT.of aA) rfl ?_);refine⟨rfl,?_⟩;rcases hb:ov bs i with _ | b
  ·rw[hb]at g3;refine(iFb (by rfl) (iF (xPP (λk h=>?_) g3 (xWW _ _ rfl))));by_cases e:k=i
   ·subst e;intro c hc;rw[hb]at hc;cases hc
   ·exact hk k (by lia)
  ·rw[hb]at g3;refine(iTb (by rfl) (aP _ _ (SqT.of (g3 _ _ hT.tp)) rfl (.inl ⟨by decide,by decide⟩) (bV _ _ (SqL.of (g3 _ _ hT.l)) (aU (j:=2*i) (by lia) (by push_cast;lia)) _ _ (SqT.of (g3 _ _ hT.tp)) rfl (.inl ⟨by decide,by decide⟩) (aH _ _ (SqL.of (g3 _ _ hT.l)) (aU (j:=2*i+1) (by lia) (by push_cast;lia)) (i2 (λc=>?_) (λc=>(xPP (λk h=>?_) g3 (xWW _ _ rfl))))))))
   ·have c':b<sum2 ls i:=Yf c;have:=q _ g3;rw[mS (λz=>by have:=z.1 i (by lia) b hb;lia)]at this;exact this
   ·by_cases e:k=i
    ·subst e;intro c' hc;rw[hb]at hc;cases hc;have:¬b<sum2 ls k:=λz=>c (Ye z)
     lia
    ·exact hk k (by lia)
 ·rintro σ H2 ⟨hk,g2,o2,o3,rfl⟩;rw[Zq]at hk;refine(nG sa _ rfl (.inl (SqL.of (g2 _ _ hW.s))) _ rfl (by rw[Zq];lia) (by rw[Zq];lia) (λD hD=>?_))
  let Pv2:Nat->List L2.V->L2.Hp->Prop:=λi ys H'=>aJ H2 H'/\H' D=some (.lst ys)/\ys.length<=i/\(∃ms:List Int,ys=ms.map V.int)/\(ys=[]->∀k,k<i->qU ss cs k)/\((∀k,k<i->qU ss cs k)->ys=[])
  refine kS (((vos ss).length:Nat):Int).toNat Pv2 (gK (aB hD _) aA (ZC _) ⟨[],rfl⟩ (λ_ k h=>Yg h (by lia)) (λ_=>rfl)) ?_ ?_
  ·rintro i ys H' hi ⟨g3,eD,hyl,⟨ms,hms⟩,hk2,hk3⟩;have hi':i<2*n:=by rw[Zq]at hi;lia
   refine⟨hi,?_⟩;rintro x H'' ⟨rfl,rfl⟩;have hSs:SqL H'' sa (vos ss):=SqL.of (g3 _ _ (g2 _ _ hW.s));refine⟨(Fills.refl _).set _ rfl,?_⟩;refine(bO _ (vo (ov ss i)) hSs (by rw[Int.zero_add];exact bM (xD (by lia))) _ _ (SqT.of (g3 _ _ (g2 _ _ hT.tp))) rfl (aP _ (.int (at0 cs i)) (SqL.of (g3 _ _ (g2 _ _ hT.c))) (by rw[Int.zero_add];exact aU (j:=i) (by lia) rfl) (by show 2<=ZW;decide) (λlp hlp=>?_)));have g4:=g3.trans (aB hlp (.lst [V.non,.int (at0 cs i)]));have eD':=(aB hlp (.lst [V.non,.int (at0 cs i)])) _ _ eD;refine(dA _ (.inl (SqL.of aA)) (by cases ov ss i<;>rfl) rfl ?_);have iff:inV (vo (ov ss i)) [V.non,.int (at0 cs i)]=true↔qU ss cs i:=by
    unfold qU;rcases ov ss i with _ | b
    ·exact⟨λ_ c hc=>(by cases hc),λ_=>rfl⟩
    ·constructor
     ·intro h c hc;cases hc;simpa[inV,eqV,vo] using h
     ·intro h;rw[h b rfl];simp[inV,eqV,vo]
   by_cases hk:qU ss cs i
   ·have e:=iff.mpr hk;refine iFb (by simp only[e];rfl) (gK g4 eD' (by lia) ⟨ms,hms⟩ (λhy k h=>?_) (λh=>hk3 λk hk'=>h k (by lia)));by_cases e:k=i
    ·rw[e];exact hk
    ·exact hk2 hy k (by lia)
   ·have e:inV (vo (ov ss i)) [V.non,.int (at0 cs i)]=false:=Bool.eq_false_iff.mpr λz=>hk (iff.mp z);refine iTb (by simp only[e];rfl) (u9 eD' (Xq hyl (Xz hi' (YQ (by lia:2*n<=200) (by decide)))) ?_ aA (by simp;lia) ⟨ms++[0+(i:Int)],by rw[hms,Zt];rfl⟩ (λhy=>Yg hy (by simp)) (λh=>Yg (h i (by lia)) hk));exact λb o h=>by rw[aE (aC h hD)];exact g4 _ _ h
  ·rintro ys H3 ⟨g3,eD,hyl,⟨ms,hms⟩,hk2,hk3⟩;refine(xPP (ZC _) (by show 0<=ZW;decide) (λe he=>?_));have g5:=aB he (.lst []);rw[hms]at eD;refine(dI _ _ (kW (g5 _ _ eD)) (kW (ns:=[]) aA) (shaped_ints _) (shaped_ints []) ?_);have:=q _ ((g2.trans g3).trans g5);have eN:(((vos ss).length:Nat):Int).toNat=2*n:=by rw[Zq];lia
   rw[eN]at hk2 hk3;cases ms with
   |nil =>
    rw[mR ⟨λk h=>hk k (by lia),hk2 (by rw[hms];rfl)⟩]at this;exact this
   |cons m ms =>
    rw[mS (λz=>by have:=hk3 z.2;rw[hms]at this;cases this)]at this;exact this
def HL:Sp:=λvs H Q _=>∃(p wa ba sa p2 ca la:Addr) (n:Nat) (ws:List Int) (bs ss:List (Option Int)) (cs ls:List Int),vs=[.ref p,.ref p2]/\nA H p wa ba sa ws bs ss/\kY H p2 ca la cs ls/\Fit n ws bs ss cs ls /\
 ∀H',aJ H H'->Q (.int (costOf ws ls n)) H'
theorem FD(T:Txt K mg t):Ok P w base T 92 1 HL:=by
 left
 obtain⟨p,wa,ba,sa,p2,ca,la,n,ws,bs,ss,cs,ls,rfl,hW,hT,hF,q⟩:=h;have hn:=hF.n;have hw:=hF.w;have hl2:=hF.l;refine(xWP _ (by exists aN (dR rfl) rfl (T.z 13) boot_sum ?_,(fZ ["_law_tie","_law_wishes_here","_law_shape"] [none,some 0,some 1]),aG,0,0,aI,aG,1,0,aX,aI,aG,2,0,aI,aG,2,aX,0) ?_);refine(bO _ _ (SqT.of hW.tp) rfl wa _ rfl (.inl (SqL.of hW.w)) (dA _ rfl (by rw[Zq];lia) (by rw[Zq];lia) (λD hD=>?_)));have eN:(((ws.map V.int).length:Nat):Int).toNat=n:=by rw[Zq];lia
 refine bD n (λk=>.int (at0 ws k*sum2 ls k)) hD (by lia) (λi H' hi _=>by show i<_;rw[eN];exact hi) (λH' _=>by show _<=n;rw[eN];exact ZC _) ?_ ?_
 ·rintro i H' x H'' k hi g1 ⟨rfl,rfl⟩ hk;have hb:=hF.wb _ (fL (ls:=ws) (j:=i) (by lia));refine⟨(Fills.refl _).set _ rfl,?_⟩;refine(aH _ _ (SqT.of (g1 _ _ hW.tp)) rfl (bV _ (.int (at0 ws i)) (SqL.of (g1 _ _ hW.w)) (aU (j:=i) (by lia) (by lia)) _ _ (SqT.of (g1 _ _ hT.tp)) rfl (.inl ⟨by decide,by decide⟩) (bV _ _ (SqL.of (g1 _ _ hT.l)) (aU (j:=2*i) (by lia) (by lia)) _ _ (SqT.of (g1 _ _ hT.tp)) rfl (.inl ⟨by decide,by decide⟩) (aH _ _ (SqL.of (g1 _ _ hT.l)) (aU (j:=2*i+1) (by lia) (by lia)) ⟨ .inl ⟨by lia,by lia⟩,hk _ (aJ.refl _)⟩))))
 ·intro H' g2 e;rw[GF]at e;exact(aH D _ rfl (SqL.of e) (q _ g2))
end K32
namespace L2
open PySem PyProof.Rows
end L2
namespace K32
open PySem L2 PyProof.Rows NM
theorem BG{ts:MM.aV}{os:MM.aR}(g:MM.Good ts os){k:Nat}{d:List Nat}(h:(LL ts os)[k]?=some d):d.length<=2*ts.length/\∀x∈d,x<2*ts.length:=by
 obtain⟨e,he,rfl⟩:=MM.lU g.maps _ (ZR (2*ts.length)) (ZC _) (λz hz=>Zs.mp hz) d (Zg h);exact⟨(MM.rB g.maps (Zs.mp he)).2,MM.fJ g.maps (Zs.mp he)⟩
theorem J5{ts:MM.aV}{os:MM.aR}(g:MM.Good ts os){k k':Nat}{d d':List Nat}{x:Nat}(h:(LL ts os)[k]?=some d)(hx:x∈d)(h':(LL ts os)[k']?=some d')(hx':x∈d'):k=k':=by
 obtain⟨j,_,_,_,u⟩:=MM.fB g.maps ((BG g h).2 x hx);rw[u k d h hx,u k' d' h' hx']
theorem FK{ts:MM.aV}{os:MM.aR}(g:MM.Good ts os):∃nm,gN ts os nm:=by
 have h:∀x:Nat,∃k:Nat,∀(j:Nat) (d:List Nat),(LL ts os)[j]?=some d->x∈d->j=k:=λx=>by
  by_cases hx:x<2*ts.length
  ·obtain⟨k,_,_,_,u⟩:=MM.fB g.maps hx;exact⟨k,u⟩
  ·exact⟨0,λj d hj hd=>Yg ((BG g hj).2 x hd) hx⟩
 refine⟨(ZR (2*ts.length)).map λx=>Classical.choose (h x),by simp,λk d x hk hx=>?_⟩;have hlt:=(BG g hk).2 x hx;rw[Zv,Zk,Yk hlt];exact(Classical.choose_spec (h x) k d hk hx).symm
theorem OA:∀k:Nat,(ZF k [V.int 4]).flatten=(ZF k (4:Int)).map V.int
 |0=>rfl
 |k+1=>by rw[List.replicate_succ,List.flatten_cons,OA k];rfl
def LJ:Sp:=λvs H Q _=>∃(wa p wA bA sA:Addr) (n o:Nat) (ts:MM.aV) (os:MM.aR) (ws:List Int) (bs ss:List (Option Int)),vs=[.ref wa,vn o,.ref p]/\dW H wa n ts os/\MM.Good ts os/\ts.length<=40/\n<=40/\o<(LL ts os).length/\nA H p wA bA sA ws bs ss/\ws.length=ts.length/\bs.length=ts.length/\ss.length=2*ts.length /\
 ∀(r na wl:Addr) (nm:List Nat) (H':Hp),aJ H H'->gN ts os nm->gI H' r na wl (cM n (LL ts os) o) (fO n ts nm ws bs ss)->Q (.ref r) H'
theorem IV(T:Txt K mg t):Ok P w base T 87 4 LJ:=by
 left
 obtain⟨wa,p,wA,bA,sA,n,o,ts,os,ws,bs,ss,rfl,hWeb,g,h40,hn40,ho,hW,hwl',hbl,hsl,q⟩:=h;have hu:=Xq (Nat.add_le_add_left (by decide:1<=64) _) hr.units;have hLN:(LL ts os).length<=2*ts.length:=by
  have:=MM.qY g.maps _ (ZR (2*ts.length)) (ZC _) (λz hz=>Zs.mp hz);rw[Yj]at this;exact this
 obtain⟨nm,num⟩:=FK g;have nd_l_k_l_outer_l_some:(["_law_k","_law_outer","_law_some"]:List Str).Nodup:=by decide
 refine(xWP _ (aS (dF (pv 2) (vN (dM (b7 (i:=3) nd rfl (Or.inl rfl)) (dM (b7 (i:=4) nd rfl (Or.inl rfl)) (dM (b7 (i:=5) nd rfl (Or.inl rfl)) mI)))))
  (aS (eZ 6 nd (bT (iS T) hr (T.f 81) aZ (aK (cP aG (pv 0) aM (λ_ _=>rfl)) (aK (cP aG (pv 0) aM (λ_ _=>rfl)) aO))))
  (aS (eZ 7 nd mL)
  (aS (i5 PassesOwn.never rfl (cL rfl (T.z 3) (aK (pv 6) aO)) (vN (dM (b7 (i:=8) nd rfl (Or.inl rfl)) (dM (b7 (i:=9) nd rfl (Or.inl rfl)) mI))) (a0 (i5 PassesOwn.never rfl (a7 (pv 9)) (b7 (i:=10) nd rfl (Or.inl rfl)) (a0 (pF hu (pv 7) (pv 10) (bI aX (cP aG (pv 0) aM (λ_ _=>rfl)) (pv 8)) rfl)))))
  (aS (eZ 11 nd (bI qN (bI t9 (jP (aK aM aO)) (cP aG (pv 0) aM (λ_ _=>rfl))) (tZ (N':=["_law_k","_law_outer","_law_some"]) (js:=[none,some 1,some 6]) rfl (fR rfl (T.z 10) (aK (aN bK rfl (T.z 6) PySem.boot_len (aK (pv 6) aO)) aO)) (λ_ _ _ _ _=>(b7 (i:=0) nd_l_k_l_outer_l_some rfl (Or.inl rfl))) (λ_ _ _ _ _=>tY) (λ_ _ _ _ _=>(bI t8 (bI t8 aM (bI lT aM (aN bK rfl (T.z 6) PySem.boot_len (aK (cP aI (pv 2) (pv 0) (λ_ _=>rfl)) aO)))) (bI lT aM (bS kU rfl (T.z 4) boot_int (aK (mM bY (pv 0) (pv 1) (dH _)) aO))))))))
  (aS (eZ 12 nd (jP aO))
  (aS (i5 PassesOwn.never rfl (fR rfl (T.z 10) (aK (bI lT aM (aN bK rfl (T.z 6) PySem.boot_len (aK (cP aG (pv 0) aM (λ_ _=>rfl)) aO))) aO)) (b7 (i:=10) nd rfl (Or.inl rfl)) (aS (dF (nO (aK aM (aK aM aO))) (vN (dM (b7 (i:=13) nd rfl (Or.inl rfl)) (dM (b7 (i:=14) nd rfl (Or.inl rfl)) mI))))
  (aS (eQ (bL fX (cP aI (pv 5) (pv 10) (λ_ _=>rfl)) nP (dH _)) (a0 (yG (i:=13) (j:=14) rfl nd rfl rfl (by decide) rfl rfl (aK (cP aI (pv 5) (pv 10) (λ_ _=>rfl)) (aK (cP aI (pv 5) (pv 10) (λ_ _=>rfl)) aO)) rfl)) cE)
  (a0 (kK (MB mAp kP (pv 12) (aK (nO (aK (bT (kN T) hr (T.f 79) aZ (aK (cP aG (pv 0) aM (λ_ _=>rfl)) (aK (bT (fA T) hr (T.f 78) aZ (aK (pv 10) aO)) aO))) (aK (i6 hu (pv 7) (pv 10) (λ_ _=>rfl)) (aK (pv 13) (aK (pv 14) (aK aM aO)))))) aO)))))))
  (aS (i5 PassesOwn.never rfl (fR rfl (T.z 10) (aK (bI lT aM (aN bK rfl (T.z 6) PySem.boot_len (aK (cP aG (pv 0) aM (λ_ _=>rfl)) aO))) aO)) (b7 (i:=10) nd rfl (Or.inl rfl)) (a0 (kK (MB mAp kP (pv 12) (aK (nO (aK (i6 hu (pv 7) (pv 10) (λ_ _=>rfl)) (aK (i6 hu (pv 7) (bT (fA T) hr (T.f 78) aZ (aK (pv 10) aO)) (λ_ _=>rfl)) (aK aM (aK (cP aI (pv 4) (bI bE (pv 10) aM) (λ_ _=>rfl)) (aK (cP aI (pv 3) (bI bE (pv 10) aM) (λ_ _=>rfl)) aO)))))) aO)))))
  (a0 (jN (nO (aK (pv 11) (aK (pv 12) aO))))))))))))) ?_)
 obtain⟨tA,oA,hw,hts,hos⟩:=id hWeb;refine⟨_,SqT.of hW.tp,rfl,?_⟩;refine⟨_,.ref tA,SqT.of hw,rfl,_,.ref oA,SqT.of hw,rfl,tA,oA,ts,os,rfl,hts,hos,g,by lia,λr rr H1 g1 nos=>?_⟩;intro d hd;have g1d:=aB hd (.dK [])
 let Pv1:Nat->L2.St->L2.Hp->Prop:=λi σ H'=>aJ H1 H'/\(∃kvs,H' d=some (.dK kvs)/\kvs.length<=100*i/\∀(k:Nat) l x,k<i->(LL ts os)[k]?=some l->x∈l->eL kvs (Sum.inl ((x:Nat):Int))=some (.int ((n:Int)+(k:Int)))) /\
   ∃o8 o9 o10:Option V,σ=[some (.ref wa),some (vn o),some (.ref p),some (.ref wA),some (.ref bA),some (.ref sA),some (.ref r),some (.ref d),o8,o9,o10,none,none,none,none]
 refine⟨r,rfl,⟨_,SqL.of (g1d _ _ nos.at_)⟩,dD (xs:=rr.map V.ref)
  Pv1
  ⟨g1d,⟨[],aA,ZC _,λk l x hk=>Yg hk (by lia)⟩,_,_,_,rfl⟩ (λi σ H' _ h=>SqL.of (h.1 _ _ nos.at_)) ?_ ?_⟩
 ·rintro i x σ H2 Tp hx ⟨g2,⟨kvs,ed,hkl,hkv⟩,o8,o9,o10,rfl⟩ hTp;obtain⟨y,hy,rfl⟩:=eU hx;have hil:i<(LL ts os).length:=by rw[<-nos.len];exact(Zj.mp hy).1
  have hli:=Zz hil;obtain⟨y',hy',ey⟩:=nos.row i _ hli;rw[hy]at hy';cases hy';generalize (LL ts os)[i]=l at hli ey;have hll:=BG g hli;have g3:=aB hTp (.tup [vn i,.ref y]);have g23:=g2.trans g3;refine⟨_,SqT.of aA,rfl,?_⟩
  let Pv2:Nat->L2.St->L2.Hp->Prop:=λj σ H'=>aJ H1 H'/\(∃kvs,H' d=some (.dK kvs)/\kvs.length<=100*i+j/\(∀(k:Nat) l x,k<i->(LL ts os)[k]?=some l->x∈l->eL kvs (Sum.inl ((x:Nat):Int))=some (.int ((n:Int)+(k:Int))))/\∀x∈l.take j,eL kvs (Sum.inl ((x:Nat):Int))=some (.int ((n:Int)+(i:Int)))) /\
    ∃o10:Option V,σ=[some (.ref wa),some (vn o),some (.ref p),some (.ref wA),some (.ref bA),some (.ref sA),some (.ref r),some (.ref d),some (vn i),some (.ref y),o10,none,none,none,none]
  refine⟨⟨_,SqL.of (g23 _ _ ey)⟩,cR (xs:=vns l)
   Pv2
   ⟨g23,⟨kvs,g3 _ _ ed,by lia,hkv,λx hx=>by simp at hx⟩,_,rfl⟩ (λj σ H' _ h=>SqL.of (h.1 _ _ ey)) ?_ ?_⟩
  ·rintro j x σ H3 hx ⟨g4,⟨kvs,ed,hkl,hkv,hkt⟩,o10,rfl⟩;obtain⟨hj,rfl⟩:=xY hx;have hmem:l.getD j 0∈l:=by simp[List.getD,hj]
   refine⟨_,vn n,SqT.of ((g1.trans g4) _ _ hw),rfl,_,zN.k (k:=Sum.inl ((l.getD j 0:Nat):Int)) ed (Xq hkl (Xz (by lia:100*i+j<10000) (by decide))),?_⟩;refine⟨λb o' h=>by rw[aE (aC h hd)];exact g4 _ _ h,⟨_,aA,YQ (EM _ _ _) (by lia),λk l' x' hk hl' hx'=>?_,λx' hx'=>?_⟩,_,rfl⟩
   ·rw[pY,Ya]
    ·exact hkv k l' x' hk hl' hx'
    ·intro z;have e:x'=l.getD j 0:=by have:=Sum.inl.inj z;lia
     rw[e]at hx';have:=J5 g hl' hx' hli hmem
     lia
   ·rw[pY];by_cases e:x'=l.getD j 0
    ·rw[Yb (by rw[e])]
    ·rw[Ya (λz=>e (by have:=Sum.inl.inj z;lia))];rw[List.take_succ,Zz hj]at hx';rcases Zf.mp hx' with h | h
     ·exact hkt x' h
     ·exfalso;apply e;simp at h;simp[List.getD,hj,h]
  ·rintro σ H3 ⟨g4,⟨kvs,ed,hkl,hkv,hkt⟩,o10,rfl⟩;rw[Zq]at hkl hkt;rw[Yv]at hkt;refine⟨g4,⟨kvs,ed,by lia,λk l' x' hk hl' hx'=>?_⟩,_,_,_,rfl⟩;by_cases e:k=i
   ·subst e;rw[hli]at hl';cases hl';exact hkt x' hx'
   ·exact hkv k l' x' (by lia) hl' hx'
 rintro σ H2 ⟨g2,⟨kvs,ed,hkl,hkv⟩,o8,o9,o10,rfl⟩;rw[Zq,nos.len]at hkv;have hby:∀x,x<2*ts.length->eL kvs (Sum.inl ((x:Nat):Int))=some (.int ((n:Int)+((nm.getD x 0:Nat):Int))):=λx hx=>by
  obtain⟨k,l,h1,h2,_⟩:=MM.fB g.maps hx;rw[num.at_ k l x h1 h2];exact hkv k l x (Zj.mp h1).1 h1 h2
 have g02:=g1.trans g2;have hnn:((n:Int)).toNat=n:=by lia
 refine⟨(by show 1<=ZW;decide),λpl hpl=>?_⟩;have gl:=aB hpl (.lst [V.int 4]);refine⟨_,vn n,SqT.of ((g02.trans gl) _ _ hw),rfl,_,aA,by lia,by lia,YQ (show 1*((n:Int)).toNat<=100 by lia) (by decide),λD1 hD1=>?_⟩;have g13:=g2.trans (gl.trans (aB hD1 (.lst (ZF ((n:Int)).toNat [V.int 4]).flatten)));have g23:=gl.trans (aB hD1 (.lst (ZF ((n:Int)).toNat [V.int 4]).flatten));have eD1:(upd (upd H2 pl (.lst [V.int 4])) D1 (.lst (ZF ((n:Int)).toNat [V.int 4]).flatten)) D1=some (.lst ((ZF n (4:Int)).map V.int)):=by rw[aA,hnn,OA]
 generalize upd (upd H2 pl (.lst [V.int 4])) D1 (.lst (ZF ((n:Int)).toNat [V.int 4]).flatten)=H3 at eD1 g13 g23;have lrl:(rr.map V.ref).length=(LL ts os).length:=(Zq V.ref).trans nos.len;have elr:(((rr.map V.ref).length:Nat):Int).toNat=(LL ts os).length:=by rw[lrl];lia
 refine⟨r,_,rfl,.inl (SqL.of (g13 _ _ nos.at_)),_,rfl,by rw[lrl];lia,by rw[lrl];lia,λD2 hD2=>?_⟩;have lrr:∀{i:Nat},i<(LL ts os).length->∃y,(rr.map V.ref)[i]?=some (.ref y)/\H1 y=some (.lst (vns ((LL ts os).getD i []))):=λ{i} hi=>by
  obtain⟨y,q1,q2⟩:=nos.row i _ (Zz hi);refine⟨y,by rw[Zk,q1];rfl,?_⟩;simp only[List.getD,Zz hi,YR];exact q2
 refine bD (LL ts os).length (λk=>.int (eY (LL ts os) o k)) hD2 (by lia) (λi H' hi _=>by show i<_;rw[elr];exact hi) (λH' _=>by show _<=_;rw[elr];exact ZC _) ?_ ?_
 ·rintro i H' x H'' k hi g' ⟨rfl,rfl⟩ hk;obtain⟨y,q1,q2⟩:=lrr hi;refine⟨(Fills.refl _).set _ rfl,?_⟩;refine⟨_,.ref y,SqL.of (g' _ _ (g13 _ _ nos.at_)),(by rw[Int.zero_add];exact bM q1),y,_,rfl,.inl (SqL.of (g' _ _ (g13 _ _ q2))),.inl ⟨by decide,by decide⟩,.inr ⟨_,rfl,.inl ⟨by decide,by decide⟩,?_⟩⟩;have:=hk _ (aJ.refl H'');have e:(4-2*(((vns ((LL ts os).getD i [])).length:Nat):Int)-8*(if decide (V.int (0+(i:Int))=vn o)=true then 1 else 0):Int)=eY (LL ts os) o i:=by
   unfold eY;rw[Zq];by_cases h:i=o
   ·subst h;rw[Yb (by rw[Int.zero_add];exact Ye rfl),Yb rfl];lia
   ·rw[Ya (λz=>h (by have:=V.int.inj (Yf z);lia)),Ya h];lia
  rw[<-e]at this;exact this
 intro H4 g4 eD2;rw[show(ZR (LL ts os).length).map (λk=>V.int (eY (LL ts os) o k))=((ZR (LL ts os).length).map (eY (LL ts os) o)).map V.int by rw[Ym];rfl]at eD2;refine⟨_,_,g4 _ _ eD1,eD2,by simp;exact YQ (by lia:n+(LL ts os).length<=200) (by decide),λna hna=>?_⟩;rw[<-Zt];have g6:=(g23.trans g4).trans (aB hna (.lst ((ZF n (4:Int)++(ZR (LL ts os).length).map (eY (LL ts os) o)).map V.int)));have e7:(upd H4 na (.lst ((ZF n (4:Int)++(ZR (LL ts os).length).map (eY (LL ts os) o)).map V.int))) na=some (.lst ((cM n (LL ts os) o).map V.int)):=aA;generalize upd H4 na (.lst ((ZF n (4:Int)++(ZR (LL ts os).length).map (eY (LL ts os) o)).map V.int))=H6 at g6 e7;refine⟨(by show 0<=ZW;decide),λwl hwl=>?_⟩;have g7:=aB hwl (.lst []);have g06:=g02.trans g6;have ed6:=g6 _ _ ed;have htl:∀{H':Hp},aJ H H'->∃tr:List V,H' tA=some (.lst tr)/\tr.length=ts.length:=λgg=>by
  obtain⟨tr,q1,q2,_⟩:=hts;exact⟨_,gg _ _ q1,by rw[Zq];exact q2⟩
 obtain⟨tr7,t1,t2⟩:=htl (g06.trans g7);have fin1:∀{i:Nat}{H':Hp}{rs:List Addr}(lo hi:Int),lo=(ov ss i).getD 1->hi=(ov ss i).getD 4->H' wl=some (.lst (rs.map V.ref))->rs.length=((ZR i).map (eP n ts nm ss)).length->(∀(j:Nat) w,((ZR i).map (eP n ts nm ss))[j]?=some w->∃r,rs[j]?=some r/\H' r=some (.tup (wv w)))->aJ H6 H'->∀(pp:Addr),H' pp=none ->
   eK (upd (upd H' pp (.tup [vn (MM.place ts (MM.oth i)),.int ((n:Int)+((nm.getD i 0:Nat):Int)),.int lo,.int hi,.int 0])) wl (.lst (rs.map V.ref++[.ref pp]))) wl ((ZR (i+1)).map (eP n ts nm ss)) /\
   aJ H6 (upd (upd H' pp (.tup [vn (MM.place ts (MM.oth i)),.int ((n:Int)+((nm.getD i 0:Nat):Int)),.int lo,.int hi,.int 0])) wl (.lst (rs.map V.ref++[.ref pp]))):=by
  intro i H' rs lo hi hlo hhi e1 e2 e3 g8 pp hpp;have g9:=aB hpp (.tup [vn (MM.place ts (MM.oth i)),.int ((n:Int)+((nm.getD i 0:Nat):Int)),.int lo,.int hi,.int 0]);refine⟨?_,λb o h=>by rw[aE (aC h hwl)];exact g9 _ _ (g8 _ _ h)⟩;rw[hV];refine kG (g9 _ _ e1) e2 (λj w hj=>by obtain⟨r',q1,q2⟩:=e3 j w hj;exact⟨r',q1,g9 _ _ q2⟩) ?_;rw[aA];unfold wv eP;rw[<-hlo,<-hhi];simp only[vo,vn,Int.natCast_add]
 let Pv3:Nat->L2.St->L2.Hp->Prop:=λi σ H'=>eK H' wl ((ZR i).map (eP n ts nm ss))/\aJ H6 H'/\∃o10 o13 o14:Option V,σ=[some (.ref wa),some (vn o),some (.ref p),some (.ref wA),some (.ref bA),some (.ref sA),some (.ref r),some (.ref d),o8,o9,o10,some (.ref na),some (.ref wl),o13,o14]
 refine⟨_,.ref tA,SqT.of ((g06.trans g7) _ _ hw),rfl,tA,_,rfl,.inl (SqL.of t1),.inl ⟨by decide,by decide⟩,_,rfl,by lia,by lia,cZ (lo:=0) (n:=(2*((tr7.length:Nat):Int)).toNat)
  Pv3
  ⟨⟨[],aA,rfl,λi w h=>by simp at h⟩,g7,_,_,_,rfl⟩ ?_ ?_⟩
 ·rintro i σ H7 hi ⟨⟨rs,e1,e2,e3⟩,g8,o10,o13,o14,rfl⟩;have hi':i<2*ts.length:=by lia
  have ho':MM.oth i<2*ts.length:=MM.bQ hi';show b0 10 (V.int (0+(i:Int))) _ _ _;rw[Int.zero_add];have g08:=g06.trans g8;have hW8:=hW.mono g08;have hget:∀{H':Hp},aJ H7 H'->iO H' d (V.int ((i:Nat):Int)) (some (.int ((n:Int)+((nm.getD i 0:Nat):Int)))):=λgg=>by
   have:=iO.k (k:=Sum.inl ((i:Nat):Int)) (gg _ _ (g8 _ _ ed6));rw[hby i hi']at this;exact this
  have hlen:(rs.map V.ref).length<ZW:=by rw[Zq,e2];simp;exact Xz hi' (YQ (by lia:2*ts.length<=80) (by decide))
  refine⟨(by show 2<=ZW;decide),λlp hlp=>⟨_,SqT.of aA,rfl,?_⟩⟩;have x2:=aB hlp (.tup [V.int 1,V.int 4]);generalize upd H7 lp (.tup [V.int 1,V.int 4])=H8 at x2;have eC:atI (vos ss) ((i:Nat):Int)=some (vo (ov ss i)):=rM (j:=i) (by lia) rfl;have sS:SqL H8 sA (vos ss):=SqL.of (x2 _ _ hW8.s);dsimp only[wL,F0,b0,LC,L0];refine via (λσ' H'=>∃lo hi:Int,lo=(ov ss i).getD 1/\hi=(ov ss i).getD 4/\H'=H8/\σ'=[some (.ref wa),some (vn o),some (.ref p),some (.ref wA),some (.ref bA),some (.ref sA),some (.ref r),some (.ref d),o8,o9,some (vn i),some (.ref na),some (.ref wl),some (.int lo),some (.int hi)]) (λnx=>?_) ?_
  ·refine⟨_,_,sS,eC,rfl,?_⟩;rcases ho:ov ss i with _ | c
   ·exact iFb (by rfl) (nx _ _ ⟨1,4,by rw[ho];rfl,by rw[ho];rfl,rfl,rfl⟩)
   ·rw[ho]at eC;exact iTb (by rfl) ⟨_,_,sS,eC,_,_,sS,eC,nx _ _ ⟨c,c,by rw[ho];rfl,by rw[ho];rfl,rfl,rfl⟩⟩
  rintro σ' H' ⟨lo,hi2,hlo,hhi,rfl,rfl⟩;refine⟨.inl ⟨rfl,_,SqL.of (x2 _ _ e1)⟩,_,.ref tA,SqT.of ((g08.trans x2) _ _ hw),rfl,i,rfl,tA,ts,MM.oth i,rfl,(g08.trans x2).ts hts,ho',_,hget x2,(by show 5<=ZW;decide),λpp hpp=>?_⟩;obtain⟨f1,f2⟩:=fin1 lo hi2 hlo hhi (x2 _ _ e1) e2 (λj w hj=>by obtain⟨r',q1,q2⟩:=e3 j w hj;exact⟨r',q1,x2 _ _ q2⟩) (g8.trans x2) pp hpp;exact⟨_,aB hpp _ _ _ (x2 _ _ e1),hlen,f1,f2,_,_,_,rfl⟩
 rintro σ H7 ⟨hws,g8,o10,o13,o14,rfl⟩;rw[show(2*((tr7.length:Nat):Int)).toNat=2*ts.length by lia]at hws;obtain⟨tr8,t3,t4⟩:=htl (g06.trans g8)
 let Pv4:Nat->L2.St->L2.Hp->Prop:=λi σ H'=>eK H' wl ((ZR (2*ts.length)).map (eP n ts nm ss)++(ZR i).map (sZ n nm ws bs))/\aJ H6 H'/\∃o10:Option V,σ=[some (.ref wa),some (vn o),some (.ref p),some (.ref wA),some (.ref bA),some (.ref sA),some (.ref r),some (.ref d),o8,o9,o10,some (.ref na),some (.ref wl),o13,o14]
 refine⟨_,.ref tA,SqT.of ((g06.trans g8) _ _ hw),rfl,tA,_,rfl,.inl (SqL.of t3),.inl ⟨by decide,by decide⟩,_,rfl,by lia,by lia,cZ (lo:=0) (n:=(2*((tr8.length:Nat):Int)).toNat)
  Pv4
  ⟨by rw[List.range_zero,List.map_nil,List.append_nil];exact hws,g8,_,rfl⟩ ?_ ?_⟩
 ·rintro i σ H8 hi ⟨⟨rs,e1,e2,e3⟩,g9,o10,rfl⟩;have hi':i<2*ts.length:=by lia
  have ho':MM.oth i<2*ts.length:=MM.bQ hi';show b0 10 (V.int (0+(i:Int))) _ _ _;rw[Int.zero_add];have hW8:=hW.mono (g06.trans g9);have hg1:iO H8 d (V.int ((i:Nat):Int)) (some (.int ((n:Int)+((nm.getD i 0:Nat):Int)))):=by
   have:=iO.k (k:=Sum.inl ((i:Nat):Int)) (g9 _ _ ed6);rw[hby i hi']at this;exact this
  have hg2:iO H8 d (V.int ((MM.oth i:Nat):Int)) (some (.int ((n:Int)+((nm.getD (MM.oth i) 0:Nat):Int)))):=by
   have:=iO.k (k:=Sum.inl ((MM.oth i:Nat):Int)) (g9 _ _ ed6);rw[hby _ ho']at this;exact this
  have ei2:((i:Nat):Int) / 2=((i / 2:Nat):Int):=by lia
  refine⟨.inl ⟨rfl,_,SqL.of e1⟩,_,hg1,i,rfl,_,hg2,⟨by decide,by decide⟩,_,_,SqL.of hW8.b,rM (j:=i / 2) (by lia) ei2,
   ⟨by decide,by decide⟩,_,_,SqL.of hW8.w,aU (j:=i / 2) (by lia) ei2,(by show 5<=ZW;decide),λpp hpp=>?_⟩
  have g10:=aB hpp (.tup [.int ((n:Int)+((nm.getD i 0:Nat):Int)),.int ((n:Int)+((nm.getD (MM.oth i) 0:Nat):Int)),.int 0,vo (ov bs (i / 2)),.int (at0 ws (i / 2))]);refine⟨_,g10 _ _ e1,by rw[Zq,e2];simp;exact Xz (by lia:2*ts.length+i<200) (by decide),?_,λb o h=>by rw[aE (aC h hwl)];exact g10 _ _ (g9 _ _ h),_,rfl⟩;rw[hV,<-Yn];refine kG (g10 _ _ e1) e2 (λj w hj=>by obtain⟨r',q1,q2⟩:=e3 j w hj;exact⟨r',q1,g10 _ _ q2⟩) ?_;rw[aA];unfold wv sZ;simp only[vn,Int.natCast_add]
 rintro σ H8 ⟨hws2,g9,o10,rfl⟩;rw[show(2*((tr8.length:Nat):Int)).toNat=2*ts.length by lia]at hws2;refine⟨(by show 2<=ZW;decide),λrr' hrr=>?_⟩;have g10:=aB hrr (.tup [.ref na,.ref wl]);exact q rr' na wl nm _ ((g06.trans g9).trans g10) num ⟨aA,g10 _ _ (g9 _ _ e7),eK.mono hws2 g10⟩
theorem K0(ns:List Int):unl ns<=ns.length:=by
 have:=(kR ((ZR ns.length).map λi=>ns.getD i 0) [] List.nodup_nil).1;unfold unl firstMet;simpa using this
theorem IX(T:Txt K mg t):Ok P w base T 89 1 KC:=by
 left
 obtain⟨p,na,wa,ra,ms,ws,ns,rfl,hN,hO,hR,h60,q⟩:=h;obtain⟨rs,e1,e2,e3⟩:=hN.w;have hn2:=hO.n2;have nd_l_knot_l_net_here:(["_law_knot","_law_net_here"]:List Str).Nodup:=by decide
 refine⟨_,(aS (eQ (oQ (qF (bL (yN hr.units) (pv 1) (jP aO) (dH _)) (qF (bL jI (aN lD rfl (T.z 6) PySem.boot_len (aK (bS (tJ rfl) rfl (T.z 11) boot_set (aK (pv 1) aO)) aO)) (aN bK rfl (T.z 6) PySem.boot_len (aK (pv 1) aO)) (dH _)) (qF (bL jI (aN (fW rfl) rfl (T.z 9) boot_min (aK (pv 1) aO)) aM (dH _)) (yF (bL AI (aN (kT rfl) rfl (T.z 8) boot_max (aK (pv 1) aO)) (aN bK rfl (T.z 6) PySem.boot_len (aK (cP aG (pv 0) aM (λ_ _=>rfl)) aO)) (dH _))))))) (a0 (jN vP)) cE)
  (aS (eZ 2 nd (aN (dR rfl) rfl (T.z 13) boot_sum (aK (tZ (N':=["_law_knot","_law_net_here"]) (js:=[none,some 0]) rfl (a7 (pv 1)) (λ_ _ _ _ _=>(b7 (i:=0) nd_l_knot_l_net_here rfl (Or.inl rfl))) (λ_ _ _ _ _=>tY) (λ_ _ _ _ _=>(cP aI (cP aG (pv 1) aM (λ_ _=>rfl)) (pv 0) (λ_ _=>rfl)))) aO)))
  (aS (i5 PassesOwn.never rfl (a7 (cP aG (pv 0) aM (λ_ _=>rfl))) (vN (dM (b7 (i:=3) nd rfl (Or.inl rfl)) (dM (b7 (i:=4) nd rfl (Or.inl rfl)) (dM (b7 (i:=5) nd rfl (Or.inl rfl)) (dM (b7 (i:=6) nd rfl (Or.inl rfl)) (dM (b7 (i:=7) nd rfl (Or.inl rfl)) mI)))))) (aS (eQ (oQ (nN (bL sR (pv 3) (pv 1) rfl) (mF (bL gR (pv 4) (pv 1) rfl)))) (aS (eQ (bL eX (pv 6) nP (dH _)) (a0 (jN vP)) cE)
  (a0 (eZ 2 nd (bI t8 (pv 2) (pv 6))))) cE)
  (a0 (eQ (oQ (nN (bL sR (pv 4) (pv 1) rfl) (mF (bL gR (pv 3) (pv 1) rfl)))) (a0 (eZ 2 nd (bI aX (pv 2) (pv 5)))) cE))))
  (a0 (jN (mM E1 (pv 2) aM (dH _))))))),?_⟩
 have bad:∀H',aJ H H'->¬zK ms ns ws->Q (.bl false) H':=λH' g z=>by
  have:=q H' g;rw[uI z]at this;exact this
 refine via (λσ' H'=>Unl ns ms.length/\aJ H H'/\σ'=[some (.ref p),some (.ref ra),none,none,none,none,none,none]) (λhr'=>?_) ?_
 ·refine⟨(by show 0<=ZW;decide),λe he=>?_⟩;have g1:=aB he (.lst []);refine⟨_,_,kW (g1 _ _ hR),kW (ns:=[]) aA,shaped_ints _,shaped_ints [],i2 (λc=>iT (bad _ g1 λz=>?_)) (λc=>?_)⟩
  ·rw[nW]at c;have:ns=[]:=by simpa using c
   exact z.1.1 this
  have hne:ns≠[]:=λz=>c (by rw[nW,Ye z];rfl);have h0:0<ns.length:=List.length_pos_iff.mpr hne;have hR1:=g1 _ _ hR;refine⟨ra,ns,rfl,SqL.of hR1,by lia,λr S hrS=>?_⟩;have g2:=g1.trans (aB hrS (.set S (unl ns)));have hR2:=g2 _ _ hR;refine⟨r,S,_,rfl,aA,ra,_,rfl,.inl (SqL.of hR2),i2 (λc=>iT (bad _ g2 λz=>?_)) (λc=>?_)⟩
  ·have c':=Yf c;rw[Zq,(oZ ns).mpr z.1.2.2]at c'
   lia
  have hnd:ns.Nodup:=by
   refine(oZ ns).mp (Nat.le_antisymm (K0 ns) ?_);have:¬((unl ns:Nat):Int)<(((ns.map V.int).length:Nat):Int):=λz=>c (Ye z);rw[Zq]at this
   lia
  refine⟨ra,ns,rfl,SqL.of hR2,h0,λm hm hmin=>i2 (λc=>iT (bad _ g2 λz=>?_)) (λc1=>?_)⟩
  ·have c':m<0:=Yf c;have:=(z.1.2.1 m hm).1
   lia
  have c1':¬m<0:=λz=>c1 (Ye z);refine⟨ra,ns,rfl,SqL.of hR2,h0,λm2 hm2 hmax=>⟨_,_,SqT.of (hN.mono g2).tp,rfl,na,_,rfl,.inl (SqL.of (hN.mono g2).n),i2 (λc=>bad _ g2 λz=>?_) (λc2=>hr' _ _ ⟨⟨hne,λx hx=>?_,hnd⟩,g2,rfl⟩)⟩⟩
  ·have c':=Yf c;rw[Zq]at c';have:=(z.1.2.1 m2 hm2).2
   lia
  ·have c':¬((((ms.map V.int).length:Nat):Int)<=m2):=λz=>c2 (Ye z);rw[Zq]at c';have:=hmin x hx;have:=hmax x hx
   lia
 rintro σ H1 ⟨hu,g1,rfl⟩;have hR1:=g1 _ _ hR;have hN1:=hN.mono g1;refine⟨⟨_,SqL.of hR1⟩,λD2 hD2=>?_⟩;refine bD ns.length (λi=>.int (at0 ms (at0 ns i).toNat)) hD2 (by lia) (λi H' hi g=>⟨_,_,SqL.of (g _ _ hR1),bR hi⟩) (λH' g=>⟨_,SqL.of (g _ _ hR1),by rw[Zq];exact ZC _⟩) ?_ ?_
 ·rintro i H' x H'' k hi g ⟨rfl,hx⟩ hk;have ex:=hx _ (SqL.of (g _ _ hR1));rw[bR hi]at ex;cases ex;have hb:=hu.2.1 _ (fL (ls:=ns) (j:=i) hi);exact⟨(Fills.refl _).set _ rfl,_,_,SqT.of (g _ _ hN1.tp),rfl,_,_,SqL.of (g _ _ hN1.n),aU (j:=(at0 ns i).toNat) (by lia) (by lia),hk _ (aJ.refl _)⟩
 intro H2 g2 eD2;rw[show(ZR ns.length).map (λi=>V.int (at0 ms (at0 ns i).toNat))=(CH ms ns).map V.int by unfold CH;rw[Ym];rfl]at eD2;refine⟨D2,_,rfl,SqL.of eD2,?_⟩;have g02:=g1.trans g2;have es:(CH ms ns).sum=CG ms ns:=rfl;rw[es]
 let Pv1:Nat->L2.St->L2.Hp->Prop:=λi σ H'=>H'=H2/\∃(more:Int) (o5 o6 o7 o8 o9:Option V),bnd (cc (fof ns)) ws 0=bnd (cc (fof ns)) (ws.drop i) (CG ms ns-more)/\σ=[some (.ref p),some (.ref ra),some (.int more),o5,o6,o7,o8,o9]
 refine⟨_,_,SqT.of (g02 _ _ hN.tp),rfl,⟨_,SqL.of (g02 _ _ e1)⟩,cR (xs:=rs.map V.ref)
  Pv1 ⟨rfl,CG ms ns,_,_,_,_,_,by rw[Int.sub_self];rfl,rfl⟩ (λi σ H' _ h=>by obtain⟨rfl,_⟩:=h;exact SqL.of (g02 _ _ e1)) ?_ ?_⟩
 ·rintro i x σ H' hx ⟨rfl,more,o5,o6,o7,o8,o9,hb,rfl⟩;obtain⟨r,hr1,rfl⟩:=eU hx;obtain⟨w,hw,er⟩:=lK e2 e3 hr1;have hS:SqL H' ra (ns.map V.int):=SqL.of (g02 _ _ hR);have hcc:cc (fof ns) w=if fof ns w.a=true/\fof ns w.b=false then w.hi else if fof ns w.b=true/\fof ns w.a=false then some (-w.lo) else some 0:=rfl
  have hA:inV (.int (w.a:Int)) (ns.map V.int)=fof ns w.a:=wK _ _;have hB:inV (.int (w.b:Int)) (ns.map V.int)=fof ns w.b:=wK _ _;refine⟨_,SqT.of (g02 _ _ er),rfl,?_⟩;generalize fof ns w.a=fa at hA hcc;generalize fof ns w.b=fb at hB hcc;cases fa<;>cases fb<;>simp at hcc
  ·refine⟨_,.inl hS,rfl,c7 ns,iFb hA (iF ?_)⟩;exact⟨_,.inl hS,rfl,c7 ns,iFb hB (iF ⟨rfl,_,_,_,_,_,_,by rw[hb,eJ hw hcc,Int.add_zero],rfl⟩)⟩
  ·refine⟨_,.inl hS,rfl,c7 ns,iFb hA (iF ?_)⟩;refine⟨_,.inl hS,rfl,c7 ns,iTb hB ⟨_,.inl hS,rfl,c7 ns,iTb (by show(!inV (.int (w.a:Int)) (ns.map V.int))=true;rw[hA];rfl) ?_⟩⟩;exact⟨rfl,_,_,_,_,_,_,by rw[hb,eJ hw hcc];congr 1;lia,rfl⟩
  ·refine⟨_,.inl hS,rfl,c7 ns,iTb hA ⟨_,.inl hS,rfl,c7 ns,iTb (by show(!inV (.int (w.b:Int)) (ns.map V.int))=true;rw[hB];rfl) ?_⟩⟩;refine⟨rfl,?_⟩;rcases hh:w.hi with _ | h
   ·refine(iTb (by rfl) (bad _ g02 λz=>?_));rw[hh]at hcc;obtain⟨m,h,_⟩:=z.2;rw[hb,m7 hw hcc]at h;cases h
   ·rw[hh]at hcc;refine(iFb (by rfl) (?_));exact⟨_,.inl hS,rfl,c7 ns,iFb hB (iF ⟨rfl,more-h,_,_,_,_,_,by rw[hb,eJ hw hcc];congr 1;lia,rfl⟩)⟩
  ·refine⟨_,.inl hS,rfl,c7 ns,iTb hA ⟨_,.inl hS,rfl,c7 ns,iFb (by show(!inV (.int (w.b:Int)) (ns.map V.int))=false;rw[hB];rfl) ?_⟩⟩;exact⟨_,.inl hS,rfl,c7 ns,iTb hB ⟨_,.inl hS,rfl,c7 ns,iFb (by show(!inV (.int (w.a:Int)) (ns.map V.int))=false;rw[hA];rfl) ⟨rfl,_,_,_,_,_,_,by rw[hb,eJ hw hcc,Int.add_zero],rfl⟩⟩⟩
 ·rintro σ H' ⟨rfl,more,o5,o6,o7,o8,o9,hb,rfl⟩;rw[Zq,e2,List.drop_length]at hb;have hq:=q H' g02;show Q (.bl (decide (0<more))) H';by_cases hc:0<more
  ·rw[uH ⟨hu,_,hb,by lia⟩]at hq;rw[Ye hc];exact hq
  ·rw[uI λz=>by obtain⟨m,h,h'⟩:=z.2;rw[hb]at h;cases h;lia]at hq;rw[Yc hc];exact hq
end K32
namespace L2
open PySem PyProof.Rows
theorem J0{l:List Int}{j k:Nat}{v:Int}(h:j<l.length):at0 (l.set j v) k=if k=j then v else at0 l k:=by
 unfold at0;by_cases e:k=j
 ·subst e;rw[Yb rfl,Zv,ZK h];rfl
 ·rw[Ya e,Zv,ZJ (Yh e),<-Zv]
theorem HW(m:Nat)(c:Int):(ZR m).map (λ_=>V.int c)=(ZF m c).map V.int:=by
 apply Yt;intro i;by_cases h:i<m
 ·simp[h]
 ·simp[h]
theorem JZ{m:Nat}{c:Int}{e:Nat}(h:e<m):at0 (ZF m c) e=c:=by unfold at0;simp[List.getD,h]
theorem kH{d:List Nat}{i:Nat}(h:i<d.length):(vns d)[i]?=some (vn (d.getD i 0)):=by
 rw[Zk,Zz h];simp[List.getD,h]
theorem getD_mem{d:List Nat}{i:Nat}(h:i<d.length):d.getD i 0∈d:=by simp[List.getD,h]
end L2
namespace K32
open PySem L2 PyProof.Rows
def KA:Sp:=λvs H Q _=>∃(da ca la:Addr) (d:List Nat) (cs ls:List Int),vs=[.ref da,.ref ca,.ref la]/\H da=some (.lst (vns d))/\H ca=some (.lst (cs.map V.int))/\H la=some (.lst (ls.map V.int))/\(∀x∈d,x<cs.length/\x<ls.length/\MM.oth x<ls.length)/\d.length<=1000/\∀H',aJ H H'->Q (.int (MM.su d (MM.trm (at0 cs) (at0 ls)))) H'
theorem IT(T:Txt K mg t):Ok P w base T 82 2 KA:=by
 left
 obtain⟨da,ca,la,d,cs,ls,rfl,hd,hc,hl,hb,h1000,q⟩:=h;refine⟨_,(by exists aN (dR rfl) rfl (T.z 13) boot_sum ?_,(fZ ["_law_end","_law_lefts","_law_corners"] [none,some 2,some 1]),a7 ?_,0,0,aX,aI,2,0,aI,1,0,aI,1,fA,0),?_⟩;refine⟨⟨_,SqL.of hd⟩,λD hD=>?_⟩;refine bD d.length (λi=>.int (MM.trm (at0 cs) (at0 ls) (d.getD i 0))) hD (by lia) (λi H' hi g'=>⟨_,_,SqL.of (g' _ _ hd),kH hi⟩) (λH' g'=>⟨_,SqL.of (g' _ _ hd),by rw[Zq];exact ZC _⟩) ?_ ?_
 ·rintro i H' x H'' k hi g' ⟨rfl,hx⟩ hk;have ex:=hx _ (SqL.of (g' _ _ hd));rw[kH hi]at ex;cases ex;obtain⟨b1,b2,b3⟩:=hb _ (getD_mem hi);exact⟨(Fills.refl _).set _ rfl,_,_,SqL.of (g' _ _ hc),aU b1 rfl,_,_,SqL.of (g' _ _ hl),aU b2 rfl,d.getD i 0,rfl,_,_,SqL.of (g' _ _ hl),aU b3 rfl,hk _ (aJ.refl _)⟩
 intro H2 g2 eD;rw[tW d (λe=>V.int (MM.trm (at0 cs) (at0 ls) e)),show d.map (λe=>V.int (MM.trm (at0 cs) (at0 ls) e))=(d.map (MM.trm (at0 cs) (at0 ls))).map V.int by rw[Ym];rfl]at eD;exact⟨D,_,rfl,SqL.of eD,q H2 g2⟩
end K32
namespace MM
def xH(os:aR)(cs:List Int):Prop:=∀p,p<os.length->su (row os p) (λe=>L2.at0 cs (oth e))=4
def GS(ts:aV)(os:aR)(o:Nat)(cs ls:List Int):Prop:=∀(k:Nat) (d:List Nat),(lls ts os)[k]?=some d->su d (trm (L2.at0 cs) (L2.at0 ls))=if k=o then -4 else 4
def nC(ts:aV)(os:aR)(o:Nat)(cs ls:List Int):Prop:=cs.length=2*ts.length/\ls.length=2*ts.length/\(∀x∈cs,1<=x/\x<=4)/\(∀x∈ls,0<=x)/\xH os cs/\GS ts os o cs ls
open Classical in
noncomputable def shB(ts:aV)(os:aR)(o:Nat)(cs ls:List Int):Bool:=decide (nC ts os o cs ls)
open Classical in
noncomputable def plB(os:aR)(cs:List Int):Bool:=decide (xH os cs)
open Classical in
noncomputable def ldB(ts:aV)(os:aR)(o:Nat)(cs ls:List Int):Bool:=decide (GS ts os o cs ls)
open Classical in
theorem AD{ts:aV}{os:aR}{o:Nat}{cs ls:List Int}(h:nC ts os o cs ls):shB ts os o cs ls=true:=by unfold shB;exact Ye h
open Classical in
theorem vI{ts:aV}{os:aR}{o:Nat}{cs ls:List Int}(h:¬nC ts os o cs ls):shB ts os o cs ls=false:=by unfold shB;exact Yc h
open Classical in
theorem KI{os:aR}{cs:List Int}(h:xH os cs):plB os cs=true:=by unfold plB;exact Ye h
open Classical in
theorem KJ{os:aR}{cs:List Int}(h:¬xH os cs):plB os cs=false:=by unfold plB;exact Yc h
open Classical in
theorem KN{ts:aV}{os:aR}{o:Nat}{cs ls:List Int}(h:GS ts os o cs ls):ldB ts os o cs ls=true:=by unfold ldB;exact Ye h
open Classical in
theorem KO{ts:aV}{os:aR}{o:Nat}{cs ls:List Int}(h:¬GS ts os o cs ls):ldB ts os o cs ls=false:=by unfold ldB;exact Yc h
theorem sH(f:Nat->Int)(p:Nat->Bool):∀l:List Nat,su l (λe=>if p e=true then f e else 0)=su (l.filter p) f
 |[]=>rfl
 |x::l=>by
  rw[eO,List.filter_cons,sH f p l];by_cases h:p x=true
  ·rw[Yb h,Yb h,eO]
  ·rw[Ya h,Ya h];lia
theorem DL{ts:aV}{os:aR}(g:Good ts os)(c:Nat->Int)(p:Nat):su (ZR (2*ts.length)) (λe=>if place ts (oth e)=p then c e else 0)=su (row os p) (λe=>c (oth e)):=by
 have e1:su (ZR (2*ts.length)) (λe=>if place ts (oth e)=p then c e else 0)=su (ZR (2*ts.length)) (λe=>if decide (place ts (oth e)=p)=true then c e else 0):=vE λx _=>by simp only[decide_eq_true_eq]
 rw[e1,sH,<-LB c oth];refine HG (IG (List.Pairwise.filter _ List.nodup_range) ?_ λx=>?_)
 ·rw[List.Nodup,List.pairwise_map];exact List.Pairwise.imp (λh z=>h (kM z)) (g.g.nd p)
 ·rw[Yz,Zs,Zh,decide_eq_true_eq];constructor
  ·rintro⟨h1,h2⟩;have:=(g.g.has (oth x) (bQ h1)).2;rw[h2]at this;exact⟨oth x,this,pI x⟩
  ·rintro⟨y,hy,rfl⟩;have:=g.g.ends p y hy;exact⟨bQ this.1,by rw[pI];exact this.2⟩
theorem HF(f:Nat->Int)(n:Nat):su (ZR (n+1)) f=su (ZR n) f+f n:=by rw[ZH,DN,eO,DM];lia
end MM
namespace K32
open PySem L2 PyProof.Rows
theorem yQ(T:Txt K mg t):Ok P w base T 56 2 KA:=by
 left
 obtain⟨da,ca,la,d,cs,ls,rfl,hd,hc,hl,hb,h1000,q⟩:=h;refine⟨_,(by exists aN (dR rfl) rfl (T.z 13) boot_sum ?_,(fZ ["end","lefts","corners"] [none,some 2,some 1]),a7 ?_,0,0,aX,aI,2,0,aI,1,0,aI,1,jS,0),?_⟩;refine⟨⟨_,SqL.of hd⟩,λD hD=>?_⟩;refine bD d.length (λi=>.int (MM.trm (at0 cs) (at0 ls) (d.getD i 0))) hD (by lia) (λi H' hi g'=>⟨_,_,SqL.of (g' _ _ hd),kH hi⟩) (λH' g'=>⟨_,SqL.of (g' _ _ hd),by rw[Zq];exact ZC _⟩) ?_ ?_
 ·rintro i H' x H'' k hi g' ⟨rfl,hx⟩ hk;have ex:=hx _ (SqL.of (g' _ _ hd));rw[kH hi]at ex;cases ex;obtain⟨b1,b2,b3⟩:=hb _ (getD_mem hi);exact⟨(Fills.refl _).set _ rfl,_,_,SqL.of (g' _ _ hc),aU b1 rfl,_,_,SqL.of (g' _ _ hl),aU b2 rfl,d.getD i 0,rfl,_,_,SqL.of (g' _ _ hl),aU b3 rfl,hk _ (aJ.refl _)⟩
 intro H2 g2 eD;rw[tW d (λe=>V.int (MM.trm (at0 cs) (at0 ls) e)),show d.map (λe=>V.int (MM.trm (at0 cs) (at0 ls) e))=(d.map (MM.trm (at0 cs) (at0 ls))).map V.int by rw[Ym];rfl]at eD;exact⟨D,_,rfl,SqL.of eD,q H2 g2⟩
def DT:Sp:=λvs H Q _=>∃(wa ca:Addr) (ts:MM.aV) (os:MM.aR) (cs:List Int),vs=[.ref wa,.ref ca]/\dW H wa os.length ts os/\MM.Good ts os/\ts.length<=40/\os.length<=40/\H ca=some (.lst (cs.map V.int))/\cs.length=2*ts.length/\∀H',aJ H H'->Q (.bl (MM.plB os cs)) H'
theorem B7(T:Txt K mg t):Ok P w base T 53 3 DT:=by
 left
 obtain⟨wa,ca,ts,os,cs,rfl,hWeb,g,h40,o40,hc,lc,q⟩:=h;refine⟨_,(by exists (e8 2 ["place"] [none]),aG,0,0,cL rfl (T.z 3) ?_,1,3,4,iC (pv 2) ?_ gE (pv 4) jX set_list,uA,0,3,aN (iX rfl) rfl (T.z 0) boot_all ?_,(fZ ["total"] [none]),a7 ?_,2,0,bY,0,mK (T.g 0)),?_⟩;obtain⟨tA,oA,hw,hts,hos⟩:=id hWeb;refine⟨_,_,SqT.of hw,rfl,_,rfl,by lia,by lia,λsA hsA=>?_⟩;refine bD ((os.length:Nat):Int).toNat (λ_=>.int 0) hsA (by lia) (λi H' hi _=>hi) (λH' _=>ZC _) ?_ ?_
 ·rintro i H' x H'' k hi g' ⟨rfl,rfl⟩ hk;exact⟨(Fills.refl _).set _ rfl,hk _ (aJ.refl _)⟩
 intro H2 g2 es;rw[Int.toNat_natCast,HW]at es
 let Pv1:Nat->L2.St->L2.Hp->Prop:=λi σ H'=>aJ H H'/\(∃ss:List Int,H' sA=some (.lst (ss.map V.int))/\ss.length=os.length/\∀p,p<os.length->at0 ss p=MM.su (ZR i) (λe=>if MM.place ts (MM.oth e)=p then at0 cs e else 0)) /\
   ∃o3 o4:Option V,σ=[some (.ref wa),some (.ref ca),some (.ref sA),o3,o4]
 refine⟨ca,rfl,⟨_,SqL.of (g2 _ _ hc)⟩,dD (xs:=cs.map V.int)
  Pv1
  ⟨g2,⟨_,es,by simp,λp hp=>by rw[JZ hp];rfl⟩,_,_,rfl⟩ (λi σ H' _ h=>SqL.of (h.1 _ _ hc)) ?_ ?_⟩
 ·rintro i x σ H3 Tp hx ⟨g3,⟨ss,e1,e2,e3⟩,o3,o4,rfl⟩ hTp;have hi:i<cs.length:=by have:=(Zj.mp hx).1;rwa [Zq]at this
  rw[bR hi]at hx;cases hx;have g4:=aB hTp (.tup [vn i,.int (at0 cs i)]);have g34:=g3.trans g4;have f1:=g4 _ _ e1;refine⟨_,SqT.of aA,rfl,?_⟩;have pl:=(g.g.has (MM.oth i) (MM.bQ (by lia))).1;generalize upd H3 Tp (.tup [vn i,.int (at0 cs i)])=H4 at g4 g34 f1;refine⟨wa,_,ts,os,i,rfl,g34.web hWeb,by lia,_,_,SqL.of f1,by lia,aU (j:=MM.place ts (MM.oth i)) (by lia) rfl,_,MM.place ts (MM.oth i),f1,fV (by rw[Zq];lia) rfl,?_⟩;rw[<-ZG];refine⟨λb u h=>by rw[aE (aC h hsA)];exact g34 _ _ h,⟨_,aA,by rw[ZP];exact e2,λp hp=>?_⟩,_,_,rfl⟩;rw[J0 (by lia),MM.HF,e3 p hp];by_cases z:p=MM.place ts (MM.oth i)
  ·rw[Yb z,Yb z.symm,z,e3 _ pl]
  ·rw[Ya z,Ya (Yh z)];lia
 rintro σ H3 ⟨g3,⟨ss,e1,e2,e3⟩,o3,o4,rfl⟩;rw[Zq,lc]at e3;refine⟨⟨_,SqL.of e1⟩,λD hD=>?_⟩;refine bD ss.length (λi=>.bl (decide (V.int (at0 ss i)=V.int 4))) hD (by lia) (λi H' hi g'=>⟨_,_,SqL.of (g' _ _ e1),bR hi⟩) (λH' g'=>⟨_,SqL.of (g' _ _ e1),by rw[Zq];exact ZC _⟩) ?_ ?_
 ·rintro i H' x H'' k hi g' ⟨rfl,hx⟩ hk;have ex:=hx _ (SqL.of (g' _ _ e1));rw[bR hi]at ex;cases ex;exact⟨(Fills.refl _).set _ rfl,hk _ (aJ.refl _)⟩
 intro H4 g4 eD;rw[show(ZR ss.length).map (λi=>V.bl (decide (V.int (at0 ss i)=V.int 4)))=((ZR ss.length).map λi=>decide (V.int (at0 ss i)=V.int 4)).map V.bl by rw[Ym];rfl]at eD;refine⟨D,_,rfl,SqL.of eD,?_⟩;have hB:((ZR ss.length).map λi=>decide (V.int (at0 ss i)=V.int 4)).all id=MM.plB os cs:=by
  have key:(∀p,p<os.length->at0 ss p=4)↔MM.xH os cs:=by
   unfold MM.xH;constructor
   ·intro h p hp;rw[<-MM.DL g,<-e3 p hp];exact h p hp
   ·intro h p hp;rw[e3 p hp,MM.DL g];exact h p hp
  by_cases h:MM.xH os cs
  ·rw[MM.KI h,ZD];intro b hb;obtain⟨i,hi,rfl⟩:=Zh.mp hb;have:=key.mpr h i (by rw[<-e2];exact Zs.mp hi);simp[this]
  ·rw[MM.KJ h,Bool.eq_false_iff];intro hall;apply h;refine key.mp λp hp=>?_;have:=List.all_eq_true.mp hall _ (Zh.mpr ⟨p,Zs.mpr (by lia),rfl⟩);have:=Yf this;exact V.int.inj this
 rw[hB];exact q H4 (g3.trans g4)
def DY:Sp:=λvs H Q _=>∃(wa ca la:Addr) (n o:Nat) (ts:MM.aV) (os:MM.aR) (cs ls:List Int),vs=[.ref wa,vn o,.ref ca,.ref la]/\dW H wa n ts os/\MM.Good ts os/\ts.length<=40/\H ca=some (.lst (cs.map V.int))/\H la=some (.lst (ls.map V.int))/\cs.length=2*ts.length/\ls.length=2*ts.length/\∀H',aJ H H'->Q (.bl (MM.ldB ts os o cs ls)) H'
theorem rV(T:Txt K mg t):Ok P w base T 54 6 DY:=by
 left
 obtain⟨wa,ca,la,n,o,ts,os,cs,ls,rfl,hWeb,g,h40,hc,hl,lc,ll,q⟩:=h;refine⟨_,(by exists cL rfl (T.z 3) ?_,hZ,0,4,5,e9,yQ,5,2,3,sU,4,1),?_⟩;refine⟨wa,n,ts,os,rfl,hWeb,g,by lia,λr rr H1 g1 nos=>?_⟩
 let Pv2:Nat->L2.St->L2.Hp->Prop:=λi σ H'=>aJ H1 H'/\(∀(k:Nat) (d:List Nat),k<i->(MM.lls ts os)[k]?=some d->MM.su d (MM.trm (at0 cs) (at0 ls))=if k=o then -4 else 4) /\
   ∃o4 o5:Option V,σ=[some (.ref wa),some (vn o),some (.ref ca),some (.ref la),o4,o5]
 refine⟨r,rfl,⟨_,SqL.of nos.at_⟩,dD (xs:=rr.map V.ref)
  Pv2
  ⟨aJ.refl _,λk d hk=>Yg hk (by lia),_,_,rfl⟩ (λi σ H' _ h=>SqL.of (h.1 _ _ nos.at_)) ?_ ?_⟩
 ·rintro i x σ H2 Tp hx ⟨g2,hk,o4,o5,rfl⟩ hTp;obtain⟨y,hy,rfl⟩:=eU hx;have hil:i<(MM.lls ts os).length:=by rw[<-nos.len];exact(Zj.mp hy).1
  have hli:=Zz hil;obtain⟨y',hy',ey⟩:=nos.row i _ hli;rw[hy]at hy';cases hy';generalize (MM.lls ts os)[i]=d at hli ey;have hdd:=MM.wC g hli;have hd80:d.length<=1000:=by have:=MM.f6 _ _ hdd.1 hdd.2.1;lia
  have g3:=aB hTp (.tup [vn i,.ref y]);have g23:=g2.trans g3;have g03:=g1.trans g23;refine⟨_,SqT.of aA,rfl,?_⟩;generalize upd H2 Tp (.tup [vn i,.ref y])=H3 at g23 g03;refine⟨y,ca,la,d,cs,ls,rfl,g23 _ _ ey,g03 _ _ hc,g03 _ _ hl,λx hx=>⟨by have:=hdd.2.1 x hx;lia,by have:=hdd.2.1 x hx;lia,by have:=MM.bQ (hdd.2.1 x hx);lia⟩,hd80,λH4 g4=>?_⟩;refine⟨i,o,rfl,?_⟩;by_cases z:MM.su d (MM.trm (at0 cs) (at0 ls))=if i=o then -4 else 4
  ·refine iFb (by rw[z];simp) ?_;refine⟨g23.trans g4,λk d' hk' hd'=>?_,_,_,rfl⟩;by_cases e:k=i
   ·subst e;rw[hli]at hd';cases hd';exact z
   ·exact hk k d' (by lia) hd'
  ·refine iTb (by simp[z]) ?_;have:=q H4 (g03.trans g4);rw[MM.KO λh=>z (h i d hli)]at this;exact this
 rintro σ H2 ⟨g2,hk,o4,o5,rfl⟩;rw[Zq,nos.len]at hk;have:=q H2 (g1.trans g2);rw[MM.KN λk d hd=>hk k d (Zj.mp hd).1 hd]at this;exact this
def sJ:Sp:=λvs H Q _=>∃(wa sa ca la:Addr) (o:Nat) (ts:MM.aV) (os:MM.aR) (cs ls:List Int),vs=[.ref wa,vn o,.ref sa]/\dW H wa os.length ts os/\MM.Good ts os/\ts.length<=40/\os.length<=40/\H sa=some (.tup [.ref ca,.ref la])/\H ca=some (.lst (cs.map V.int))/\H la=some (.lst (ls.map V.int))/\∀H',aJ H H'->Q (.bl (MM.shB ts os o cs ls)) H'
theorem yR(T:Txt K mg t):Ok P w base T 52 7 sJ:=by
 left
 obtain⟨wa,sa,ca,la,o,ts,os,cs,ls,rfl,hWeb,g,h40,o40,hsa,hc,hl,q⟩:=h;refine⟨_,(by exists 3,aG,2,4,aG,2,5,aG,0,e9,3,5,e9,4,5,aN (fW rfl) rfl (T.z 9) boot_min ?_,3,aN (kT rfl) rfl (T.z 8) boot_max ?_,3,mK (T.g 0),aN (fW rfl) rfl (T.z 9) boot_min ?_,4,lR ?_ ?_,B7,0,3,lQ ?_,rV,0,1,3,4),?_⟩;obtain⟨tA,oA,hw,hts,hos⟩:=id hWeb;obtain⟨trv,tv1,tv2⟩:∃trv:List V,H tA=some (.lst trv)/\trv.length=ts.length:=by
  obtain⟨tr,q1,q2,_⟩:=hts;exact⟨_,q1,by rw[Zq];exact q2⟩
 have h1:=g.one;have no:¬MM.nC ts os o cs ls->Q (.bl false) H:=λh=>by
  have:=q H (aJ.refl _);rw[MM.vI h]at this;exact this
 refine⟨_,_,SqT.of hsa,rfl,?_⟩;refine⟨_,_,SqT.of hsa,rfl,?_⟩;refine⟨_,_,SqT.of hw,rfl,tA,_,rfl,.inl (SqL.of tv1),.inl ⟨by decide,by decide⟩,?_⟩;have eM:(2:Int)*((trv.length:Nat):Int)=((2*ts.length:Nat):Int):=by lia
 show b0 5 (V.int (2*((trv.length:Nat):Int))) _ _ _;rw[eM];refine⟨ca,_,rfl,.inl (SqL.of hc),?_⟩;rw[Zq];by_cases z1:cs.length=2*ts.length
 ·refine iFb (by rw[z1];simp) ?_;refine⟨la,_,rfl,.inl (SqL.of hl),?_⟩;rw[Zq];by_cases z2:ls.length=2*ts.length
  ·refine iFb (by rw[z2];simp) ?_;refine⟨ca,cs,rfl,SqL.of hc,by lia,λm hm hmin=>?_⟩;by_cases y1:m<1
   ·exact iTb (Ye y1) (iT (no λh=>by have:=(h.2.2.1 m hm).1;lia))
   refine iFb (Yc y1) ?_;refine⟨ca,cs,rfl,SqL.of hc,by lia,λm2 hm2 hmax=>?_⟩;by_cases y2:4<m2
   ·exact iTb (Ye y2) (iT (no λh=>by have:=(h.2.2.1 m2 hm2).2;lia))
   refine iFb (Yc y2) ?_;refine⟨la,ls,rfl,SqL.of hl,by lia,λm3 hm3 hmin3=>?_⟩;by_cases y3:m3<0
   ·exact iTb (Ye y3) (no λh=>by have:=h.2.2.2.1 m3 hm3;lia)
   refine iFb (Yc y3) ?_;have pre:MM.shB ts os o cs ls=(MM.plB os cs&&MM.ldB ts os o cs ls):=by
    by_cases a:MM.xH os cs
    ·by_cases b:MM.GS ts os o cs ls
     ·rw[MM.KI a,MM.KN b,MM.AD ⟨z1,z2,λx hx=>⟨by have:=hmin x hx;lia,by have:=hmax x hx;lia⟩,λx hx=>by have:=hmin3 x hx;lia,a,b⟩];rfl
     ·rw[MM.KO b,MM.vI λh=>b h.2.2.2.2.2,Bool.and_false]
    ·rw[MM.KJ a,MM.vI λh=>a h.2.2.2.2.1];rfl
   refine⟨wa,ca,ts,os,cs,rfl,hWeb,g,h40,o40,hc,z1,λH1 g1=>(?_)⟩;rw[pre]at q;cases hp:MM.plB os cs with
   |false =>
    rw[hp,Bool.false_and]at q;exact iF (q H1 g1)
   |true =>
    rw[hp,Bool.true_and]at q;exact iT ⟨wa,ca,la,_,o,ts,os,cs,ls,rfl,g1.web hWeb,g,h40,g1 _ _ hc,g1 _ _ hl,z1,z2,λH2 g2=>q H2 (g1.trans g2)⟩
  ·refine iTb (by simp;lia) (no λh=>z2 h.2.1)
 ·exact iTb (by simp;lia) (iT (no λh=>z1 h.1))
theorem vS(T:Txt K mg t):Ok P w base T 90 4 sJ:=by
 left
 obtain⟨wa,sa,ca,la,o,ts,os,cs,ls,rfl,hWeb,g,h40,o40,hsa,hc,hl,q⟩:=h;refine⟨_,(by exists dF ?_ ?_,2,3,4,e9,3,aG,0,e9,4,3,aN (fW rfl) rfl (T.z 9) boot_min ?_,4,aN (fW rfl) rfl (T.z 9) boot_min ?_,3,aN (kT rfl) rfl (T.z 8) boot_max ?_,3,a7 ?_,aG,0,5,e9,aN (dR rfl) rfl (T.z 13) boot_sum ?_,(fZ ["_law_end","_law_corners"] [none,some 3]),a7 ?_,5,0,aI,1,fA,0,cL rfl (T.z 3) ?_,iS,aG,0,aG,0,6,7,e9,IT,7,3,4,bS kU rfl (T.z 4) boot_int ?_,bY,6,1),?_⟩;obtain⟨tA,oA,hw,hts,hos⟩:=id hWeb;obtain⟨trv,tv1,tv2⟩:∃trv:List V,H tA=some (.lst trv)/\trv.length=ts.length:=by
  obtain⟨tr,q1,q2,_⟩:=hts;exact⟨_,q1,by rw[Zq];exact q2⟩
 have h1:=g.one;have no:∀{H':Hp},aJ H H'->¬MM.nC ts os o cs ls->Q (.bl false) H':=λgg h=>by
  have:=q _ gg;rw[MM.vI h]at this;exact this
 refine⟨_,SqT.of hsa,rfl,?_⟩;refine⟨ca,_,rfl,.inl (SqL.of hc),_,.ref tA,SqT.of hw,rfl,tA,_,rfl,.inl (SqL.of tv1),.inl ⟨by decide,by decide⟩,?_⟩;rw[Zq];by_cases z1:cs.length=2*ts.length
 case neg=>exact iTb (by simp;lia) (iT (no (aJ.refl _) λh=>z1 h.1))
 refine iFb (by rw[z1,tv2];simp) ?_;refine⟨la,_,rfl,.inl (SqL.of hl),ca,_,rfl,.inl (SqL.of hc),?_⟩;rw[Zq,Zq];by_cases z2:ls.length=2*ts.length
 case neg=>exact iTb (by simp;lia) (iT (no (aJ.refl _) λh=>z2 h.2.1))
 refine iFb (by rw[z2,z1];simp) ?_;refine⟨la,ls,rfl,SqL.of hl,by lia,λm3 hm3 hmin3=>?_⟩;by_cases y3:m3<0
 ·exact iTb (Ye y3) (no (aJ.refl _) λh=>by have:=h.2.2.2.1 m3 hm3;lia)
 refine iFb (Yc y3) ?_;have hls:∀x∈ls,0<=x:=λx hx=>by have:=hmin3 x hx;lia
 refine⟨ca,cs,rfl,SqL.of hc,by lia,λm4 hm4 hmin4=>?_⟩;by_cases y4:m4<1
 ·exact iTb (Ye y4) (iT (no (aJ.refl _) λh=>by have:=h.2.2.1 m4 hm4;lia))
 refine iFb (Yc y4) ?_;refine⟨ca,cs,rfl,SqL.of hc,by lia,λm5 hm5 hmax5=>?_⟩;by_cases y5:4<m5
 ·exact iTb (Ye y5) (no (aJ.refl _) λh=>by have:=h.2.2.1 m5 hm5;lia)
 refine iFb (Yc y5) ?_;have hcs:∀x∈cs,1<=x/\x<=4:=λx hx=>⟨by have:=hmin4 x hx;lia,by have:=hmax5 x hx;lia⟩
 obtain⟨ro,o1,o2,o3⟩:=id hos
 let Pv1:Nat->L2.St->L2.Hp->Prop:=λi σ H'=>aJ H H'/\(∀p,p<i->MM.su (MM.row os p) (λe=>at0 cs (MM.oth e))=4) /\
   ∃o8:Option V,σ=[some (.ref wa),some (vn o),some (.ref sa),some (.ref ca),some (.ref la),o8,none,none]
 refine⟨_,.ref oA,SqT.of hw,rfl,⟨_,SqL.of o1⟩,cR (xs:=ro.map V.ref)
  Pv1
  ⟨aJ.refl _,λp hp=>Yg hp (by lia),_,rfl⟩ (λi σ H' _ h=>SqL.of (h.1 _ _ o1)) ?_ ?_⟩
 ·rintro i x σ H3 hx ⟨g3,hk,o8,rfl⟩;obtain⟨y,hy,rfl⟩:=eU hx;have hi':i<os.length:=by rw[<-o2];exact(Zj.mp hy).1
  have i4:H3 y=some (.lst (vns (MM.row os i))):=by
   obtain⟨y',q1,q2⟩:=o3 i _ (Zz hi');rw[hy]at q1;cases q1;unfold MM.row;rw[Zv,Zz hi'];exact g3 _ _ q2
  have hb4:=g.g.four i;refine⟨⟨_,SqL.of i4⟩,λD hD=>?_⟩;refine bD (MM.row os i).length (λj=>.int (at0 cs (MM.oth ((MM.row os i).getD j 0)))) hD (by lia) (λj H' hj g'=>⟨_,_,SqL.of (g' _ _ i4),kH hj⟩) (λH' g'=>⟨_,SqL.of (g' _ _ i4),by rw[Zq];exact ZC _⟩) ?_ ?_
  ·rintro j H' x H'' k hj g' ⟨rfl,hx⟩ hk;have ex:=hx _ (SqL.of (g' _ _ i4));rw[kH hj]at ex;cases ex;have hE:=MM.bQ (g.g.ends i _ (getD_mem hj)).1;exact⟨(Fills.refl _).set _ rfl,(MM.row os i).getD j 0,rfl,_,_,SqL.of (g' _ _ (g3 _ _ hc)),aU (by lia) rfl,hk _ (aJ.refl _)⟩
  intro H4 g4 eD;rw[tW (MM.row os i) (λe=>V.int (at0 cs (MM.oth e))),show(MM.row os i).map (λe=>V.int (at0 cs (MM.oth e)))=((MM.row os i).map λe=>at0 cs (MM.oth e)).map V.int by rw[Ym];rfl]at eD;refine⟨D,_,rfl,SqL.of eD,?_⟩;have es:((MM.row os i).map λe=>at0 cs (MM.oth e)).sum=MM.su (MM.row os i) (λe=>at0 cs (MM.oth e)):=rfl;rw[es];by_cases z:MM.su (MM.row os i) (λe=>at0 cs (MM.oth e))=4
  ·refine iFb (by rw[z];simp) ?_;refine⟨g3.trans g4,λp hp=>?_,_,rfl⟩;by_cases e:p=i
   ·subst e;exact z
   ·exact hk p (by lia)
  ·exact iTb (by simp[z]) (no (g3.trans g4) λh=>z (h.2.2.2.2.1 i hi'))
 rintro σ H3 ⟨g3,hk,o8,rfl⟩;rw[Zq,o2]at hk;refine⟨_,.ref tA,SqT.of (g3 _ _ hw),rfl,_,.ref oA,SqT.of (g3 _ _ hw),rfl,tA,oA,ts,os,rfl,g3.ts hts,g3.os hos,g,by lia,λr rr H4 g4 nos=>?_⟩
 let Pv2:Nat->L2.St->L2.Hp->Prop:=λi σ H'=>aJ H4 H'/\(∀(k:Nat) (d:List Nat),k<i->(MM.lls ts os)[k]?=some d->MM.su d (MM.trm (at0 cs) (at0 ls))=if k=o then -4 else 4) /\
   ∃o9 o10:Option V,σ=[some (.ref wa),some (vn o),some (.ref sa),some (.ref ca),some (.ref la),o8,o9,o10]
 refine⟨r,rfl,⟨_,SqL.of nos.at_⟩,dD (xs:=rr.map V.ref)
  Pv2
  ⟨aJ.refl _,λk d hk=>Yg hk (by lia),_,_,rfl⟩ (λi σ H' _ h=>SqL.of (h.1 _ _ nos.at_)) ?_ ?_⟩
 ·rintro i x σ H5 Tp hx ⟨g5,hk5,o9,o10,rfl⟩ hTp;obtain⟨y,hy,rfl⟩:=eU hx;have hil:i<(MM.lls ts os).length:=by rw[<-nos.len];exact(Zj.mp hy).1
  have hli:=Zz hil;obtain⟨y',hy',ey⟩:=nos.row i _ hli;rw[hy]at hy';cases hy';generalize (MM.lls ts os)[i]=d at hli ey;have hdd:=MM.wC g hli;have hd80:d.length<=1000:=by have:=MM.f6 _ _ hdd.1 hdd.2.1;lia
  have g6:=aB hTp (.tup [vn i,.ref y]);have g56:=g5.trans g6;have g06:=(g3.trans g4).trans g56;refine⟨_,SqT.of aA,rfl,?_⟩;generalize upd H5 Tp (.tup [vn i,.ref y])=H6 at g56 g06;refine⟨y,ca,la,d,cs,ls,rfl,g56 _ _ ey,g06 _ _ hc,g06 _ _ hl,λx hx=>⟨by have:=hdd.2.1 x hx;lia,by have:=hdd.2.1 x hx;lia,by have:=MM.bQ (hdd.2.1 x hx);lia⟩,hd80,λH7 g7=>?_⟩;refine(.inr ⟨_,rfl,.inl ⟨by decide,by decide⟩,?_⟩);have ev:(4:Int)-8*(if decide (V.int ((i:Nat):Int)=V.int ((o:Nat):Int))=true then 1 else 0)=if i=o then -4 else 4:=by
   by_cases z:i=o
   ·subst z;simp
   ·have z':¬V.int ((i:Nat):Int)=V.int ((o:Nat):Int):=λh=>z (by have:=V.int.inj h;lia);rw[Yc z',Ya YT,Ya z];rfl
  show If ((!decide (V.int (MM.su d (MM.trm (at0 cs) (at0 ls)))=V.int ((4:Int)-8*(if decide (V.int ((i:Nat):Int)=V.int ((o:Nat):Int))=true then 1 else 0))))) _ _;rw[ev];by_cases z:MM.su d (MM.trm (at0 cs) (at0 ls))=if i=o then -4 else 4
  ·refine iFb (by rw[z];simp) ?_;refine⟨g56.trans g7,λk d' hk' hd'=>?_,_,_,rfl⟩;by_cases e:k=i
   ·subst e;rw[hli]at hd';cases hd';exact z
   ·exact hk5 k d' (by lia) hd'
  ·exact iTb (by simp[z]) (no (g06.trans g7) λh=>z (h.2.2.2.2.2 i d hli))
 rintro σ H5 ⟨g5,hk5,o9,o10,rfl⟩;rw[Zq,nos.len]at hk5;have:=q H5 ((g3.trans g4).trans g5);rw[MM.AD ⟨z1,z2,hcs,hls,hk,λk d hd=>hk5 k d (Zj.mp hd).1 hd⟩]at this;exact this
end K32
namespace K32
open PySem L2 PyProof.Rows NM
noncomputable def rR(ns:List Int)(n:Nat):Bool:=@decide (Unl ns n) (Classical.propDecidable _)
theorem DD{ns:List Int}{n:Nat}(h:Unl ns n):rR ns n=true:=by unfold rR;simp[h]
theorem DE{ns:List Int}{n:Nat}(h:¬Unl ns n):rR ns n=false:=by unfold rR;simp[h]
theorem G3{ns:List Int}{n:Nat}(h:rR ns n=true):Unl ns n:=by unfold rR at h;simpa using h
theorem G5{ns:List Int}{n:Nat}(h:rR ns n=false):¬Unl ns n:=λz=>by rw[DD z]at h;cases h
def J9:Sp:=λvs H Q _=>∃(p:Addr) (ns:List Int) (n:Nat),vs=[.ref p,.int n]/\H p=some (.lst (ns.map V.int))/\ns.length<4000/\∀H',aJ H H'->Q (.bl (rR ns n)) H'
theorem B5(T:Txt K mg t):Ok P w base T 47 1 J9:=by
 left
 obtain⟨p,ns,n,rfl,hp,h4,q⟩:=h;refine⟨_,(aS (eQ (oQ (qF (iL (bH (pv 0) (λ_=>rfl))) (qF (bL jI (aN (fW rfl) rfl (T.z 9) boot_min (aK (pv 0) aO)) aM (dH _)) (yF (bL AI (aN (kT rfl) rfl (T.z 8) boot_max (aK (pv 0) aO)) (pv 1) (dH _)))))) (a0 (jN vP)) cE)
  (a0 (jN (mM bY (aN lD rfl (T.z 6) PySem.boot_len (aK (bS (tJ rfl) rfl (T.z 11) boot_set (aK (pv 0) aO)) aO)) (aN bK rfl (T.z 6) PySem.boot_len (aK (pv 0) aO)) (dH _))))),?_⟩
 have bad:¬Unl ns n->Q (.bl false) H:=λz=>by
  have:=q H (aJ.refl _);rw[DE z]at this;exact this
 have hS:SqL H p (ns.map V.int):=SqL.of hp;refine⟨_,.inl ⟨_,hS,rfl⟩,?_⟩;cases hns:ns with
 |nil=>exact iTb (by rfl) (iT (bad λz=>z.1 hns))
 |cons y ys =>
  rw[<-hns];have hne:ns≠[]:=by rw[hns];exact λz=>nomatch z
  have h0:0<ns.length:=by rw[hns];simp
  refine iFb (by rw[hns];rfl) ?_;refine⟨p,ns,rfl,hS,h0,λm hm hmin=>i2 (λc=>iT (bad λz=>?_)) (λc=>?_)⟩
  ·have c':m<0:=Yf c;have:=(z.2.1 m hm).1
   lia
  have c1:¬m<0:=λz=>c (Ye z);refine⟨p,ns,rfl,hS,h0,λm2 hm2 hmax=>i2 (λc=>bad λz=>?_) (λc=>?_)⟩
  ·have c':(n:Int)<=m2:=Yf c;have:=(z.2.1 m2 hm2).2
   lia
  have c2:¬(n:Int)<=m2:=λz=>c (Ye z);refine⟨p,ns,rfl,hS,h4,λr S hr'=>⟨r,S,_,rfl,aA,p,_,rfl,.inl (SqL.of (aB hr' _ _ _ hp)),?_⟩⟩;have hq:=q _ (aB hr' (.set S (unl ns)));have e:decide (V.int ((unl ns:Nat):Int)=V.int (((ns.map V.int).length:Nat):Int))=rR ns n:=by
   rw[Zq];by_cases hd:ns.Nodup
   ·rw[DD ⟨hne,λx hx=>⟨by have:=hmin x hx;lia,by have:=hmax x hx;lia⟩,hd⟩,(oZ ns).mpr hd];exact Ye rfl
   ·rw[DE (λz=>hd z.2.2)];refine Yc λz=>hd ((oZ ns).mp ?_);have:=V.int.inj z
    lia
  rw[<-e]at hq;exact hq
theorem GJ{bs:List Bool}{k:Nat}(h:k<bs.length){x:Int}(hx:x=(k:Int)):atI (bs.map V.bl) x=some (.bl (bs.getD k false)):=by
 subst hx;exact bM (by rw[Zk,Zz h];simp[List.getD,h])
def bf(bs:List Bool)(k:Nat):Bool:=bs.getD k false
def DW:Sp:=λvs H Q _=>∃(p na wa ia:Addr) (ms:List Int) (ws:List Way) (bs:List Bool),vs=[.ref p,.ref ia]/\gI H p na wa ms ws/\oR ms ws/\H ia=some (.lst (bs.map V.bl))/\bs.length=ms.length/\Q (vo (bnd (cc (bf bs)) ws 0)) H
theorem IS(T:Txt K mg t):Ok P w base T 48 1 DW:=by
 left
 obtain⟨p,na,wa,ia,ms,ws,bs,rfl,hN,hO,hI,hbl,q⟩:=h;obtain⟨rs,e1,e2,e3⟩:=hN.w;refine⟨_,(by exists 2,a7 ?_,aG,0,3,bH ?_ (λ_=>rfl),aI,1,aG,3,bH ?_ (λ_=>rfl),aI,1,aG,3,eX,aG,3,yH (i:=2) nd rfl (Or.inl rfl) ?_ jX,aG,3,bH ?_ (λ_=>rfl),aI,1,aG,3,bH ?_ (λ_=>rfl),aI,1,aG,3,yH (i:=2) nd rfl (Or.inl rfl) ?_ zB,aG,3,2),?_⟩
 let Pv1:Nat->L2.St->L2.Hp->Prop:=λi σ H'=>H'=H/\∃(tot:Int) (o3:Option V),bnd (cc (bf bs)) ws 0=bnd (cc (bf bs)) (ws.drop i) tot/\σ=[some (.ref p),some (.ref ia),some (.int tot),o3]
 refine⟨_,_,SqT.of hN.tp,rfl,⟨_,SqL.of e1⟩,cR (xs:=rs.map V.ref)
  Pv1 ⟨rfl,_,_,rfl,rfl⟩ (λi σ H' _ h=>by obtain⟨rfl,_⟩:=h;exact SqL.of e1) ?_ ?_⟩
 ·rintro i x σ H' hx ⟨rfl,tot,o3,hb,rfl⟩;obtain⟨r,hr1,rfl⟩:=eU hx;obtain⟨w,hw,er⟩:=lK e2 e3 hr1;have ok:=hO.w w (Zg hw);have hW:SqT H' r (wv w):=SqT.of er;have hS:SqL H' ia (bs.map V.bl):=SqL.of hI;have hA:=GJ (bs:=bs) (k:=w.a) (by rw[hbl];exact ok.a) rfl;have hB:=GJ (bs:=bs) (k:=w.b) (by rw[hbl];exact ok.b) rfl;have hcc:cc (bf bs) w=if bs.getD w.a false=true/\bs.getD w.b false=false then w.hi else if bs.getD w.b false=true/\bs.getD w.a false=false then some (-w.lo) else some 0:=rfl
  generalize bs.getD w.a false=fa at hA hcc;generalize bs.getD w.b false=fb at hB hcc;cases fa<;>cases fb<;>simp at hcc
  ·refine⟨_,_,hW,rfl,_,_,hS,hA,_,rfl,iF (iF ?_)⟩;exact⟨_,_,hW,rfl,_,_,hS,hB,_,rfl,iF (iF ⟨rfl,_,_,by rw[hb,eJ hw hcc,Int.add_zero],rfl⟩)⟩
  ·refine⟨_,_,hW,rfl,_,_,hS,hA,_,rfl,iF (iF ?_)⟩;refine⟨_,_,hW,rfl,_,_,hS,hB,_,rfl,iT ⟨_,_,hW,rfl,_,_,hS,hA,_,rfl,iT ?_⟩⟩;exact⟨_,_,hW,rfl,rfl,_,_,by rw[hb,eJ hw hcc];rfl,rfl⟩
  ·refine⟨_,_,hW,rfl,_,_,hS,hA,_,rfl,iT ⟨_,_,hW,rfl,_,_,hS,hB,_,rfl,iT ?_⟩⟩;refine⟨_,vo w.hi,hW,rfl,rfl,?_⟩;rcases hh:w.hi with _ | h
   ·refine iTb (by rfl) ?_;rw[hh]at hcc;rw[hb,m7 hw hcc]at q;exact q
   ·rw[hh]at hcc;have e4:atI (wv w) 3=some (.int h):=by show some (vo w.hi)=_;rw[hh];rfl
    refine iFb (by rfl) ⟨_,_,hW,e4,?_⟩;exact⟨_,_,hW,rfl,_,_,hS,hB,_,rfl,iF (iF ⟨rfl,_,_,by rw[hb,eJ hw hcc],rfl⟩)⟩
  ·refine⟨_,_,hW,rfl,_,_,hS,hA,_,rfl,iT ⟨_,_,hW,rfl,_,_,hS,hB,_,rfl,iF ?_⟩⟩;exact⟨_,_,hW,rfl,_,_,hS,hB,_,rfl,iT ⟨_,_,hW,rfl,_,_,hS,hA,_,rfl,iF ⟨rfl,_,_,by rw[hb,eJ hw hcc,Int.add_zero],rfl⟩⟩⟩
 ·rintro σ H' ⟨rfl,tot,o3,hb,rfl⟩;rw[Zq,e2,List.drop_length]at hb;rw[hb]at q;exact q
theorem ML(T:Txt K mg t)(G_check_net:Ok P w base T 43 1 pC)(G_are_unlike:Ok P w base T 47 1 J9)
  (G_most_out:Ok P w base T 48 1 DW):Ok P w base T 46 2 KC:=by
 refine T.okN 46 (scm:cV ["net","lot","inside","knot","most"] _ _) (λvs H Q E h=>?_) ?_
 ·obtain⟨p,na,wa,la,ms,ws,ns,rfl,_⟩:=h;rfl
 intro cdv A outer s H vs Q E hr h nd X;obtain⟨p,na,wa,la,ms,ws,ns,rfl,hN,hO,hL,h60,q⟩:=h;have hn2:=hO.n2;refine⟨_,(by exists bT G_check_net hr (T.f 43) aZ ?_,0,bH ?_ (λ_=>rfl),bT G_are_unlike hr (T.f 47) aZ ?_,1,aG,0,(e8 2 ["knot"] [none]),a7 ?_,aG,0,0,a7 ?_,1,3,dF ?_ ?_,eT ?_ ?_ set_list,2,3,4,bT G_most_out hr (T.f 48) aZ ?_,0,2,lR ?_ ?_,fX,4,lQ ?_,E1,aN (dR rfl) rfl (T.z 13) boot_sum ?_,(fZ ["knot","net"] [none,some 0]),a7 ?_,1,0,aI,aG,1,0,4),?_⟩;have bad:∀H',aJ H H'->¬zK ms ns ws->Q (.bl false) H':=λH' g z=>by
  have:=q H' g;rw[uI z]at this;exact this
 refine⟨p,na,wa,ms,ws,rfl,hN,hO,?_⟩;refine⟨_,_,SqT.of hN.tp,rfl,na,_,rfl,.inl (SqL.of hN.n),la,ns,_,rfl,hL,by lia,λH1 g1=>⟨_,rfl,?_⟩⟩;rw[Zq];rcases hu:rR ns ms.length with _ | _
 ·exact iT (bad H1 g1 λz=>G5 hu z.1)
 have hu:=G3 hu;refine iF ?_;have hN1:=hN.mono g1;have hL1:=g1 _ _ hL;refine⟨_,_,SqT.of hN1.tp,rfl,⟨_,SqL.of hN1.n⟩,λD hD=>?_⟩;refine bD ms.length (λ_=>.bl false) hD (by lia) (λi H' hi g=>⟨_,_,SqL.of (g _ _ hN1.n),bR hi⟩) (λH' g=>⟨_,SqL.of (g _ _ hN1.n),by rw[Zq];exact ZC _⟩) ?_ ?_
 ·rintro i H' x H'' k hi g ⟨rfl,hx⟩ hk;exact⟨(Fills.refl _).set _ rfl,hk _ (aJ.refl _)⟩
 intro H2 g2 eD;dsimp only[b0];rw[show(ZR ms.length).map (λ_=>V.bl false)=(ZF ms.length false).map V.bl by
  apply Yt;intro i;by_cases h:i<ms.length
  ·simp[h]
  ·simp[h]]at eD
 have hL2:=g2 _ _ hL1
 let Pv2:Nat->L2.St->L2.Hp->Prop:=λi σ H'=>aJ H1 H'/\∃(bs:List Bool) (o3:Option V),H' D=some (.lst (bs.map V.bl))/\bs.length=ms.length/\(∀k:Nat,bs.getD k false=decide ((k:Int)∈ns.take i))/\σ=[some (.ref p),some (.ref la),some (.ref D),o3,none]
 refine⟨⟨_,SqL.of hL2⟩,cR (xs:=ns.map V.int)
  Pv2
  ⟨g2,_,_,eD,by simp,λk=>by by_cases h:k<ms.length<;>simp[List.getD,h],rfl⟩ (λi σ H' _ h=>SqL.of (h.1 _ _ hL1)) ?_ ?_⟩
 ·rintro i x σ H' hx ⟨g3,bs,o3,eB,hbl,hbk,rfl⟩;obtain⟨hi,rfl⟩:=jC hx;have hb:=hu.2.1 _ (fL (ls:=ns) (j:=i) hi);have hj:(at0 ns i).toNat<bs.length:=by lia
  refine⟨_,(at0 ns i).toNat,eB,fV (by rw[Zq];exact hj) (by lia),?_⟩;refine⟨λb o h=>by rw[aE (aC h hD)];exact g3 _ _ h,bs.set (at0 ns i).toNat true,_,by rw[aA,ZG],by simp[hbl],λk=>?_,rfl⟩;have et:ns.take (i+1)=ns.take i++[at0 ns i]:=by
   rw[List.take_succ,Zz hi];unfold at0;simp[List.getD,hi]
  rw[et];have hk':=hbk k;simp only[List.getD]at hk' ⊢;by_cases e:k=(at0 ns i).toNat
  ·subst e;rw[ZK hj];have:(((at0 ns i).toNat:Nat):Int)=at0 ns i:=by lia
   rw[this];simp
  ·rw[ZJ (Yh e),hk'];have:¬(k:Int)=at0 ns i:=by lia
   rw[Xh,decide_eq_true_iff,decide_eq_true_iff,Zf,Zb];exact⟨λh=>.inl h,λh=>h.elim id λz=>Yg z this⟩
 rintro σ H3 ⟨g3,bs,o3,eB,hbl,hbk,rfl⟩;rw[Zq,Yv]at hbk;have hN3:=hN1.mono g3;refine⟨p,na,wa,D,ms,ws,bs,rfl,hN3,hO,eB,hbl,?_⟩;have ef:bf bs=fof ns:=funext hbk;rw[ef];have g03:=g1.trans g3;rcases hm:bnd (cc (fof ns)) ws 0 with _ | m
 ·exact⟨rfl,iFb (by rfl) (bad _ g03 λz=>by obtain⟨m,h,_⟩:=z.2;rw[hm]at h;cases h)⟩
 refine⟨rfl,iTb (by rfl) ?_⟩;have hL3:=g3 _ _ hL1;refine⟨⟨_,SqL.of hL3⟩,λD2 hD2=>?_⟩;refine bD ns.length (λi=>.int (at0 ms (at0 ns i).toNat)) hD2 (by lia) (λi H' hi g=>⟨_,_,SqL.of (g _ _ hL3),bR hi⟩) (λH' g=>⟨_,SqL.of (g _ _ hL3),by rw[Zq];exact ZC _⟩) ?_ ?_
 ·rintro i H' x H'' k hi g ⟨rfl,hx⟩ hk;have ex:=hx _ (SqL.of (g _ _ hL3));rw[bR hi]at ex;cases ex;have hb:=hu.2.1 _ (fL (ls:=ns) (j:=i) hi);exact⟨(Fills.refl _).set _ rfl,_,_,SqT.of (g _ _ hN3.tp),rfl,_,_,SqL.of (g _ _ hN3.n),aU (j:=(at0 ns i).toNat) (by lia) (by lia),hk _ (aJ.refl _)⟩
 intro H4 g4 eD4;rw[show(ZR ns.length).map (λi=>V.int (at0 ms (at0 ns i).toNat))=(CH ms ns).map V.int by unfold CH;rw[Ym];rfl]at eD4;refine⟨D2,_,rfl,SqL.of eD4,?_⟩;have hq:=q H4 (g03.trans g4);show Q (.bl (decide (m<CG ms ns))) H4;by_cases hc:m<CG ms ns
 ·rw[uH ⟨hu,m,hm,hc⟩]at hq;rw[Ye hc];exact hq
 ·rw[uI λz=>by obtain⟨m',h,h'⟩:=z.2;rw[hm]at h;cases h;exact hc h']at hq;rw[Yc hc];exact hq
end K32
namespace K32
open PySem L2 PyProof.Rows
def tU:Sp:=λvs H Q _=>∃(p c l:Addr) (n:Nat) (cs ls:List Int),vs=[.ref p]/\kY H p c l cs ls/\ls.length=2*n/\n<=1000 /\
 ∀(r:Addr) H',H r=none->aJ H H'->H' r=some (.lst (lM ls n))->Q (.ref r) H'
theorem qO(T:Txt K mg t):Ok P w base T 57 1 tU:=by
 left
 obtain⟨p,c,l,n,cs,ls,rfl,hT,hl,hn,q⟩:=h;refine⟨_,(by exists 1,aG,0,(fZ ["first","lefts"] [none,some 1]),B2 rfl (T.z 10) ?_,1,0,aX,aI,1,0,aI,1,aX,0),?_⟩;refine⟨_,.ref l,SqT.of hT.tp,rfl,?_⟩;refine⟨l,_,rfl,.inl (SqL.of hT.l),n,by rw[Zq,hl];push_cast;rfl,by lia,λD hD=>?_⟩;refine bD n (λj=>.int (sum2 ls j)) hD (by lia) (λi H' hi _=>hi) (λH' _=>ZC _) ?_ ?_
 ·rintro i H' x H'' k hi g1 ⟨rfl,rfl⟩ hk;have hS':SqL H'' l (ls.map V.int):=SqL.of (g1 _ _ hT.l);refine⟨(Fills.refl _).set _ rfl,?_⟩;refine⟨_,_,hS',aU (j:=2*i) (by lia) (by lia),_,_,hS',aU (j:=2*i+1) (by lia) (by lia),hk _ (aJ.refl _)⟩
 ·intro H' g1 e;exact q D H' hD g1 e
def HM:Sp:=λvs H Q _=>∃(p wa ba sa p2 ca la:Addr) (n:Nat) (ws:List Int) (bs ss:List (Option Int)) (cs ls:List Int),vs=[.ref p,.ref p2]/\nA H p wa ba sa ws bs ss/\kY H p2 ca la cs ls/\Fit n ws bs ss cs ls /\
 ∀H',aJ H H'->Q (.bl (iM bs ss cs ls n)) H'
theorem FE(T:Txt K mg t)(G_turns:Ok P w base T 57 1 tU):Ok P w base T 60 2 HM:=by
 left
 obtain⟨p,wa,ba,sa,p2,ca,la,n,ws,bs,ss,cs,ls,rfl,hW,hT,hF,q⟩:=h;have hn:=hF.n;refine⟨_,(by exists lP rfl (T.z 14) ?_,bT G_turns hr (T.f 57) aZ ?_,1,aG,0,2,3,fX,3,2,3,lP rfl (T.z 14) ?_,aG,1,aG,0,4,5,fX,5,e9,4,5),?_⟩;refine⟨p2,ca,la,n,cs,ls,rfl,hT,hF.l,by lia,λr H1 hr0 g1 e1=>?_⟩;refine⟨_,_,SqT.of (g1 _ _ hW.tp),rfl,r,ba,_,_,rfl,e1,g1 _ _ hW.b,?_⟩;refine pM (λi σ H'=>(∀k,k<i->FJ bs ls k)/\aJ H1 H'/\∃o2 o3:Option V,σ=[some (.ref p),some (.ref p2),o2,o3,none,none]) (by rw[lL,Zq,hF.b]) ⟨λk h=>Yg h (by lia),aJ.refl _,none,none,rfl⟩
  (λi σ H' _ h=>⟨h.2.1 _ _ e1,h.2.1 _ _ (g1 _ _ hW.b)⟩) ?_ ?_
 ·rintro i x y σ H' Tp hx hy ⟨hk,g2,o2,o3,rfl⟩ hTp;obtain⟨hi,rfl⟩:=BQ hx;obtain⟨hi2,rfl⟩:=xX hy;have g3:=aB hTp (.tup [.int (sum2 ls i),vo (ov bs i)]);refine⟨_,SqT.of aA,rfl,?_⟩;refine⟨rfl,?_⟩;rcases hb:ov bs i with _ | b<;>rw[hb]at g3
  ·refine iFb (by rfl) (iF ⟨λk h=>?_,g2.trans g3,_,_,rfl⟩);by_cases e:k=i
   ·subst e;intro c hc;rw[hb]at hc;cases hc
   ·exact hk k (by lia)
  ·refine iTb (by rfl) (i2 (λc=>?_) (λc=>⟨λk h=>?_,g2.trans g3,_,_,rfl⟩))
   ·have c':b<sum2 ls i:=Yf c;have:=q _ ((g1.trans g2).trans g3);rw[mS (λz=>by have:=z.1 i (by lia) b hb;lia)]at this;exact this
   ·by_cases e:k=i
    ·subst e;intro c' hc;rw[hb]at hc;cases hc;have:¬b<sum2 ls k:=λz=>c (Ye z)
     lia
    ·exact hk k (by lia)
 ·rintro σ H2 ⟨hk,g2,o2,o3,rfl⟩;rw[lL]at hk;have g12:=g1.trans g2;refine⟨_,_,SqT.of (g12 _ _ hT.tp),rfl,_,_,SqT.of (g12 _ _ hW.tp),rfl,ca,sa,_,_,rfl,g12 _ _ hT.c,g12 _ _ hW.s,?_⟩;refine pM (λi σ H'=>(∀k,k<i->qU ss cs k)/\aJ H2 H'/\∃o4 o5:Option V,σ=[some (.ref p),some (.ref p2),o2,o3,o4,o5]) (by rw[Zq,Zq,hF.c,hF.s]) ⟨λk h=>Yg h (by lia),aJ.refl _,none,none,rfl⟩
   (λi σ H' _ h=>⟨h.2.1 _ _ (g12 _ _ hT.c),h.2.1 _ _ (g12 _ _ hW.s)⟩) ?_ ?_
  ·rintro i x y σ H' Tp hx hy ⟨hk2,g3,o4,o5,rfl⟩ hTp;obtain⟨hi,rfl⟩:=jC hx;obtain⟨hi2,rfl⟩:=xX hy;have hc2:=hF.c;have g4:=aB hTp (.tup [.int (at0 cs i),vo (ov ss i)]);refine⟨_,SqT.of aA,rfl,?_⟩;refine⟨rfl,?_⟩;rcases hb:ov ss i with _ | b<;>rw[hb]at g4
   ·refine iFb (by rfl) (iF ⟨λk h=>?_,g3.trans g4,_,_,rfl⟩);by_cases e:k=i
    ·subst e;intro c hc;rw[hb]at hc;cases hc
    ·exact hk2 k (by lia)
   ·refine iTb (by rfl) (i2 (λc=>?_) (λc=>⟨λk h=>?_,g3.trans g4,_,_,rfl⟩))
    ·have c':at0 cs i≠b:=by simpa[vo] using c
     have:=q _ ((g12.trans g3).trans g4);rw[mS (λz=>c' (z.2 i (by lia) b hb))]at this;exact this
    ·by_cases e:k=i
     ·subst e;intro c' hc;rw[hb]at hc;cases hc;simpa[vo] using c
     ·exact hk2 k (by lia)
  ·rintro σ H3 ⟨hk2,g3,o4,o5,rfl⟩;rw[Zq,hF.c]at hk2;have:=q _ (g12.trans g3);rw[mR ⟨hk,hk2⟩]at this;exact this
def LO:Sp:=λvs H Q _=>∃(p wa ba sa p2 ca la:Addr) (n:Nat) (ws:List Int) (bs ss:List (Option Int)) (cs ls:List Int),vs=[.ref p,.ref p2]/\nA H p wa ba sa ws bs ss/\kY H p2 ca la cs ls/\Fit n ws bs ss cs ls /\
 ∀H',aJ H H'->Q (.int (costOf ws ls n)) H'
theorem AL(T:Txt K mg t)(G_turns:Ok P w base T 57 1 tU):Ok P w base T 61 2 LO:=by
 left
 obtain⟨p,wa,ba,sa,p2,ca,la,n,ws,bs,ss,cs,ls,rfl,hW,hT,hF,q⟩:=h;have hn:=hF.n;have hw:=hF.w;refine⟨_,(by exists aN (dR rfl) rfl (T.z 13) boot_sum ?_,(fZ ["many","weight"] [none,none]),lP rfl (T.z 14) ?_,bT G_turns hr (T.f 57) aZ ?_,1,aG,0,0,1,0,1),?_⟩;refine⟨p2,ca,la,n,cs,ls,rfl,hT,hF.l,by lia,λr H1 hr0 g1 e1=>?_⟩;refine⟨_,_,SqT.of (g1 _ _ hW.tp),rfl,r,wa,_,_,rfl,e1,g1 _ _ hW.w,λD hD=>?_⟩;have lw:∀{i:Nat},i<n->(ws.map V.int)[i]?=some (.int (at0 ws i)):=λhi=>bR (by lia);have lr:∀{i:Nat},i<n->(lM ls n)[i]?=some (.int (sum2 ls i)):=λhi=>by unfold lM;rw[Zk,Yk hi];rfl
 refine bD n (λk=>.int (sum2 ls k*at0 ws k)) hD (by lia) (λi H' hi g2=>⟨_,_,_,_,g2 _ _ e1,g2 _ _ (g1 _ _ hW.w),lr hi,lw hi⟩) (λH' g2=>⟨_,_,g2 _ _ e1,g2 _ _ (g1 _ _ hW.w),.inl (by rw[lL];exact ZC _)⟩) ?_ ?_
 ·rintro i H' x H'' k hi g2 ⟨Tp,x',y',rfl,hTp,rfl,y1,y2⟩ hk;have ex:=y1 _ (g2 _ _ e1);rw[lr hi]at ex;cases ex;have ey:=y2 _ (g2 _ _ (g1 _ _ hW.w));rw[lw hi]at ey;cases ey;have hb:=hF.wb _ (fL (ls:=ws) (j:=i) (by lia));refine⟨_,SqT.of aA,rfl,((Fills.refl _).set _ rfl).set _ rfl,?_⟩;exact⟨.inr ⟨by lia,by lia⟩,hk _ (aB hTp _)⟩
 ·intro H' g2 e;rw[A7]at e;exact⟨D,_,rfl,SqL.of e,q _ (g1.trans g2)⟩
end K32
namespace K32
open PySem L2 PyProof.Rows NM
def z7:Sp:=λvs H Q _=>∃(r pa:Addr) (w:Way) (ps:List Int),vs=[.ref r,.ref pa]/\H r=some (.tup (wv w))/\H pa=some (.lst (ps.map V.int))/\KS ps.length w/\Q (vo (least ps w)) H
theorem FB(T:Txt K mg t)(G_rate:Ok P w base T 27 1 (p7)):Ok P w base T 45 2 z7:=by
 left
 obtain⟨r,pa,w,ps,rfl,hr0,hp,ok,q⟩:=h;refine⟨_,(by exists 2,bT G_rate hr (T.f 27) aZ ?_,0,1,fX,aG,0,aN (nX rfl) rfl (T.z 9) boot_min ?_,aG,0,2,aG,0,2,2,aG,0,2),?_⟩;have hT:SqT H r (wv w):=SqT.of hr0;refine⟨r,pa,w,ps,rfl,SqT.of hr0,hp,ok.a,ok.b,?_⟩;have hlo:=ok.lo;refine⟨_,vo w.hi,hT,rfl,rfl,?_⟩;unfold least at q;rcases hh:w.hi with _ | h
 ·rw[hh]at q;refine iFb (by rfl) ?_;refine i2 (λc=>?_) (λc=>?_)
  ·have c':rt ps w<0:=Yf c;dsimp only at q;rw[Yb c']at q;exact q
  ·have c':¬rt ps w<0:=λz=>c (Ye z);dsimp only at q;rw[Ya c']at q;exact⟨_,_,hT,rfl,.inl ⟨by lia,by omega⟩,q⟩
 ·rw[hh]at q;have e4:atI (wv w) 3=some (.int h):=by show some (vo w.hi)=_;rw[hh];rfl
  have:=ok.hi h hh;exact iTb (by rfl) ⟨_,_,hT,rfl,.inl ⟨by lia,by omega⟩,_,_,hT,e4,.inl ⟨by omega,by omega⟩,_,_,rfl,q⟩
theorem FI(T:Txt K mg t)(G_check_net:Ok P w base T 43 1 pC)(G_least_worth:Ok P w base T 45 2 z7) :
  Ok P w base T 44 3 (AA least):=by
 left
 obtain⟨p,na,wa,pa,ns,ws,ps,rfl,hN,hO,hp,hl,q⟩:=h;obtain⟨rs,e1,e2,e3⟩:=hN.w;refine⟨_,(by exists bT G_check_net hr (T.f 43) aZ ?_,0,2,aN (dR rfl) rfl (T.z 13) boot_sum ?_,(fZ ["price","need"] [none,none]),lP rfl (T.z 14) ?_,1,aG,0,0,1,0,1,a7 ?_,aG,0,3,4,bT G_least_worth hr (T.f 45) aZ ?_,3,1,eX,4,yH (i:=2) nd rfl (Or.inl rfl) (pv 4) jX,2),?_⟩;have hn2:=hO.n2;refine⟨p,na,wa,ns,ws,rfl,hN,hO,?_⟩;refine⟨_,_,SqT.of hN.tp,rfl,pa,na,_,_,rfl,hp,hN.n,λD hD=>?_⟩;have lp:∀{i:Nat},i<ns.length->(ps.map V.int)[i]?=some (.int (at0 ps i)):=λhi=>bR (by lia);have ln:∀{i:Nat},i<ns.length->(ns.map V.int)[i]?=some (.int (at0 ns i)):=λhi=>bR (by lia);refine bD ns.length (λk=>.int (at0 ps k*at0 ns k)) hD (by lia) (λi H' hi g2=>⟨_,_,_,_,g2 _ _ hp,g2 _ _ hN.n,lp hi,ln hi⟩) (λH' g2=>⟨_,_,g2 _ _ hp,g2 _ _ hN.n,.inl (by rw[Zq];lia)⟩) ?_ ?_
 ·rintro i H' x H'' k hi g2 ⟨Tp,x',y',rfl,hTp,rfl,y1,y2⟩ hk;have ex:=y1 _ (g2 _ _ hp);rw[lp hi]at ex;cases ex;have ey:=y2 _ (g2 _ _ hN.n);rw[ln hi]at ey;cases ey;have hb:=hO.nb _ (fL (ls:=ns) (j:=i) hi);refine⟨_,SqT.of aA,rfl,((Fills.refl _).set _ rfl).set _ rfl,?_⟩;exact⟨.inr ⟨by lia,by lia⟩,hk _ (aB hTp _)⟩
 intro H1 g1 eD;rw[GA]at eD;refine⟨D,_,rfl,SqL.of eD,?_⟩;have ed:(GB ps ns).sum=dot ps ns ns.length:=rfl;rw[ed]
 let Pv1:Nat->L2.St->L2.Hp->Prop:=λi σ H'=>H'=H1/\∃(tot:Int) (o3 o4:Option V),bnd (least ps) ws (dot ps ns ns.length)=bnd (least ps) (ws.drop i) tot/\σ=[some (.ref p),some (.ref pa),some (.int tot),o3,o4]
 refine⟨_,_,SqT.of (g1 _ _ hN.tp),rfl,⟨_,SqL.of (g1 _ _ e1)⟩,cR (xs:=rs.map V.ref)
  Pv1 ⟨rfl,_,_,_,rfl,rfl⟩ (λi σ H' _ h=>by obtain⟨rfl,_⟩:=h;exact SqL.of (g1 _ _ e1)) ?_ ?_⟩
 ·rintro i x σ H' hx ⟨rfl,tot,o3,o4,hb,rfl⟩;obtain⟨r,hr1,rfl⟩:=eU hx;obtain⟨w,hw,er⟩:=lK e2 e3 hr1;have ok:=hO.w w (Zg hw);refine⟨r,pa,w,ps,rfl,g1 _ _ er,g1 _ _ hp,by rw[hl];exact ok,?_⟩;rcases hle:least ps w with _ | l
  ·refine⟨rfl,iTb (by rfl) ?_⟩;have:=q H' g1;rw[hb,m7 hw hle]at this;exact this
  ·refine⟨rfl,iFb (by rfl) ?_⟩;exact⟨rfl,tot+l,_,_,by rw[hb,eJ hw hle],rfl⟩
 ·rintro σ H' ⟨rfl,tot,o3,o4,hb,rfl⟩;have:=q H' g1;rw[hb,Zq,e2,List.drop_length]at this;exact this
noncomputable def bdO(ts:MM.aV)(os:MM.aR)(o:Nat)(nm:List Nat)(ws:List Int)(bs ss:List (Option Int))(ps:List Int):Option Int:=if ps.length=(cM os.length (LL ts os) o).length then bnd (due ps) (fO os.length ts nm ws bs ss) (dot ps (cM os.length (LL ts os) o) (cM os.length (LL ts os) o).length) else none
def P0:Sp:=λvs H Q _=>∃(wa p wA bA sA pa:Addr) (o:Nat) (ts:MM.aV) (os:MM.aR) (ws:List Int) (bs ss:List (Option Int)) (ps:List Int),vs=[.ref wa,vn o,.ref p,.ref pa]/\dW H wa os.length ts os/\MM.Good ts os/\MM.Flat ts os/\ts.length<=40/\os.length<=40/\o<(LL ts os).length/\nA H p wA bA sA ws bs ss/\ws.length=ts.length/\bs.length=ts.length/\ss.length=2*ts.length/\C0 ws bs ss/\H pa=some (.lst (ps.map V.int)) /\
 ∀nm H',gN ts os nm->aJ H H'->Q (vo (bdO ts os o nm ws bs ss ps)) H'
theorem OL(T:Txt K mg t):Ok P w base T 66 9 P0:=by
 have G_bound:=FI (P:=P) (w:=w) (base:=base) T (qT T) (FB T (pJ T))
 left
 obtain⟨wa,p,wA,bA,sA,pa,o,ts,os,ws,bs,ss,ps,rfl,hweb,hg,hF,t40,o40,ho,hW,l1,l2,l3,hok,hp,q⟩:=h;refine⟨_,(by exists 4,qQ,0,1,2,e9,3,aG,4,bT G_bound hr (T.f 44) aZ ?_,4,3),?_⟩;refine⟨wa,p,wA,bA,sA,os.length,o,ts,os,ws,bs,ss,rfl,hweb,hg,t40,o40,ho,hW,l1,l2,l3,λrn na wl nm H1 g1 _ _ _ hnum hN=>?_⟩;obtain⟨nok,nlen,wlen⟩:=uD hg hF t40 ho hnum l1 hok (bs:=bs) (ss:=ss);refine⟨pa,_,rfl,.inl (SqL.of (g1 _ _ hp)),_,_,SqT.of hN.tp,rfl,na,_,rfl,.inl (SqL.of hN.n),?_⟩;by_cases hl:ps.length=(cM os.length (LL ts os) o).length
 ·refine iFb (by rw[Zq,Zq,hl];simp) ?_;refine⟨rn,na,wl,pa,_,_,ps,rfl,hN,nok,g1 _ _ hp,hl,λH2 g2=>?_⟩;have:=q nm _ hnum (g1.trans g2);unfold bdO at this;rw[Yb hl]at this;rw[nZ (f:=least ps) (g:=due ps) _ _ λw hw=>tD ps w λh e=>((nok.w w hw).hi h e).1];exact this
 ·refine iTb (by rw[Zq,Zq];simp;lia) ?_;have:=q nm _ hnum g1;unfold bdO at this;rw[Ya hl]at this;exact this
structure Wd(H:Hp)(wa p:Addr)(ts:MM.aV)(os:MM.aR)(ws:List Int)(bs ss:List (Option Int)):Prop where
 web:dW H wa os.length ts os
 g:MM.Good ts os
 f:MM.Flat ts os
 t40:ts.length<=40
 o40:os.length<=40
 w:∃wA bA sA,nA H p wA bA sA ws bs ss
 l1:ws.length=ts.length
 l2:bs.length=ts.length
 l3:ss.length=2*ts.length
 ok:C0 ws bs ss
noncomputable def dB(p:Prop):Bool:=@decide p (Classical.propDecidable _)
theorem OZ{p:Prop}(h:p):dB p=true:=by unfold dB;simp[h]
theorem KR{p:Prop}(h:dB p=true):p:=by unfold dB at h;simpa using h
theorem AZ{p:Prop}{b:Bool}(h:b=true↔p):b=dB p:=by
 cases b with
 |true=>exact(OZ (h.mp rfl)).symm
 |false =>
  cases e:dB p with
  |false=>rfl
  |true=>exact h.mpr (KR e)
section
variable{H H':Hp}{wa p x:Addr}{ts:MM.aV}{os:MM.aR}{o:Nat}{ws:List Int}{bs ss:List (Option Int)}{c:Int}{z:Str}{ns:List Int}
theorem Wd.mono(h:Wd H wa p ts os ws bs ss)(g:aJ H H'):Wd H' wa p ts os ws bs ss :=
 ⟨h.web.mono g,h.g,h.f,h.t40,h.o40,let⟨a,b,c,e⟩:=h.w;⟨a,b,c,e.mono g⟩,h.l1,h.l2,h.l3,h.ok⟩
def j8(H:Hp)(x:Addr)(z:Str)(ns:List Int):Prop:=∃a:Addr,H x=some (.tup [.str z,.ref a])/\H a=some (.lst (ns.map V.int))
theorem j8.mono(h:j8 H x z ns)(g:aJ H H'):j8 H' x z ns:=let⟨a,e,f⟩:=h;⟨a,g _ _ e,g _ _ f⟩
def NoQ(ts:MM.aV)(os:MM.aR)(o:Nat)(ws:List Int)(bs ss:List (Option Int))(z:Str)(ns:List Int):Prop:=z="none"/\∃nm,gN ts os nm/\zK (cM os.length (LL ts os) o) ns (fO os.length ts nm ws bs ss)
def GO(ts:MM.aV)(os:MM.aR)(o:Nat)(ws:List Int)(bs ss:List (Option Int))(z:Str)(ns:List Int)(c:Int):Prop:=z="prices"/\∃nm m,gN ts os nm/\bdO ts os o nm ws bs ss ns=some m/\c<=m
end
def LG:Sp:=λvs H Q _=>∃(wa p la:Addr) (o:Nat) (ts:MM.aV) (os:MM.aR) (ws:List Int) (bs ss:List (Option Int)) (lot:List Int),vs=[.ref wa,vn o,.ref p,.ref la]/\Wd H wa p ts os ws bs ss/\o<(LL ts os).length/\H la=some (.lst (lot.map V.int))/\lot.length<60/\∀H' b,aJ H H'->(b=true↔NoQ ts os o ws bs ss "none" lot)->Q (.bl b) H'
theorem E2(T:Txt K mg t):Ok P w base T 67 9 LG:=by
 have G_is_lot:=ML (P:=P) (w:=w) (base:=base) T (qT T) (B5 T) (IS T)
 left
 obtain⟨wa,p,la,o,ts,os,ws,bs,ss,lot,rfl,W,ho,hL,l60,q⟩:=h;obtain⟨wA,bA,sA,hW⟩:=W.w;refine⟨_,(by exists bT G_is_lot hr (T.f 46) aZ ?_,qQ,0,1,2,3),?_⟩;refine⟨wa,p,wA,bA,sA,os.length,o,ts,os,ws,bs,ss,rfl,W.web,W.g,W.t40,W.o40,ho,hW,W.l1,W.l2,W.l3,λnt na wl nm H1 g1 _ _ _ hnum hNt=>?_⟩;obtain⟨nok,nlen,wlen⟩:=uD W.g W.f W.t40 ho hnum W.l1 W.ok (bs:=bs) (ss:=ss);exact⟨nt,na,wl,la,_,_,lot,rfl,hNt,nok,g1 _ _ hL,l60,λH2 g2=>q _ _ (g1.trans g2) ⟨λe=>⟨rfl,nm,hnum,AO e⟩,λ⟨_,nm',n',l'⟩=>by cases hnum.uniq W.g n';exact uH l'⟩⟩
def NW:Sp:=λvs H Q _=>∃(wa p x:Addr) (o:Nat) (ts:MM.aV) (os:MM.aR) (ws:List Int) (bs ss:List (Option Int)) (z:Str) (ns:List Int),vs=[.ref wa,vn o,.ref p,.ref x]/\Wd H wa p ts os ws bs ss/\o<(LL ts os).length/\j8 H x z ns/\ns.length<60/\∀H' b,aJ H H'->(b=true↔NoQ ts os o ws bs ss z ns)->Q (.bl b) H'
theorem AJ(T:Txt K mg t):Ok P w base T 72 10 NW:=by
 left
 obtain⟨wa,p,x,o,ts,os,ws,bs,ss,z,ns,rfl,W,ho,⟨a,e1,e2⟩,hl,q⟩:=h;refine⟨_,(by exists lR ?_ ?_,bY,aG,3,lQ ?_,E2,0,1,2,aG,3),?_⟩;refine⟨_,_,SqT.of e1,rfl,i2 (λd=>?_) (λd=>?_)⟩
 ·have d':V.str z=V.str "none":=Yf d;cases d';exact⟨_,_,SqT.of e1,rfl,wa,p,a,o,ts,os,ws,bs,ss,ns,rfl,W,ho,e2,hl,q⟩
 ·exact q _ _ (aJ.refl _) ⟨λe=>(by cases e),λe=>Yg (Ye (congrArg V.str e.1)) d⟩
def HP:Sp:=λvs H Q _=>∃(wa p x:Addr) (o:Nat) (ts:MM.aV) (os:MM.aR) (ws:List Int) (bs ss:List (Option Int)) (z:Str) (ns:List Int) (c:Int),vs=[.ref wa,vn o,.ref p,.ref x,.int c]/\Wd H wa p ts os ws bs ss/\o<(LL ts os).length/\j8 H x z ns/\ns.length<60/\∀H' b,aJ H H'->(b=true↔NoQ ts os o ws bs ss z ns\/GO ts os o ws bs ss z ns c)->Q (.bl b) H'
theorem B6(T:Txt K mg t):Ok P w base T 73 11 HP:=by
 left
 obtain⟨wa,p,x,o,ts,os,ws,bs,ss,z,ns,c,rfl,W,ho,hP,hl,q⟩:=h;refine⟨_,(by exists e9,aG,3,AJ,0,1,2,3,5,OL,0,1,2,aG,3,lR ?_ ?_,fX,5,lQ ?_,AI,5,4),?_⟩;obtain⟨a,e1,e2⟩:=id hP;refine⟨_,_,SqT.of e1,rfl,i2 (λd=>?_) (λd=>?_)⟩
 ·have d':z≠"prices":=λe=>by subst e;revert d;decide +kernel
  exact⟨wa,p,x,o,ts,os,ws,bs,ss,z,ns,rfl,W,ho,hP,hl,λH' b g e=>q _ _ g ⟨λh=>.inl (e.mp h),λh=>h.elim e.mpr λy=>Yg y.1 d'⟩⟩
 ·have d':z="prices":=ZS λe=>d (by simpa using e);subst d';obtain⟨wA,bA,sA,hW⟩:=W.w;refine⟨_,_,SqT.of e1,rfl,wa,p,wA,bA,sA,a,o,ts,os,ws,bs,ss,ns,rfl,W.web,W.g,W.f,W.t40,W.o40,ho,hW,W.l1,W.l2,W.l3,W.ok,e2,λnm H1 hnum g1=>?_⟩;have no:¬NoQ ts os o ws bs ss "prices" ns:=λh=>Yg h.1 (by decide +kernel);have lw:GO ts os o ws bs ss "prices" ns c↔∃m,bdO ts os o nm ws bs ss ns=some m/\c<=m:=⟨λ⟨_,nm',m,n',e,l⟩=>by cases hnum.uniq W.g n';exact⟨m,e,l⟩,λ⟨m,e,l⟩=>⟨rfl,nm,m,hnum,e,l⟩⟩
  cases hb:bdO ts os o nm ws bs ss ns with
  |none=>exact⟨rfl,iFb (by rfl) (q _ _ g1 ⟨λe=>(by cases e),λh=>h.elim (λy=>Yg y no) λy=>by obtain⟨m,e,_⟩:=lw.mp y;rw[hb]at e;cases e⟩)⟩
  |some m =>
   refine⟨rfl,iTb (by rfl) ?_⟩;exact q _ _ g1 ⟨λe=>.inr (lw.mpr ⟨m,hb,Yf e⟩),λh=>h.elim (λy=>Yg y no) λy=>by obtain⟨m',e,l⟩:=lw.mp y;rw[hb]at e;cases e;exact Ye l⟩
def ShT(H:Hp)(l s:V)(n:Nat)(T:Option (Nat×List Int×List Int)):Prop:=(l=.non/\s=.non/\T=none)\/∃(o:Nat) (sh cA lA:Addr) (cs ls:List Int),l=vn o/\s=.ref sh/\kY H sh cA lA cs ls/\cs.length=2*n/\ls.length=2*n/\T=some (o,cs,ls)
theorem ShT.mono{H H':Hp}{l s:V}{n:Nat}{T:Option (Nat×List Int×List Int)}(h:ShT H l s n T)(g:aJ H H'):ShT H' l s n T:=h.imp id λ⟨o,sh,cA,lA,cs,ls,h1,h2,h3,h4⟩=>⟨o,sh,cA,lA,cs,ls,h1,h2,h3.mono g,h4⟩
def lZ(H:Hp)(pl:Addr)(ps:List (Str×List Int)):Prop:=∃rs:List Addr,H pl=some (.lst (rs.map V.ref))/\rs.length=ps.length/\∀(k:Nat) u,ps[k]?=some u->∃x,rs[k]?=some x/\j8 H x u.1 u.2
theorem lZ.mono{H H':Hp}{pl:Addr}{ps:List (Str×List Int)}(h:lZ H pl ps)(g:aJ H H'):lZ H' pl ps:=let⟨rs,e,l,f⟩:=h;⟨rs,g _ _ e,l,λk u hk=>let⟨x,e1,e2⟩:=f k u hk;⟨x,e1,e2.mono g⟩⟩
def C1(ts:MM.aV)(os:MM.aR)(ws:List Int)(bs ss:List (Option Int))(T:Option (Nat×List Int×List Int))(k:Nat)(u:Str×List Int):Prop:=NoQ ts os k ws bs ss u.1 u.2\/∃o cs ls,T=some (o,cs,ls)/\GO ts os k ws bs ss u.1 u.2 (costOf ws ls ts.length)
structure BE(ts:MM.aV)(os:MM.aR)(ws:List Int)(bs ss:List (Option Int))(T:Option (Nat×List Int×List Int))(ps:List (Str×List Int)):Prop where
 len:ps.length=nL ts os
 shp:∀o cs ls,T=some (o,cs,ls)->MM.nC ts os o cs ls/\l0 bs ss cs ls ts.length
 pap:∀(k:Nat) u,ps[k]?=some u->C1 ts os ws bs ss T k u
theorem tF{bs ss:List (Option Int)}{cs ls:List Int}{n:Nat}(h:iM bs ss cs ls n=true):l0 bs ss cs ls n:=by unfold iM at h;simpa using h
theorem EB{ts:MM.aV}{os:MM.aR}{o:Nat}{cs ls:List Int}(h:MM.shB ts os o cs ls=true):MM.nC ts os o cs ls:=ZS λz=>by rw[MM.vI z]at h;cases h
def LQ:Sp:=λvs H Q _=>∃(wa p pl:Addr) (ts:MM.aV) (os:MM.aR) (ws:List Int) (bs ss:List (Option Int)) (l s:V) (T:Option (Nat×List Int×List Int)) (ps:List (Str×List Int)),vs=[.ref wa,.ref p,l,s,.ref pl]/\Wd H wa p ts os ws bs ss/\ShT H l s ts.length T/\lZ H pl ps/\ps.length<=1000/\(∀u∈ps,u.2.length<60) /\
 ∀H' b,aJ H H'->(b=true↔BE ts os ws bs ss T ps)->Q (.bl b) H'
theorem NB{p:Nat->Prop}{n:Nat}:((ZR n).map λk=>dB (p k)).all id=true↔∀k,k<n->p k:=by
 rw[ZD];refine⟨λh k hk=>KR (h _ (Zh.mpr ⟨k,Zs.mpr hk,rfl⟩)),λh b hb=>?_⟩;obtain⟨k,hk,rfl⟩:=Zh.mp hb;exact OZ (h k (Zs.mp hk))
theorem E4(T:Txt K mg t):Ok P w base T 71 12 LQ:=by
 have G_keeps:=FE (P:=P) (w:=w) (base:=base) T (qO T);have G_cost:=AL (P:=P) (w:=w) (base:=base) T (qO T)
 left
 obtain⟨wa,p,pl,ts,os,ws,bs,ss,l,s,To,ps,rfl,W,hT,hps,hlen,h60,q⟩:=h;obtain⟨wA,bA,sA,hW⟩:=W.w;refine⟨_,(by exists e9,4,hZ,0,eX,2,aN (iX rfl) rfl (T.z 0) boot_all ?_,(fZ ["outer","paper","web","wishes"] [none,none,some 0,some 1]),cL rfl (T.z 3) ?_,4,0,1,AJ,2,0,3,1,bH ?_ (λ_=>rfl),yR,0,2,3,bH ?_ (λ_=>rfl),bT G_keeps hr (T.f 60) aZ ?_,1,3,5,bT G_cost hr (T.f 61) aZ ?_,1,3,aN (iX rfl) rfl (T.z 0) boot_all ?_,(fZ ["outer","paper","web","wishes","least"] [none,none,some 0,some 1,some 5]),cL rfl (T.z 3) ?_,4,0,1,B6,2,0,3,1,4),?_⟩;obtain⟨rs,hp,hrl,hrow⟩:=id hps;refine⟨pl,_,rfl,.inl (SqL.of hp),wa,_,ts,os,rfl,W.web,W.g,by have:=W.t40;lia,λla rr H3 g3 n3=>?_⟩;have ll:(rr.map V.ref).length=nL ts os:=(Zq V.ref).trans n3.len;have lr:(rs.map V.ref).length=ps.length:=(Zq V.ref).trans hrl;refine⟨la,_,rfl,.inl (SqL.of n3.at_),i2 (λd=>?_) (λd=>?_)⟩
 ·exact q _ _ g3 ⟨λe=>(by cases e),λh=>by rw[ll,lr,h.len]at d;simp at d⟩
 have hll:ps.length=nL ts os:=ZS λe=>d (by rw[ll,lr];simp;lia);have hp3:=g3 _ _ hp;have W3:=W.mono g3;have fin:∀(pr:Nat->Prop) (D:Addr) (H':Hp),aJ H3 H'->((∀k,k<rs.length->pr k)↔BE ts os ws bs ss To ps)->H' D=some (.lst ((ZR rs.length).map λk=>V.bl (dB (pr k))))->∃(p:Addr) (bs:List Bool),[V.ref D]=[V.ref p]/\SqL H' p (bs.map V.bl)/\Q (.bl (bs.all id)) H':=λpr D H' g hq e =>
  ⟨D,(ZR rs.length).map λk=>dB (pr k),rfl,SqL.of (by rw[e,Ym];rfl),q _ _ (g3.trans g) (NB.trans hq)⟩
 have row:∀(i:Nat) (hi:i<rs.length),∃u,ps[i]?=some u/\j8 H (rs[i]) u.1 u.2/\u.2.length<60:=λi hi=>by
  obtain⟨x,e1,e2⟩:=hrow i _ (Zz (hrl▸hi));rw[Zz hi]at e1;cases e1;exact⟨_,Zz (hrl▸hi),e2,h60 _ (Zp (hrl▸hi))⟩
 have pall:∀{pr:Nat->Prop}{R:Prop},R->(∀(k:Nat) u,ps[k]?=some u->(pr k↔C1 ts os ws bs ss To k u))->(R->∀o cs ls,To=some (o,cs,ls)->MM.nC ts os o cs ls/\l0 bs ss cs ls ts.length)->((∀k,k<rs.length->pr k)↔BE ts os ws bs ss To ps):=λhR hp hs =>
  ⟨λh=>⟨hll,hs hR,λk u hk=>(hp k u hk).mp (h k (by rw[hrl];exact(Zj.mp hk).1))⟩,λh k hk=>(hp k _ (Zz (hrl▸hk))).mpr (h.pap _ _ (Zz (hrl▸hk)))⟩
 rcases hT with⟨rfl,rfl,rfl⟩ | ⟨o,sh,cA,lA,cs,ls,rfl,rfl,hS,lc,ls2,rfl⟩
 ·refine⟨rfl,iTb (by rfl) ?_⟩;refine⟨pl,rfl,⟨_,SqL.of hp3⟩,λD hD=>?_⟩
  let pr:Nat->Prop:=λk=>∀u,ps[k]?=some u->NoQ ts os k ws bs ss u.1 u.2
  refine bD rs.length (λi=>.bl (dB (pr i))) hD (by lia) (λi H' hi g'=>⟨_,_,SqL.of (g' _ _ hp3),by rw[Zk,Zz hi];rfl⟩) (λH' g'=>⟨_,SqL.of (g' _ _ hp3),by rw[Zq];exact ZC _⟩) ?_ ?_
  ·rintro i H' x H'' k hi g' ⟨Tp,x',rfl,hTp,rfl,hx⟩ hk;have ex:=hx _ (SqL.of (g' _ _ hp3));rw[Zk,Zz hi]at ex;cases ex;have gT:=aB hTp (.tup [vn i,.ref rs[i]]);refine⟨_,SqT.of aA,rfl,((Fills.refl _).set _ rfl).set _ rfl,?_⟩;obtain⟨u,e1,e2,e3⟩:=row i hi;refine⟨wa,p,rs[i],i,ts,os,ws,bs,ss,u.1,u.2,rfl,W3.mono (g'.trans gT),by show i<nL ts os;lia,e2.mono (g3.trans (g'.trans gT)),e3,λH4 b g4 hb=>?_⟩;rw[AZ (p:=pr i) (hb.trans ⟨λh u' hu'=>by rw[e1]at hu';cases hu';exact h,λh=>h u e1⟩)];exact hk _ (gT.trans g4)
  ·exact λH' g e=>fin pr D H' g (pall trivial (λk u hk=>⟨λh=>.inl (h u hk),λh u' hu'=>by rw[hk]at hu';cases hu';exact h.elim id λ⟨_,_,_,e,_⟩=>(by cases e)⟩) λ_ o cs ls e=>by cases e) e
 ·refine⟨rfl,iFb (by rfl) ?_⟩;have S3:=hS.mono g3;have hft:Fit ts.length ws bs ss cs ls:=⟨W.l1,W.l2,W.l3,lc,ls2,by have:=W.t40;lia,W.ok.w⟩
  refine⟨wa,sh,cA,lA,o,ts,os,cs,ls,rfl,W3.web,W.g,W.t40,W.o40,S3.tp,S3.c,S3.l,λH4 g4=>?_⟩;have g34:=g3.trans g4;cases hs:MM.shB ts os o cs ls with
  |false=>exact⟨_,rfl,iTb (by rfl) (iTb rfl (q _ _ g34 ⟨λe=>(by cases e),λh=>by rw[MM.AD (h.shp _ _ _ rfl).1]at hs;cases hs⟩))⟩
  |true =>
  refine⟨_,rfl,iFb (by rfl) ?_⟩;refine⟨p,wA,bA,sA,sh,cA,lA,ts.length,ws,bs,ss,cs,ls,rfl,hW.mono g34,hS.mono g34,hft,λH5 g5=>?_⟩;have g35:=g34.trans g5;cases hk:iM bs ss cs ls ts.length with
  |false=>exact⟨_,rfl,iTb (by rfl) (q _ _ g35 ⟨λe=>(by cases e),λh=>by rw[mR (h.shp _ _ _ rfl).2]at hk;cases hk⟩)⟩
  |true =>
  refine⟨_,rfl,iFb (by rfl) ?_⟩;refine⟨p,wA,bA,sA,sh,cA,lA,ts.length,ws,bs,ss,cs,ls,rfl,hW.mono g35,hS.mono g35,hft,λH6 g6=>?_⟩;have g36:=g4.trans (g5.trans g6);have hp6:=g36 _ _ hp3;refine⟨pl,rfl,⟨_,SqL.of hp6⟩,λD hD=>?_⟩
  let pr:Nat->Prop:=λk=>∀u,ps[k]?=some u->NoQ ts os k ws bs ss u.1 u.2\/GO ts os k ws bs ss u.1 u.2 (costOf ws ls ts.length)
  refine bD rs.length (λi=>.bl (dB (pr i))) hD (by lia) (λi H' hi g'=>⟨_,_,SqL.of (g' _ _ hp6),by rw[Zk,Zz hi];rfl⟩) (λH' g'=>⟨_,SqL.of (g' _ _ hp6),by rw[Zq];exact ZC _⟩) ?_ ?_
  ·rintro i H' x H'' k hi g' ⟨Tp,x',rfl,hTp,rfl,hx⟩ hkk;have ex:=hx _ (SqL.of (g' _ _ hp6));rw[Zk,Zz hi]at ex;cases ex;have gT:=aB hTp (.tup [vn i,.ref rs[i]]);refine⟨_,SqT.of aA,rfl,((Fills.refl _).set _ rfl).set _ rfl,?_⟩;obtain⟨u,e1,e2,e3⟩:=row i hi;refine⟨wa,p,rs[i],i,ts,os,ws,bs,ss,u.1,u.2,_,rfl,W3.mono (g36.trans (g'.trans gT)),by show i<nL ts os;lia,e2.mono (g3.trans (g36.trans (g'.trans gT))),e3,λH7 b g7 hb=>?_⟩;rw[AZ (p:=pr i) (hb.trans ⟨λh u' hu'=>by rw[e1]at hu';cases hu';exact h,λh=>h u e1⟩)];exact hkk _ (gT.trans g7)
  ·exact λH' g e=>fin pr D H' (g36.trans g) (pall trivial (λk u hk=>⟨λh=>(h u hk).imp id λy=>⟨_,_,_,rfl,y⟩,λh u' hu'=>by rw[hk]at hu';cases hu';exact h.imp id λ⟨_,_,_,e,y⟩=>by cases e;exact y⟩) λ_ o cs ls e=>by cases e;exact⟨EB hs,tF hk⟩) e
end K32
namespace K32
open PySem L2 PyProof.Rows NM
def Wz(z:Str):Prop:=z="none"\/z="prices"\/z="lot"\/z=""
def Pok(H:Hp)(d x:Addr)(B:Nat):Prop:=∃(a:Addr) (z:Str) (ns:List Int),H x=some (.tup [.str z,.ref a])/\H a=some (.lst (ns.map V.int))/\a≠d/\Wz z/\ns.length<=B
section
variable{H H':Hp}{d d' x:Addr}{B B':Nat}
theorem Pok.mono(h:Pok H d x B)(g:aJ H H'):Pok H' d x B:=let⟨a,z,ns,e1,e2,e3⟩:=h;⟨a,z,ns,g _ _ e1,g _ _ e2,e3⟩
theorem Pok.le(h:Pok H d x B)(l:B<=B'):Pok H d x B':=let⟨a,z,ns,e1,e2,e3,e4,e5⟩:=h;⟨a,z,ns,e1,e2,e3,e4,YQ e5 l⟩
theorem Pok.new(h:Pok H d x B)(n:H d'=none):Pok H d' x B:=let⟨a,z,ns,e1,e2,_,e4⟩:=h;⟨a,z,ns,e1,e2,(λe=>by rw[e,n]at e2;cases e2),e4⟩
theorem Pok.upd{xs ys:List V}(h:Pok H d x B)(hd:H d=some (.lst xs)):Pok (upd H d (.lst ys)) d x B:=let⟨a,z,ns,e1,e2,e3,e4⟩:=h;⟨a,z,ns,by rw[aE (λe=>by rw[e,hd]at e1;cases e1)];exact e1,by rw[aE e3];exact e2,e3,e4⟩
end
def lE(H:Hp)(r:Addr)(n:Nat)(B:Nat):Prop:=∃(l s:V) (pA:Addr) (T:Option (Nat×List Int×List Int)) (rs:List Addr),H r=some (.tup [l,s,.ref pA])/\ShT H l s n T/\H pA=some (.lst (rs.map V.ref))/\rs.length<=B/\∀x∈rs,Pok H pA x B
theorem lE.mono{H H':Hp}{r:Addr}{n B:Nat}(h:lE H r n B)(g:aJ H H'):lE H' r n B:=let⟨l,s,pA,T,rs,e1,e2,e3,e4,e5⟩:=h;⟨l,s,pA,T,rs,g _ _ e1,e2.mono g,g _ _ e3,e4,λx hx=>(e5 x hx).mono g⟩
def O5(H0 H:Hp)(x:Addr)(n:Nat):Prop :=
 (∃(la:Addr) (lot:List Int),H x=some (.tup [.str "none",.ref la])/\H la=some (.lst (lot.map V.int))/\H0 la=none/\lot.length<=42) \/∃(v cA lA ra:Addr) (cs ls ps:List Int),H x=some (.tup [.str "shape",.ref v,.ref ra])/\kY H v cA lA cs ls/\H0 cA=none/\H0 lA=none/\H ra=some (.lst (ps.map V.int))/\H0 ra=none/\ps.length<=42/\cs.length=2*n/\ls.length=2*n
def NZ:Sp:=λvs H Q _=>∃(wa p:Addr) (o:Nat) (ts:MM.aV) (os:MM.aR) (ws:List Int) (bs ss:List (Option Int)),vs=[.ref wa,vn o,.ref p]/\Mp H wa ts os/\Wd H wa p ts os ws bs ss/\o<nL ts os /\
 ∀(r:Addr) (H':Hp),aJ H H'->O5 H H' r ts.length->Q (.ref r) H'
theorem MQ(T:Txt K mg t):Ok P w base T 65 9 NZ :=
 (OK (P:=P) (w:=w) (base:=base) T).imp λvs H Q E h=>by
  obtain⟨wa,p,o,ts,os,ws,bs,ss,rfl,hM,W,ho,q⟩:=h;obtain⟨wA,bA,sA,hW⟩:=W.w;have t40:=W.t40;exact⟨wa,p,wA,bA,sA,o,ts,os,ws,bs,ss,rfl,hM,W.f,W.t40,W.o40,ho,hW,W.l1,W.l2,W.l3,W.ok,λr la lot H' fl g f0 f1 hl=>q r _ g (.inl ⟨la,lot,f0,f1,fl,hl⟩),λr v a b ra cs ls ps H' nw g f0 f1 f2 f3 f4 lc ll lp=>q r _ g (.inr ⟨v,a,b,ra,cs,ls,ps,f0,⟨f1,f2,f3⟩,nw.1,nw.2.1,f4,nw.2.2,lp,lc,ll⟩)⟩
def NV:Sp:=λvs H Q _=>∃(H0:Hp) (r:Addr) (n:Nat),vs=[.ref r]/\O5 H0 H r n/\∀(x la:Addr) (z:Str) (ns:List Int) (H':Hp),aJ H H'->H' x=some (.tup [.str z,.ref la])->H' la=some (.lst (ns.map V.int))->H0 la=none->Wz z->ns.length<=42->Q (.ref x) H'
theorem MK(T:Txt K mg t):Ok P w base T 70 1 NV:=by
 left
 obtain⟨H0,r,n,rfl,hT,q⟩:=h;refine⟨_,(by exists bY,aG,0,aG,0,aG,0),?_⟩;rcases hT with⟨la,lot,f0,f1,f2,f3⟩ | ⟨v,cA,lA,ra,cs,ls,ps,f0,_,_,_,f1,f2,f3,_⟩
 ·exact⟨_,_,SqT.of f0,rfl,iFb (by decide +kernel) ⟨_,_,SqT.of f0,rfl,(by show 2<=ZW;decide),λx hx=>q x la _ _ _ (aB hx _) aA (aB hx _ _ _ f1) f2 (.inl rfl) f3⟩⟩
 ·exact⟨_,_,SqT.of f0,rfl,iTb (by decide +kernel) ⟨_,_,SqT.of f0,rfl,(by show 2<=ZW;decide),λx hx=>q x ra _ _ _ (aB hx _) aA (aB hx _ _ _ f1) f2 (.inr (.inl rfl)) f3⟩⟩
def N5:Sp:=λvs H Q _=>∃(wa p:Addr) (ts:MM.aV) (os:MM.aR) (ws:List Int) (bs ss:List (Option Int)),vs=[.ref wa,.ref p]/\Mp H wa ts os/\Wd H wa p ts os ws bs ss /\
 ∀(r:Addr) (H':Hp),aJ H H'->lE H' r ts.length 43->Q (.ref r) H'
theorem JC(T:Txt K mg t):Ok P w base T 69 10 N5:=by
 have G_cost:=AL (P:=P) (w:=w) (base:=base) T (qO T)
 left
 obtain⟨wa,p,ts,os,ws,bs,ss,rfl,hM,W,q⟩:=h;obtain⟨wA,bA,sA,hW⟩:=W.w;refine⟨_,(by exists FH,0,2,3,4,hZ,0,5,6,MQ,0,5,1,4,MK,6,bY,aG,6,eX,2,bT G_cost hr (T.f 61) aZ ?_,1,aG,6,bT G_cost hr (T.f 61) aZ ?_,1,3,2,5,3,aG,6,2,3,4),?_⟩;refine⟨wa,ts,os,rfl,hM,W.f,λH1 g1=>?_⟩;refine⟨(by show 0<=ZW;decide),λpA hpA=>?_⟩;have g2:=g1.trans (aB hpA (.lst []));have h0:H pA=none:=g1.free hpA;have hp2:upd H1 pA (.lst []) pA=some (.lst []):=aA;generalize upd H1 pA (.lst [])=H2 at g2 hp2;refine⟨wa,_,ts,os,rfl,W.web.mono g2,W.g,by have:=W.t40;lia,λla rr H3 g3 n3=>?_⟩;have ll:(rr.map V.ref).length=nL ts os:=(Zq V.ref).trans n3.len;have lb:nL ts os<=42:=by
  have:os.length+nL ts os=ts.length+2:=W.f;have:=W.t40
  lia
 refine⟨la,_,rfl,.inl (SqL.of n3.at_),_,rfl,by lia,by lia,?_⟩
 let Pv1:Nat->L2.St->L2.Hp->Prop:=λi σ H'=>∃(b s:V) (T:Option (Nat×List Int×List Int)) (rs:List Addr) (o5 o6:Option V),σ=[some (.ref wa),some (.ref p),some b,some s,some (.ref pA),o5,o6]/\aJ H H'/\H' pA=some (.lst (rs.map V.ref))/\rs.length=i/\(∀x∈rs,Pok H' pA x 42)/\ShT H' b s ts.length T/\∀sh cA lA cs ls,s=.ref sh->kY H' sh cA lA cs ls->cA≠pA/\lA≠pA
 refine cZ (lo:=0) (n:=(((rr.map V.ref).length:Nat):Int).toNat) Pv1
  ⟨_,_,none,[],_,_,rfl,g2.trans g3,g3 _ _ hp2,rfl,λx h=>by simp at h,.inl ⟨rfl,rfl,rfl⟩,λ_ _ _ _ _ e=>by cases e⟩ ?_ ?_
 ·rintro i σ H4 hi ⟨b,s,To,rs,o5,o6,rfl,g4,hp4,lrs,hA,hB,hN⟩;show b0 5 (V.int (0+(i:Int))) _ _ _;rw[Int.zero_add];refine⟨wa,p,i,ts,os,ws,bs,ss,rfl,hM.same g4,W.mono g4,by lia,λr H5 g5 hT=>?_⟩;refine⟨.inl ⟨rfl,_,SqL.of (g5 _ _ hp4)⟩,H4,r,ts.length,rfl,hT,λpp lp z ns H6 g6 ep el hlp hz hns=>?_⟩;have hp6:=g6 _ _ (g5 _ _ hp4);refine⟨_,hp6,Xq (by rw[Zq];lia:_<=100) (by decide),?_⟩;have g46:=g5.trans g6;have g7:aJ H (upd H6 pA (.lst (rs.map V.ref++[.ref pp]))):=λb u z=>by rw[aE (aC z h0)];exact g46 _ _ (g4 _ _ z)
  have kp:∀x u,x≠pA->H6 x=some u->upd H6 pA (.lst (rs.map V.ref++[.ref pp])) x=some u:=λx u n h=>by rw[aE n];exact h
  have nlp:lp≠pA:=λz=>by rw[z,hp4]at hlp;cases hlp
  have hA7:∀x∈rs++[pp],Pok (upd H6 pA (.lst (rs.map V.ref++[.ref pp]))) pA x 42:=λx hx=>by
   refine Pok.upd ?_ hp6;rcases Zf.mp hx with hx | hx
   ·exact(hA x hx).mono g46
   ·rw[Zb.mp hx];exact⟨lp,z,ns,ep,el,nlp,hz,hns⟩
  have hp7:upd H6 pA (.lst (rs.map V.ref++[.ref pp])) pA=some (.lst ((rs++[pp]).map V.ref)):=by rw[aA,Zt];rfl
  generalize upd H6 pA (.lst (rs.map V.ref++[.ref pp]))=H7 at g7 kp hp7 hA7;have tupne:∀{x:Addr}{xs:List V},H6 x=some (.tup xs)->x≠pA:=λh z=>by rw[z,hp6]at h;cases h
  have hB7:ShT H7 b s ts.length To:=hB.imp id λ⟨o,sh,cA,lA,cs,ls,h1,h2,h3,h4⟩ =>
   ⟨o,sh,cA,lA,cs,ls,h1,h2,⟨kp _ _ (tupne (g46 _ _ h3.tp)) (g46 _ _ h3.tp),kp _ _ (hN _ _ _ _ _ h2 h3).1 (g46 _ _ h3.c),kp _ _ (hN _ _ _ _ _ h2 h3).2 (g46 _ _ h3.l)⟩,h4⟩
  have hN7:∀{H8:Hp},aJ H7 H8->∀sh cA lA cs ls,s=.ref sh->kY H8 sh cA lA cs ls->cA≠pA/\lA≠pA:=λg8 sh cA lA cs ls e h=>by
   rcases hB with⟨_,e2,_⟩ | ⟨o,sh',cA',lA',cs',ls',h1,h2,h3,h4⟩
   ·rw[e]at e2;cases e2
   ·rw[e]at h2;cases h2;have:=h.tp.symm.trans (g8 _ _ (kp _ _ (tupne (g46 _ _ h3.tp)) (g46 _ _ h3.tp)));cases this;exact hN _ _ _ _ _ e h3
  have fin:∀{b s:V}{To:Option (Nat×List Int×List Int)}{o5 o6:Option V}{H8:Hp},aJ H7 H8->ShT H8 b s ts.length To->(∀sh cA lA cs ls,s=.ref sh->kY H8 sh cA lA cs ls->cA≠pA/\lA≠pA)->∃(b' s':V) (T:Option (Nat×List Int×List Int)) (rs:List Addr) (o5' o6':Option V),[some (.ref wa),some (.ref p),some b,some s,some (.ref pA),o5,o6]=[some (.ref wa),some (.ref p),some b',some s',some (.ref pA),o5',o6']/\aJ H H8/\H8 pA=some (.lst (rs.map V.ref))/\rs.length=i+1/\(∀x∈rs,Pok H8 pA x 42)/\ShT H8 b' s' ts.length T/\∀sh cA lA cs ls,s'=.ref sh->kY H8 sh cA lA cs ls->cA≠pA/\lA≠pA:=λg8 h hn =>
   ⟨_,_,_,rs++[pp],_,_,rfl,g7.trans g8,g8 _ _ hp7,by rw[Zm,lrs];rfl,λx hx=>(hA7 x hx).mono g8,h,hn⟩
  rcases hT with⟨la,lot,f0,_⟩ | ⟨v,cA,lA,ra,cs,ls,ps,f0,fS,nc,nl,_,_,_,lc,lle⟩
  ·exact⟨_,_,SqT.of (kp _ _ (tupne (g6 _ _ f0)) (g6 _ _ f0)),rfl,iFb (by decide +kernel) (iF (fin (aJ.refl _) hB7 (hN7 (aJ.refl _))))⟩
  have f7:=kp _ _ (tupne (g6 _ _ f0)) (g6 _ _ f0);have nx:cA≠pA:=λz=>by rw[z,hp4]at nc;cases nc
  have ny:lA≠pA:=λz=>by rw[z,hp4]at nl;cases nl
  have s7:kY H7 v cA lA cs ls:=⟨kp _ _ (tupne (g6 _ _ fS.tp)) (g6 _ _ fS.tp),kp _ _ nx (g6 _ _ fS.c),kp _ _ ny (g6 _ _ fS.l)⟩
  have w7:=hW.mono g7;have t40:=W.t40;have fit:∀{cs ls:List Int},cs.length=2*ts.length->ls.length=2*ts.length->Fit ts.length ws bs ss cs ls:=λa b=>⟨W.l1,W.l2,W.l3,a,b,by lia,W.ok.w⟩
  have newB:∀{H8:Hp},aJ H7 H8->ShT H8 (vn i) (.ref v) ts.length (some (i,cs,ls))/\∀sh cA lA cs ls,V.ref v=.ref sh->kY H8 sh cA lA cs ls->cA≠pA/\lA≠pA:=λg8 =>
   ⟨.inr ⟨i,v,cA,lA,cs,ls,rfl,rfl,s7.mono g8,lc,lle,rfl⟩,λsh cA' lA' _ _ e h=>by cases e;have:=h.tp.symm.trans (g8 _ _ s7.tp);cases this;exact⟨nx,ny⟩⟩
  refine⟨_,_,SqT.of f7,rfl,iTb (by decide +kernel) ?_⟩;rcases hB7 with⟨rfl,rfl,rfl⟩ | ⟨o,sh,cB,lB,cs2,ls2,rfl,rfl,h3,h4,h5,rfl⟩
  ·refine⟨rfl,iTb rfl (iTb rfl ?_)⟩;refine⟨_,_,SqT.of f7,rfl,?_⟩;have:=fin (o5:=some (vn i)) (o6:=some (.ref r)) (aJ.refl _) (newB (aJ.refl _)).1 (newB (aJ.refl _)).2;exact this
  ·refine⟨rfl,iFb rfl ?_⟩;refine⟨_,_,SqT.of f7,rfl,p,wA,bA,sA,v,cA,lA,ts.length,ws,bs,ss,cs,ls,rfl,w7,s7,fit lc lle,λH8 g8=>?_⟩;refine⟨p,wA,bA,sA,sh,cB,lB,ts.length,ws,bs,ss,cs2,ls2,rfl,w7.mono g8,h3.mono g8,fit h4 h5,λH9 g9=>?_⟩;have g89:=g8.trans g9;refine i2 (λd=>?_) (λd=>?_)
   ·refine⟨_,_,SqT.of (g89 _ _ f7),rfl,?_⟩;have:=fin (o5:=some (vn i)) (o6:=some (.ref r)) g89 (newB g89).1 (newB g89).2;exact this
   ·exact fin g89 (.inr ⟨o,sh,cB,lB,cs2,ls2,rfl,rfl,h3.mono g89,h4,h5,rfl⟩) (hN7 g89)
 ·rintro σ H4 ⟨b,s,To,rs,o5,o6,rfl,g4,hp4,lrs,hA,hB,hN⟩;rw[ll,Int.toNat_natCast]at lrs;refine⟨(by show 3<=ZW;decide),λr hr1=>?_⟩;have gr:=aB hr1 (.tup [b,s,.ref pA]);exact q r _ (g4.trans gr) ⟨b,s,pA,To,rs,aA,hB.mono gr,gr _ _ hp4,by lia,λx hx=>((hA x hx).mono gr).le (by lia)⟩
end K32
namespace K32
open PySem L2 PyProof.Rows NM
theorem KM{H:Hp}{a p:Addr}{xs:List V}{ds:List PyData}{Q:VK}(e:H a=some (.lst xs))(b:Bds H xs ds)(s:SeqAt.shaped (.list ds)=true)(ep:H p=some (.lst []))(q:∀b:Bool,(b=true↔xs≠[])->Q (.bl b) H):EK true (.ref a) (.ref p) H Q:=by
 refine⟨_,_,.lst (SqL.of e) b,.lst (SqL.of ep) .nil,s,by decide +kernel,q _ ?_⟩;cases b with
 |nil=>exact⟨λh=>(by revert h;decide +kernel),λh=>Yg rfl h⟩
 |cons x y=>exact⟨λ_=>List.cons_ne_nil _ _,λ_=>rfl⟩
theorem yU{H:Hp}{a p:Addr}{ns:List Int}{Q:VK}(e:H a=some (.lst (ns.map V.int)))(ep:H p=some (.lst []))(q:∀b:Bool,(b=true↔ns≠[])->Q (.bl b) H):EK true (.ref a) (.ref p) H Q :=
 KM e (nE ns) (shaped_ints ns) ep λb h=>q b (h.trans (by cases ns<;>simp))
theorem iQ{H0 H:Hp}{l:Addr}{o:HO}(g:aJ H0 H)(n:H0 l=none):aJ H0 (upd H l o):=λb u z=>by rw[aE (aC z n)];exact g _ _ z
def JB(H0:Hp)(x:Addr)(c w:Int)(q B:Nat)(F:Prop)(σ:L2.St)(H:Hp):Prop:=∃(l:Addr) (z:Str) (ns:List Int),σ=[some (.ref x),some (.int c),some (.str z),some (.ref l),some (.int w),some (.int q)]/\aJ H0 H/\H l=some (.lst (ns.map V.int))/\H0 l=none/\Wz z/\ns.length<=B/\(q<max 1 ns.length\/F)
def PZ:Sp:=λvs H Q _=>∃(x a:Addr) (c:Int) (z:Str) (ns:List Int),vs=[.ref x,.int c]/\H x=some (.tup [.str z,.ref a])/\H a=some (.lst (ns.map V.int))/\Wz z/\ns.length<=1000 /\
 ∀(r a':Addr) (z':Str) (ns':List Int) (H':Hp),aJ H H'->H' r=some (.tup [.str z',.ref a'])->H' a'=some (.lst (ns'.map V.int))->H a'=none->Wz z'->ns'.length<=ns.length+2->Q (.ref r) H'
theorem MN(T:Txt K mg t):Ok P w base T 93 1 PZ:=by
 left
 obtain⟨x,a,c,z,ns,rfl,e1,e2,hz,hl,q⟩:=h;refine⟨_,(by exists yG (i:=2) (j:=3) rfl nd rfl rfl (by decide) rfl rfl ?_ rfl,aG,0,bS dE rfl (T.z 7) boot_list ?_,aG,0,4,1,5,bE,1,aN (tK rfl) rfl (T.z 8) boot_max ?_,3,4,(i7 hr.units),3,dF ?_ ?_,aX,aI,3,5,bE,1,eT ?_ ?_ set_list,3,5,bY,4,(e8 3 ["_law_number"] [none]),a7 ?_,3,0,aX,0,bY,4,(i7 hr.units),3,iE YO PySem.F.slot_list_pop PySem.F.type_list_pop vX ?_ ?_,3,5,bY,4,3,bE,1,bY,4,2,aI,bE,1,bY,4,(i7 hr.units),3,3,aI,3,5,2,3),?_⟩;refine⟨_,_,SqT.of e1,rfl,_,_,SqT.of e1,rfl,a,_,rfl,.inl (SqL.of e2),λl hl1=>?_⟩;have g1:=aB hl1 (.lst (ns.map V.int));have el:(upd H l (.lst (ns.map V.int))) l=some (.lst (ns.map V.int)):=aA;generalize upd H l (.lst (ns.map V.int))=H1 at g1 el;refine⟨(by show(0:Int)<8;decide),⟨by decide,by decide⟩,l,_,rfl,.inl (SqL.of el),_,_,rfl,?_⟩;obtain⟨m,hm,hm1⟩:∃m:Int,(if ((ns.map V.int).length:Nat)>(1:Int) then (((ns.map V.int).length:Nat):Int) else 1)=m/\m=((max 1 ns.length:Nat):Int):=⟨_,rfl,by rw[Zq];split<;>lia⟩
 rw[hm];refine⟨(by show(0:Int)<m;lia),?_⟩;obtain⟨q0,hq0,hq1⟩:∃q0:Nat,c / 8%m=(q0:Int)/\q0<max 1 ns.length:=by
  have h1:=Xw (c / 8) (show m≠0 by lia);have h2:=Xx (c / 8) (show 0<m by lia);exact⟨(c / 8%m).toNat,by lia,by lia⟩
 show b0 5 (V.int (c / 8%m)) _ _ _;rw[hq0];dsimp only[b0];have nl:H l=none:=hl1;generalize hw:c%8=w';refine via (JB H x c w' q0 ns.length False) (λnx=>?_) ?_
 ·refine i2 (λd=>?_) (λd=>iF (nx _ _ ⟨l,z,ns,rfl,g1,el,nl,hz,ZC _,.inl hq1⟩));refine⟨(by show 0<=ZW;decide),λp hp=>?_⟩;have gp:=aB hp (.lst []);refine yU (gp _ _ el) aA λb hb=>?_;cases b with
  |false=>exact iFb (by rfl) (nx _ _ ⟨l,z,ns,rfl,g1.trans gp,gp _ _ el,nl,hz,ZC _,.inl hq1⟩)
  |true =>
   have hne:=hb.mp rfl;have hlt:q0<ns.length:=by have:=List.length_pos_iff.mpr hne;lia
   refine iTb (by rfl) ⟨_,_,SqL.of (gp _ _ el),bM (bR hlt),⟨by decide,by decide⟩,(by show(0:Int)<5;decide),?_⟩;exact⟨_,_,gp _ _ el,eV (by rw[Zq];exact hlt),nx _ _ ⟨l,z,ns.set q0 _,rfl,iQ (g1.trans gp) nl,by rw[aA,ZG],nl,hz,by rw[ZP];exact ZC _,.inl (by rw[ZP];exact hq1)⟩⟩
 clear el g1 hl1 nl hq1 hz;rintro σ1 H1 ⟨l,z,ns1,rfl,g1,el,nl,hz,hn1,hq1⟩;refine via (JB H x c w' q0 ns.length False) (λnx=>?_) ?_
 ·refine i2 (λd=>?_) (λd=>nx _ _ ⟨l,z,ns1,rfl,g1,el,nl,hz,hn1,hq1⟩);refine⟨⟨_,SqL.of el⟩,λD hD=>?_⟩;refine bD ns1.length (λi=>.int (at0 ns1 i+1)) hD (by lia) (λi H' hi g'=>⟨_,_,SqL.of (g' _ _ el),bR hi⟩) (λH' g'=>⟨_,SqL.of (g' _ _ el),by rw[Zq];exact ZC _⟩) ?_ ?_
  ·rintro i H'' x H3 k hi g' ⟨rfl,hx⟩ hk;have ex:=hx _ (SqL.of (g' _ _ el));rw[bR hi]at ex;cases ex;exact⟨(Fills.refl _).set _ rfl,hk _ (aJ.refl _)⟩
  ·intro H4 g4 e4;exact nx _ _ ⟨D,z,(ZR ns1.length).map λi=>at0 ns1 i+1,rfl,g1.trans g4,by rw[e4,Ym];rfl,g1.free hD,hz,by rw[Zq,Yj];exact hn1,by rw[Zq,Yj];exact hq1⟩
 clear el g1 nl hq1 hz hn1;rintro σ2 H2 ⟨l,z,ns1,rfl,g1,el,nl,hz,hn1,hq1⟩;refine via (JB H x c w' q0 ns.length (w'=4)) (λnx=>?_) ?_
 ·have hq1:q0<max 1 ns1.length:=hq1.elim id False.elim;refine i2 (λd=>?_) (λd=>iF (nx _ _ ⟨l,z,ns1,rfl,g1,el,nl,hz,hn1,.inl hq1⟩));refine⟨(by show 0<=ZW;decide),λp hp=>?_⟩;have gp:=aB hp (.lst []);refine yU (gp _ _ el) aA λb hb=>?_;cases b with
  |false=>exact iFb (by rfl) (nx _ _ ⟨l,z,ns1,rfl,g1.trans gp,gp _ _ el,nl,hz,hn1,.inl hq1⟩)
  |true =>
   have hne:=hb.mp rfl;have hlt:q0<ns1.length:=by have:=List.length_pos_iff.mpr hne;lia
   refine iTb (by rfl) ⟨.inl ⟨rfl,_,SqL.of (gp _ _ el)⟩,_,_,_,_,rfl,gp _ _ el,by lia,by lia,(pL (eV (by rw[Zq];exact hlt))).1,bR hlt,?_⟩;exact nx _ _ ⟨l,z,ns1.eraseIdx q0,rfl,iQ (g1.trans gp) nl,by rw[aA,List.eraseIdx_eq_take_drop_succ,List.eraseIdx_eq_take_drop_succ,Zt,List.map_take,List.map_drop],nl,hz,by have:=List.length_eraseIdx_le ns1 q0;lia,.inr (Yf d |> λh=>by cases h;rfl)⟩
 clear el g1 nl hq1 hz hn1;rintro σ3 H3 ⟨l,z,ns1,rfl,g1,el,nl,hz,hn1,hq1⟩;refine via (JB H x c w' q0 (ns.length+1) (w'=4)) (λnx=>?_) ?_
 ·refine i2 (λd=>?_) (λd=>nx _ _ ⟨l,z,ns1,rfl,g1,el,nl,hz,by lia,hq1⟩);refine⟨.inl ⟨rfl,_,SqL.of el⟩,⟨by decide,by decide⟩,(by show(0:Int)<9;decide),_,el,Xq (by rw[Zq];lia:_<=1000) (by decide),?_⟩;exact nx _ _ ⟨l,z,ns1++[_],rfl,iQ g1 nl,by rw[aA,Zt];rfl,nl,hz,by rw[Zm];show _+1<=_;lia,hq1.imp (λh=>by rw[Zm];show _<max 1 (_+1);lia) id⟩
 clear el g1 nl hq1 hz hn1;rintro σ4 H4 ⟨l,z,ns1,rfl,g1,el,nl,hz,hn1,hq1⟩;refine via (JB H x c w' q0 (ns.length+1) (w'=4)) (λnx=>?_) ?_
 ·refine i2 (λd=>?_) (λd=>nx _ _ ⟨l,z,ns1,rfl,g1,el,nl,hz,hn1,hq1⟩);refine⟨(by show 4<=ZW;decide),λp hp=>?_⟩;have gp:=aB hp (.lst [V.str "none",V.str "prices",V.str "lot",V.str ""]);obtain⟨z',hz1,hz2⟩:∃z':Str,atI [V.str "none",V.str "prices",V.str "lot",V.str ""] (c / 8%4)=some (.str z')/\Wz z':=by
   have h2:c / 8%4=0\/c / 8%4=1\/c / 8%4=2\/c / 8%4=3:=by lia
   rcases h2 with h2 | h2 | h2 | h2<;>rw[h2]
   ·exact⟨_,rfl,.inl rfl⟩
   ·exact⟨_,rfl,.inr (.inl rfl)⟩
   ·exact⟨_,rfl,.inr (.inr (.inl rfl))⟩
   ·exact⟨_,rfl,.inr (.inr (.inr rfl))⟩
  refine⟨⟨by decide,by decide⟩,(by show(0:Int)<4;decide),_,_,SqL.of aA,hz1,?_⟩;exact nx _ _ ⟨l,z',ns1,rfl,g1.trans gp,gp _ _ el,nl,hz2,hn1,hq1⟩
 clear el g1 nl hq1 hz hn1;rintro σ5 H5 ⟨l,z,ns1,rfl,g1,el,nl,hz,hn1,hq1⟩;refine via (JB H x c w' q0 (ns.length+2) True) (λnx=>?_) ?_
 ·refine i2 (λd=>?_) (λd=>iF (nx _ _ ⟨l,z,ns1,rfl,g1,el,nl,hz,by lia,.inr trivial⟩));refine⟨(by show 0<=ZW;decide),λp hp=>?_⟩;have gp:=aB hp (.lst []);refine yU (gp _ _ el) aA λb hb=>?_;cases b with
  |false=>exact iFb (by rfl) (nx _ _ ⟨l,z,ns1,rfl,g1.trans gp,gp _ _ el,nl,hz,by lia,.inr trivial⟩)
  |true =>
   have hne:=hb.mp rfl;have h7:w'=7:=by have:=Yf d;cases this;rfl
   have hlt:q0<ns1.length:=by have:=List.length_pos_iff.mpr hne;rcases hq1 with h | h<;>lia
   refine iTb (by rfl) ⟨.inl ⟨rfl,_,SqL.of (gp _ _ el)⟩,_,_,SqL.of (gp _ _ el),bM (bR hlt),_,gp _ _ el,Xq (by rw[Zq];lia:_<=1001) (by decide),?_⟩;exact nx _ _ ⟨l,z,ns1++[_],rfl,iQ (g1.trans gp) nl,by rw[aA,Zt];rfl,nl,hz,by rw[Zm];show _+1<=_;lia,.inr trivial⟩
 rintro σ6 H6 ⟨l,z,ns1,rfl,g1,el,nl,hz,hn1,hq1⟩;exact⟨(by show 2<=ZW;decide),λr hr1=>q r l z ns1 _ (g1.trans (aB hr1 _)) aA (aB hr1 _ _ _ el) nl hz hn1⟩
theorem KZ{z:Str}(h:Wz z):(PyData.str z).canLay0=true:=by rcases h with rfl | rfl | rfl | rfl<;>decide +kernel
def dPz(u:Str×List Int):PyData:=.tuple [.str u.1,.list (u.2.map PyData.int)]
theorem JW{u:Str×List Int}(h:Wz u.1):(dPz u).canLay0=true/\(dPz u).depth<=5:=by
 have i:=lay_ints u.2;have h:PyData.canLayAll0 [PyData.str u.1,.list (u.2.map PyData.int)]=true/\PyData.depthAll [PyData.str u.1,.list (u.2.map PyData.int)]<=4:=uL 4 λd hd=>by
  simp only[Zn,ZL,or_false]at hd;rcases hd with rfl | rfl
  ·exact⟨KZ h,by simp[PyData.depth]⟩
  ·exact⟨i.1,by rw[PyData.depth];have:=i.2;lia⟩
 exact⟨h.1,by unfold dPz;rw[PyData.depth];have:=h.2;lia⟩
theorem qA{ps:List (Str×List Int)}(h:∀u∈ps,Wz u.1):SeqAt.shaped (.list (ps.map dPz))=true:=by
 have h:PyData.canLayAll0 (ps.map dPz)=true/\PyData.depthAll (ps.map dPz)<=5:=uL 5 λd hd=>by
  obtain⟨a,ha,rfl⟩:=Zh.mp hd;exact JW (h a ha)
 unfold SeqAt.shaped;rw[Xg];refine⟨h.1,Ye ?_⟩;rw[PyData.depth];have:=h.2
 lia
theorem MD{H:Hp}{x:Addr}{u:Str×List Int}(h:j8 H x u.1 u.2):Bd H (.ref x) (dPz u):=let⟨_,e1,e2⟩:=h;.tup (SqT.of e1) (.cons (.str _) (.cons (.lst (SqL.of e2) (nE _)) .nil))
theorem t7{H:Hp}{d:Addr}{B:Nat}:∀{rs:List Addr},(∀x∈rs,Pok H d x B)->∃ps:List (Str×List Int),rs.length=ps.length/\(∀(k:Nat) u,ps[k]?=some u->∃x,rs[k]?=some x/\j8 H x u.1 u.2)/\∀u∈ps,Wz u.1/\u.2.length<=B
 |[],_=>⟨[],rfl,λk u h=>by simp at h,λu h=>by simp at h⟩
 |x::rs,h=>by
  obtain⟨ps,l,h1,h2⟩:=t7 (rs:=rs) λy hy=>h y (Zw _ hy);obtain⟨a,z,ns,e1,e2,_,e4,e5⟩:=h x Zd;refine⟨(z,ns)::ps,by simp[l],λk u hk=>?_,λu hu=>?_⟩
  ·cases k with
   |zero=>cases hk;exact⟨x,rfl,a,e1,e2⟩
   |succ k=>exact h1 k u hk
  ·rcases Zn.mp hu with rfl | hu
   ·exact⟨e4,e5⟩
   ·exact h2 u hu
theorem qM{H:Hp}{rs:List Addr}{ps:List (Str×List Int)}(l:rs.length=ps.length)(h:∀(k:Nat) u,ps[k]?=some u->∃x,rs[k]?=some x/\j8 H x u.1 u.2):Bds H (rs.map V.ref) (ps.map dPz) :=
 GK _ _ (by simp[l]) λi x d hx hd=>by
  rw[Zk]at hd;obtain⟨u,hu,rfl⟩:=Xv.mp hd;obtain⟨y,hy,e⟩:=h i u hu;rw[Zk,hy]at hx;cases hx;exact MD e
theorem uE{H:Hp}{a p d:Addr}{rs:List Addr}{B:Nat}{Q:VK}(e:H a=some (.lst (rs.map V.ref)))(hp:∀x∈rs,Pok H d x B)(ep:H p=some (.lst []))(q:∀b:Bool,(b=true↔rs≠[])->Q (.bl b) H):EK true (.ref a) (.ref p) H Q:=by
 obtain⟨ps,l,h1,h2⟩:=t7 hp;exact KM e (qM l h1) (qA λu hu=>(h2 u hu).1) ep λb h=>q b (h.trans (by cases rs<;>simp))
def JP(H0:Hp)(r:Addr)(c:Int)(m:Nat)(l s:V)(pB:Addr)(w sm:Int)(q B:Nat)(F:Prop)(σ:L2.St)(H:Hp):Prop:=∃rs:List Addr,σ=[some (.ref r),some (.int c),some (vn m),some l,some s,some (.ref pB),some (.int w),some (.int sm),some (.int q),none,none,none]/\aJ H0 H/\H pB=some (.lst (rs.map V.ref))/\rs.length<=B/\(∀x∈rs,Pok H pB x (B+2))/\(q<max 1 rs.length\/F)
def JS(H0:Hp)(r:Addr)(c:Int)(m:Nat)(s:V)(pB:Addr)(w sm:Int)(q n:Nat)(σ:L2.St)(H:Hp):Prop:=∃(o:Nat) (cB lB:Addr) (cs ls:List Int) (o11:Option V),σ=[some (.ref r),some (.int c),some (vn m),some (vn o),some s,some (.ref pB),some (.int w),some (.int sm),some (.int q),some (.ref cB),some (.ref lB),o11]/\aJ H0 H/\H cB=some (.lst (cs.map V.int))/\H lB=some (.lst (ls.map V.int))/\H0 cB=none/\H0 lB=none/\cB≠lB/\cs.length=2*n/\ls.length=2*n
def P1:Sp:=λvs H Q _=>∃(r:Addr) (c:Int) (m n B:Nat),vs=[.ref r,.int c,vn m]/\0<m/\0<n/\n<=1000/\B<=500/\lE H r n B/\∀(r':Addr) (H':Hp),aJ H H'->lE H' r' n (B+4)->Q (.ref r') H'
theorem wJ(s:Int){n:Nat}(h:0<n):∃j:Nat,s%(n:Int)=(j:Int)/\j<n:=by
 have h1:=Xw s (show(n:Int)≠0 by lia);have h2:=Xx s (show 0<(n:Int) by lia);exact⟨(s%(n:Int)).toNat,by lia,by lia⟩
theorem KG(s:Int):∃d:Int,atI [V.int 1,V.int (-1)] (s%2)=some (.int d):=by
 have h2:s%2=0\/s%2=1:=by lia
 rcases h2 with h2 | h2<;>rw[h2]
 ·exact⟨_,rfl⟩
 ·exact⟨_,rfl⟩
theorem MO(T:Txt K mg t):Ok P w base T 94 2 P1:=by
 left
 obtain⟨r,c,m,n,B,rfl,hm,hn,hn1,hB,⟨l,s,pA,To,rs,e1,e2,e3,e4,e5⟩,q⟩:=h;refine⟨_,(by exists dF ?_ ?_,0,3,4,5,6,1,7,bE,1,5,bS dE rfl (T.z 7) boot_list ?_,5,8,7,aN (tK rfl) rfl (T.z 8) boot_max ?_,5,6,(i7 hr.units),5,dF ?_ ?_,MN,aI,5,8,bE,7,eT ?_ ?_ set_list,5,8,bY,6,(i7 hr.units),5,dF ?_ ?_,aI,5,aI,5,8,eT ?_ ?_ set_list,5,8,eT ?_ ?_ set_list,5,bY,6,(i7 hr.units),5,iE YO PySem.F.slot_list_pop PySem.F.type_list_pop vX ?_ ?_,5,8,bY,6,(i7 hr.units),5,iE YO PySem.F.slot_list_insert PySem.F.type_list_insert gW ?_ ?_,5,aI,5,8,eX,4,3,4,5,yG (i:=9) (j:=10) rfl nd rfl rfl (by decide) rfl rfl ?_ rfl,bS dE rfl (T.z 7) boot_list ?_,aG,4,bS dE rfl (T.z 7) boot_list ?_,aG,4,bY,6,3,7,2,bY,6,dF ?_ ?_,aX,aI,9,7,9,aI,bE,7,eT ?_ ?_ set_list,9,7,9,bY,6,bY,7,dF ?_ ?_,aX,aI,10,bE,7,10,aI,bE,7,eT ?_ ?_ set_list,10,bE,7,10,bY,6,bY,7,11,bE,7,bE,10,dF ?_ ?_,aX,aI,10,11,eT ?_ ?_ set_list,10,11,dF ?_ ?_,aX,aI,10,aX,11,eT ?_ ?_ set_list,10,aX,11,bY,6,bY,bE,7,5,3,9,10,5),?_⟩;refine⟨_,SqT.of e1,rfl,?_⟩;dsimp only[wL,F0,b0,LC,L0];refine⟨(by show(0:Int)<9;decide),⟨by decide,by decide⟩,pA,_,rfl,.inl (SqL.of e3),λpB hpB=>?_⟩;have g1:=aB hpB (.lst (rs.map V.ref));have eB:(upd H pB (.lst (rs.map V.ref))) pB=some (.lst (rs.map V.ref)):=aA;have pk:∀x∈rs,Pok (upd H pB (.lst (rs.map V.ref))) pB x (B+3):=λx hx=>(((e5 x hx).new hpB).mono g1).le (by lia);generalize upd H pB (.lst (rs.map V.ref))=H1 at g1 eB pk;refine⟨pB,_,rfl,.inl (SqL.of eB),_,_,rfl,?_⟩;obtain⟨z,hz,hz1⟩:∃z:Int,(if ((rs.map V.ref).length:Nat)>(1:Int) then (((rs.map V.ref).length:Nat):Int) else 1)=z/\z=((max 1 rs.length:Nat):Int):=⟨_,rfl,by rw[Zq];split<;>lia⟩
 rw[hz];refine⟨(by show(0:Int)<z;omega),?_⟩;obtain⟨q0,hq0,hq1⟩:∃q0:Nat,c / 9%z=(q0:Int)/\q0<max 1 rs.length:=by
  rw[hz1];exact wJ _ (by omega)
 show b0 8 (V.int (c / 9%z)) _ _ _;rw[hq0];dsimp only[b0];generalize hw:c%9=w';generalize hsm:c / 9=sm;have j0:∀{F:Prop},JP H r c m l s pB w' sm q0 (B+1) F [some (.ref r),some (.int c),some (vn m),some l,some s,some (.ref pB),some (.int w'),some (.int sm),some (.int q0),none,none,none] H1:=⟨rs,rfl,g1,eB,by lia,pk,.inl hq1⟩
 refine via (JP H r c m l s pB w' sm q0 (B+1) False) (λnx=>?_) ?_
 ·refine i2 (λd=>?_) (λd=>iF (nx _ _ j0));refine⟨(by show 0<=ZW;decide),λp hp=>?_⟩;have gp:=aB hp (.lst []);have eB2:=gp _ _ eB;have pk2:∀x∈rs,Pok (upd H1 p (.lst [])) pB x (B+3):=λx hx=>(pk x hx).mono gp;have g2:=g1.trans gp;refine uE eB2 pk2 aA λb hb=>?_;generalize upd H1 p (.lst [])=H2 at gp eB2 pk2 g2;cases b with
  |false=>exact iFb (by rfl) (nx _ _ ⟨rs,rfl,g2,eB2,by lia,pk2,.inl hq1⟩)
  |true =>
   have hlt:q0<rs.length:=by have:=List.length_pos_iff.mpr (hb.mp rfl);lia
   obtain⟨a,z',ns,f1,f2,f3,f4,f5⟩:=e5 _ (Zp hlt);refine iTb (by rfl) ⟨_,_,SqL.of eB2,bM (by rw[Zk,Zz hlt];rfl),⟨by decide,by decide⟩,_,a,_,z',ns,rfl,g2 _ _ f1,g2 _ _ f2,f4,by lia,λx' a' z2 ns' H3 g3 k1 k2 k3 k4 k5=>?_⟩;have eB3:=g3 _ _ eB2;refine⟨_,_,eB3,eV (by rw[Zq];exact hlt),nx _ _ ⟨rs.set q0 x',rfl,iQ (g2.trans g3) hpB,by rw[aA,ZG],by rw[ZP];lia,λx hx=>Pok.upd ?_ eB3,.inl (by rw[ZP];exact hq1)⟩⟩;rcases List.mem_or_eq_of_mem_set hx with hx | rfl
   ·exact(pk2 x hx).mono g3
   ·exact⟨a',z2,ns',k1,k2,(λe=>by rw[e,eB2]at k3;cases k3),k4,by lia⟩
 clear j0 eB g1 hq1 pk;rintro σ1 H1 ⟨rs1,rfl,g1,eB,hl1,pk,hq1⟩;have hq1:q0<max 1 rs1.length:=hq1.elim id False.elim;refine via (JP H r c m l s pB w' sm q0 (B+1) False) (λnx=>?_) ?_
 ·refine i2 (λd=>?_) (λd=>iF (nx _ _ ⟨rs1,rfl,g1,eB,hl1,pk,.inl hq1⟩));refine⟨(by show 0<=ZW;decide),λp hp=>?_⟩;have gp:=aB hp (.lst []);have eB2:=gp _ _ eB;have pk2:∀x∈rs1,Pok (upd H1 p (.lst [])) pB x (B+1+2):=λx hx=>(pk x hx).mono gp;have g2:=g1.trans gp;refine uE eB2 pk2 aA λb hb=>?_;generalize upd H1 p (.lst [])=H2 at gp eB2 pk2 g2;cases b with
  |false=>exact iFb (by rfl) (nx _ _ ⟨rs1,rfl,g2,eB2,hl1,pk2,.inl hq1⟩)
  |true =>
   have hpos:=List.length_pos_iff.mpr (hb.mp rfl);have hlt:q0<rs1.length:=by lia
   refine iTb (by rfl) ⟨_,_,SqL.of eB2,(by exact bM (j:=0) (by rw[Zk,Zz hpos];rfl)),_,_,SqL.of eB2,bM (by rw[Zk,Zz hlt];rfl),(by show 2<=ZW;decide),λtp htp=>?_⟩;have gt:=aB htp (.tup [.ref rs1[0],.ref rs1[q0]]);have eB3:=gt _ _ eB2;refine⟨_,SqT.of aA,rfl,?_⟩;dsimp only[wL,F0,LC,L0];refine⟨_,_,eB3,eV (by rw[Zq];exact hlt),?_⟩;refine⟨_,_,aA,(by exact eV (j:=0) (by rw[ZP,Zq];exact hpos)),?_⟩;refine nx _ _ ⟨(rs1.set q0 rs1[0]).set 0 rs1[q0],rfl,iQ (iQ (g2.trans gt) hpB) hpB,by rw[aA,ZG,ZG],by rw[ZP,ZP];exact hl1,λx hx=>?_,.inl (by rw[ZP,ZP];exact hq1)⟩;refine Pok.upd (Pok.upd ?_ eB3) aA;have mem:x∈rs1:=by
    rcases List.mem_or_eq_of_mem_set hx with hx | rfl
    ·rcases List.mem_or_eq_of_mem_set hx with hx | rfl
     ·exact hx
     ·exact Zp hpos
    ·exact Zp hlt
   exact(pk2 x mem).mono gt
 clear eB g1 hq1 pk hl1;rintro σ2 H2 ⟨rs1,rfl,g1,eB,hl1,pk,hq1⟩;have hq1:q0<max 1 rs1.length:=hq1.elim id False.elim;refine via (JP H r c m l s pB w' sm q0 (B+1) (w'=4)) (λnx=>?_) ?_
 ·refine i2 (λd=>?_) (λd=>iF (nx _ _ ⟨rs1,rfl,g1,eB,hl1,pk,.inl hq1⟩));refine⟨(by show 0<=ZW;decide),λp hp=>?_⟩;have gp:=aB hp (.lst []);have eB2:=gp _ _ eB;have pk2:∀x∈rs1,Pok (upd H2 p (.lst [])) pB x (B+1+2):=λx hx=>(pk x hx).mono gp;have g2:=g1.trans gp;refine uE eB2 pk2 aA λb hb=>?_;generalize upd H2 p (.lst [])=H3 at gp eB2 pk2 g2;cases b with
  |false=>exact iFb (by rfl) (nx _ _ ⟨rs1,rfl,g2,eB2,hl1,pk2,.inl hq1⟩)
  |true =>
   have hlt:q0<rs1.length:=by have:=List.length_pos_iff.mpr (hb.mp rfl);lia
   refine iTb (by rfl) ⟨.inl ⟨rfl,_,SqL.of eB2⟩,_,_,_,_,rfl,eB2,by lia,by lia,(pL (eV (by rw[Zq];exact hlt))).1,(by rw[Zk,Zz hlt];rfl),?_⟩;exact nx _ _ ⟨rs1.eraseIdx q0,rfl,iQ g2 hpB,by rw[aA,List.eraseIdx_eq_take_drop_succ,List.eraseIdx_eq_take_drop_succ,Zt,List.map_take,List.map_drop],by have:=List.length_eraseIdx_le rs1 q0;lia,λx hx=>Pok.upd (pk2 x (List.mem_of_mem_eraseIdx hx)) eB2,.inr (by have:=Yf d;cases this;rfl)⟩
 clear eB g1 hq1 pk hl1;rintro σ3 H3 ⟨rs1,rfl,g1,eB,hl1,pk,hq1⟩;refine via (JP H r c m l s pB w' sm q0 (B+2) True) (λnx=>?_) ?_
 ·have pk':∀x∈rs1,Pok H3 pB x (B+2+2):=λx hx=>(pk x hx).le (by lia);refine i2 (λd=>?_) (λd=>iF (nx _ _ ⟨rs1,rfl,g1,eB,by lia,pk',.inr trivial⟩));refine⟨(by show 0<=ZW;decide),λp hp=>?_⟩;have gp:=aB hp (.lst []);have eB2:=gp _ _ eB;have pk2:∀x∈rs1,Pok (upd H3 p (.lst [])) pB x (B+2+2):=λx hx=>(pk' x hx).mono gp;have g2:=g1.trans gp;refine uE eB2 pk2 aA λb hb=>?_;generalize upd H3 p (.lst [])=H4 at gp eB2 pk2 g2;cases b with
  |false=>exact iFb (by rfl) (nx _ _ ⟨rs1,rfl,g2,eB2,by lia,pk2,.inr trivial⟩)
  |true =>
   have h5:w'=5:=by have:=Yf d;cases this;rfl
   have hlt:q0<rs1.length:=by have:=List.length_pos_iff.mpr (hb.mp rfl);rcases hq1 with h | h<;>lia
   refine iTb (by rfl) ⟨.inl ⟨rfl,_,SqL.of eB2⟩,_,_,SqL.of eB2,bM (by rw[Zk,Zz hlt];rfl),_,0,_,rfl,eB2,YZ _,Xq (by rw[Zq];lia:_<=1001) (by decide),?_⟩;refine nx _ _ ⟨rs1[q0]::rs1,rfl,iQ g2 hpB,by rw[aA];rfl,by rw[Yq];lia,λx hx=>Pok.upd (pk2 x ?_) eB2,.inr trivial⟩;rcases Zn.mp hx with rfl | hx
   ·exact Zp hlt
   ·exact hx
 clear eB g1 hq1 pk hl1;rintro σ4 H5 ⟨rs1,rfl,g1,eB,hl1,pk,_⟩;have fin:∀{l s:V}{T:Option (Nat×List Int×List Int)}{x:Addr}{H':Hp},aJ H5 H'->ShT H' l s n T->H' x=some (.tup [l,s,.ref pB])->Q (.ref x) H':=λg sT e=>q _ _ (g1.trans g) ⟨_,_,pB,_,rs1,e,sT,g _ _ eB,by lia,λx hx=>((pk x hx).mono g).le (by lia)⟩;rcases e2.mono g1 with⟨rfl,rfl,rfl⟩ | ⟨o,sh,cA,lA,cs,ls,rfl,rfl,hS,lc,ll,rfl⟩
 ·refine⟨rfl,iTb (by rfl) ⟨(by show 3<=ZW;decide),λx hx=>fin (aB hx _) (.inl ⟨rfl,rfl,rfl⟩) aA⟩⟩
 refine⟨rfl,iFb (by rfl) ?_⟩;refine⟨_,_,SqT.of hS.tp,rfl,cA,_,rfl,.inl (SqL.of hS.c),λcB hcB=>?_⟩;have k1:=aB hcB (.lst (cs.map V.int));refine⟨_,_,SqT.of (k1 _ _ hS.tp),rfl,lA,_,rfl,.inl (SqL.of (k1 _ _ hS.l)),λlB hlB=>?_⟩;have k2:=aB hlB (.lst (ls.map V.int));have nc:H5 cB=none:=hcB;have nl:H5 lB=none:=k1.free hlB;have ne:cB≠lB:=aC aA hlB;have hl':(2*n:Nat)>0:=by lia
 dsimp only[K9,LC,L0];refine via (JS H5 r c m (.ref sh) pB w' sm q0 n) (λnx=>?_) ?_
 ·have J1:∀o:Nat,JS H5 r c m (.ref sh) pB w' sm q0 n [some (.ref r),some (.int c),some (vn m),some (vn o),some (.ref sh),some (.ref pB),some (.int w'),some (.int sm),some (.int q0),some (.ref cB),some (.ref lB),none] (upd (upd H5 cB (.lst (cs.map V.int))) lB (.lst (ls.map V.int))):=λo=>⟨o,cB,lB,cs,ls,none,rfl,k1.trans k2,k2 _ _ aA,aA,nc,nl,ne,lc,ll⟩
  refine i2 (λd=>?_) (λd=>nx _ _ (J1 o));obtain⟨j,hj,_⟩:=wJ sm hm;refine⟨(by show(0:Int)<(m:Int);lia),?_⟩;show b0 3 (V.int (sm%(m:Int))) _ _ _;rw[hj];exact nx _ _ (J1 j)
 clear k1 k2 hcB hlB nc nl ne lc ll hS;rintro σ5 H6 ⟨o,cB,lB,cs,ls,o11,rfl,g6,ec,el,nc,nl,ne,lc,ll⟩;have lcm:(cs.map V.int).length=2*n:=(Zq _).trans lc;have llm:(ls.map V.int).length=2*n:=(Zq _).trans ll;refine via (JS H5 r c m (.ref sh) pB w' sm q0 n) (λnx=>?_) ?_
 ·refine i2 (λd=>?_) (λd=>nx _ _ ⟨o,cB,lB,cs,ls,o11,rfl,g6,ec,el,nc,nl,ne,lc,ll⟩);obtain⟨j,hj,hj2⟩:=wJ sm hl';have hj':sm%(((cs.map V.int).length:Nat):Int)=(j:Int):=by rw[lcm];exact hj
  refine⟨cB,_,rfl,.inl (SqL.of ec),(by show(0:Int)<(((cs.map V.int).length:Nat):Int);rw[lcm];lia),_,_,SqL.of ec,aU (by lia) hj',(by show 2<=ZW;decide),λtp htp=>?_⟩;have gt:=aB htp (.lst [V.int 1,V.int (-1)]);obtain⟨dd,hdd⟩:=KG (sm / 64);refine⟨⟨by decide,by decide⟩,(by show(0:Int)<2;decide),_,_,SqL.of aA,hdd,?_⟩;refine⟨cB,_,rfl,.inl (SqL.of (gt _ _ ec)),(by show(0:Int)<(((cs.map V.int).length:Nat):Int);rw[lcm];lia),_,j,gt _ _ ec,by show ixN _ (sm%(((cs.map V.int).length:Nat):Int))=_;rw[hj'];exact eV (by lia),?_⟩;exact nx _ _ ⟨o,cB,lB,cs.set j _,ls,o11,rfl,iQ (g6.trans gt) nc,by rw[aA,ZG],by rw[aE (Yh ne)];exact gt _ _ el,nc,nl,ne,by rw[ZP];exact lc,ll⟩
 clear ec el nc nl ne lc ll lcm llm g6;rintro σ6 H7 ⟨o,cB,lB,cs,ls,o11,rfl,g6,ec,el,nc,nl,ne,lc,ll⟩;have llm:(ls.map V.int).length=2*n:=(Zq _).trans ll;refine via (JS H5 r c m (.ref sh) pB w' sm q0 n) (λnx=>?_) ?_
 ·have j0:=nx _ _ ⟨o,cB,lB,cs,ls,o11,rfl,g6,ec,el,nc,nl,ne,lc,ll⟩;refine i2 (λd=>⟨(by show(0:Int)<2;decide),i2 (λd2=>?_) (λd2=>j0)⟩) (λd=>iF j0);obtain⟨j,hj,hj2⟩:=wJ (sm / 2) hl';have hj':sm / 2%(((ls.map V.int).length:Nat):Int)=(j:Int):=by rw[llm];exact hj
  refine⟨⟨by decide,by decide⟩,lB,_,rfl,.inl (SqL.of el),(by show(0:Int)<(((ls.map V.int).length:Nat):Int);rw[llm];lia),_,_,SqL.of el,aU (by lia) hj',(by show 2<=ZW;decide),λtp htp=>?_⟩;have gt:=aB htp (.lst [V.int 1,V.int (-1)]);obtain⟨dd,hdd⟩:=KG (sm / 128);refine⟨⟨by decide,by decide⟩,(by show(0:Int)<2;decide),_,_,SqL.of aA,hdd,?_⟩;refine⟨⟨by decide,by decide⟩,lB,_,rfl,.inl (SqL.of (gt _ _ el)),(by show(0:Int)<(((ls.map V.int).length:Nat):Int);rw[llm];lia),_,j,gt _ _ el,by show ixN _ (sm / 2%(((ls.map V.int).length:Nat):Int))=_;rw[hj'];exact eV (by lia),?_⟩;exact nx _ _ ⟨o,cB,lB,cs,ls.set j _,o11,rfl,iQ (g6.trans gt) nl,by rw[aE ne];exact gt _ _ ec,by rw[aA,ZG],nc,nl,ne,lc,by rw[ZP];exact ll⟩
 clear ec el nc nl ne lc ll llm g6;rintro σ7 H8 ⟨o,cB,lB,cs,ls,o11,rfl,g6,ec,el,nc,nl,ne,lc,ll⟩;have llm:(ls.map V.int).length=2*n:=(Zq _).trans ll;refine via (JS H5 r c m (.ref sh) pB w' sm q0 n) (λnx=>?_) ?_
 ·have j0:=nx _ _ ⟨o,cB,lB,cs,ls,o11,rfl,g6,ec,el,nc,nl,ne,lc,ll⟩;refine i2 (λd=>⟨(by show(0:Int)<2;decide),i2 (λd2=>?_) (λd2=>j0)⟩) (λd=>iF j0);obtain⟨j,hj,hj2⟩:=wJ (sm / 2) hn;have hj':sm / 2%((((ls.map V.int).length:Nat):Int) / 2)=(j:Int):=by rw[llm,show(((2*n:Nat):Int) / 2)=(n:Int) by lia];exact hj
  refine⟨⟨by decide,by decide⟩,lB,_,rfl,.inl (SqL.of el),⟨by decide,by decide⟩,(by show(0:Int)<(((ls.map V.int).length:Nat):Int) / 2;rw[llm];lia),?_⟩;show b0 11 (V.int (sm / 2%((((ls.map V.int).length:Nat):Int) / 2))) _ _ _;rw[hj'];dsimp only[b0];have e0:(2:Int)*(j:Int)=((2*j:Nat):Int):=by lia
  have e1:(2:Int)*(j:Int)+1=((2*j+1:Nat):Int):=by lia
  refine⟨.inl ⟨by decide,by decide⟩,_,_,SqL.of el,aU (j:=2*j) (by lia) e0,.inl ⟨by decide,by decide⟩,_,2*j,el,fV (by lia) e0,?_⟩;have er:∀v:Int,upd H8 lB (.lst ((ls.map V.int).set (2*j) (.int v))) lB=some (.lst ((ls.set (2*j) v).map V.int)):=λv=>by rw[aA,ZG]
  refine⟨.inl ⟨by decide,by decide⟩,_,_,SqL.of (er _),aU (j:=2*j+1) (by rw[ZP];lia) e1,.inl ⟨by decide,by decide⟩,_,2*j+1,er _,fV (by rw[Zq,ZP];lia) e1,?_⟩;exact nx _ _ ⟨o,cB,lB,cs,(ls.set (2*j) (at0 ls (2*j)+1)).set (2*j+1) (at0 (ls.set (2*j) (at0 ls (2*j)+1)) (2*j+1)+1),_,rfl,iQ (iQ g6 nl) nl,by rw[aE ne,aE ne];exact ec,by rw[aA];simp only[ZG],nc,nl,ne,lc,by rw[ZP,ZP];exact ll⟩
 clear ec el nc nl ne lc ll llm g6;rintro σ8 H9 ⟨o,cB,lB,cs,ls,o11,rfl,g6,ec,el,nc,nl,ne,lc,ll⟩;refine i2 (λd=>⟨⟨by decide,by decide⟩,(by show(0:Int)<8;decide),i2 (λd2=>?_) (λd2=>?_)⟩) (λd=>iF ?_)
 ·exact⟨(by show 3<=ZW;decide),λx hx=>fin (g6.trans (aB hx _)) (.inl ⟨rfl,rfl,rfl⟩) aA⟩
 all_goals exact⟨(by show 2<=ZW;decide),λs2 hs2=>⟨(by show 3<=ZW;decide),λx hx=>fin (g6.trans ((aB hs2 _).trans (aB hx _))) (.inr ⟨o,s2,cB,lB,cs,ls,rfl,rfl,⟨aB hx _ _ _ aA,aB hx _ _ _ (aB hs2 _ _ _ ec),aB hx _ _ _ (aB hs2 _ _ _ el)⟩,lc,ll,rfl⟩) aA⟩⟩
def NU:Sp:=λvs H Q _=>∃(wa p pl:Addr) (ts:MM.aV) (os:MM.aR) (ws:List Int) (bs ss:List (Option Int)) (l s:V) (T:Option (Nat×List Int×List Int)) (ps:List (Str×List Int)),vs=[.ref wa,.ref p,l,s,.ref pl]/\Wd H wa p ts os ws bs ss/\ShT H l s ts.length T/\lZ H pl ps/\ps.length<=1000/\(∀u∈ps,u.2.length<60) /\
 ∀H' b,aJ H H'->(b=true↔BE ts os ws bs ss T ps)->Q (.bl b) H'
theorem IU(T:Txt K mg t):Ok P w base T 95 6 NU:=by
 left
 obtain⟨wa,p,pl,ts,os,ws,bs,ss,l,s,To,ps,rfl,W,hT,hps,hlen,h60,q⟩:=h;obtain⟨wA,bA,sA,hW⟩:=W.w;obtain⟨tA,oA,hw,hts,hos⟩:=id W.web;refine⟨_,(by exists e9,4,iS,aG,0,aG,0,fX,3,bH ?_ (λ_=>rfl),vS,0,2,3,bH ?_ (λ_=>rfl),B8,1,3,cL rfl (T.z 3) ?_,4,5,6,7,IV,0,5,1,bY,aG,6,bH ?_ (λ_=>rfl),IX,7,aG,6,e9,aG,6,eX,3,e9,aG,6,aG,7,8,B9,7,aG,6,eX,8,8,FD,1,3),?_⟩;obtain⟨rs,hp,hrl,hrow⟩:=id hps;have t40:=W.t40;refine⟨pl,_,rfl,.inl (SqL.of hp),_,.ref tA,SqT.of hw,rfl,_,.ref oA,SqT.of hw,rfl,tA,oA,ts,os,rfl,hts,hos,W.g,by lia,λla lr H3 g3 nos=>?_⟩;have ll:(lr.map V.ref).length=nL ts os:=(Zq V.ref).trans nos.len;have lr':(rs.map V.ref).length=ps.length:=(Zq V.ref).trans hrl;refine⟨la,_,rfl,.inl (SqL.of nos.at_),i2 (λd=>?_) (λd=>?_)⟩
 ·exact q _ _ g3 ⟨λe=>(by cases e),λh=>by rw[ll,lr',h.len]at d;simp at d⟩
 have hll:ps.length=nL ts os:=ZS λe=>d (by rw[ll,lr'];simp;lia);have fit:∀{cs ls:List Int},cs.length=2*ts.length->ls.length=2*ts.length->Fit ts.length ws bs ss cs ls:=λa b=>⟨W.l1,W.l2,W.l3,a,b,by lia,W.ok.w⟩
 dsimp only[zT];refine via (λσ' H'=>σ'=[some (.ref wa),some (.ref p),some l,some s,some (.ref pl),none,none,none,none]/\aJ H H'/\∀o cs ls,To=some (o,cs,ls)->MM.nC ts os o cs ls/\l0 bs ss cs ls ts.length) (λnx=>?_) ?_
 ·rcases hT with⟨rfl,rfl,rfl⟩ | ⟨o,sh,cA,lA,cs,ls,rfl,rfl,hS,lc,ls2,rfl⟩
  ·exact⟨rfl,iFb (by rfl) (iF (nx _ _ ⟨rfl,g3,λ_ _ _ e=>by cases e⟩))⟩
  refine⟨rfl,iTb (by rfl) ?_⟩;have S3:=hS.mono g3;have W3:=W.mono g3;refine⟨wa,sh,cA,lA,o,ts,os,cs,ls,rfl,W3.web,W.g,W.t40,W.o40,S3.tp,S3.c,S3.l,λH4 g4=>?_⟩;have g34:=g3.trans g4;cases hs:MM.shB ts os o cs ls with
  |false=>exact⟨_,rfl,iFb (by rfl) (iTb rfl (q _ _ g34 ⟨λe=>(by cases e),λh=>by rw[MM.AD (h.shp _ _ _ rfl).1]at hs;cases hs⟩))⟩
  |true =>
  refine⟨_,rfl,iTb (by rfl) ?_⟩;refine⟨p,wA,bA,sA,sh,cA,lA,ts.length,ws,bs,ss,cs,ls,rfl,hW.mono g34,hS.mono g34,fit lc ls2,λH5 g5=>?_⟩;have g35:=g34.trans g5;cases hk:iM bs ss cs ls ts.length with
  |false=>exact⟨_,rfl,iTb (by rfl) (q _ _ g35 ⟨λe=>(by cases e),λh=>by rw[mR (h.shp _ _ _ rfl).2]at hk;cases hk⟩)⟩
  |true=>exact⟨_,rfl,iFb (by rfl) (nx _ _ ⟨rfl,g35,λo' cs' ls' e=>by cases e;exact⟨EB hs,tF hk⟩⟩)⟩
 rintro σ' H4 ⟨rfl,g4,hshp⟩;have no:∀{H':Hp},aJ H H'->(∃(k:Nat) (u:Str×List Int),ps[k]?=some u/\¬C1 ts os ws bs ss To k u)->Q (.bl false) H':=λg ⟨k,u,hk,hn⟩=>q _ _ g ⟨λe=>(by cases e),λh=>Yg (h.pap k u hk) hn⟩
 let Pv1:Nat->L2.St->L2.Hp->Prop:=λi σ H'=>(∀k,k<i->∀u,ps[k]?=some u->C1 ts os ws bs ss To k u)/\aJ H H'/\∃o5 o6 o7 o8:Option V,σ=[some (.ref wa),some (.ref p),some l,some s,some (.ref pl),o5,o6,o7,o8]
 refine⟨pl,rfl,⟨_,SqL.of (g4 _ _ hp)⟩,dD (xs:=rs.map V.ref) Pv1 ⟨λk h=>Yg h (by lia),g4,_,_,_,_,rfl⟩
  (λi σ H' _ h=>SqL.of (h.2.1 _ _ hp)) ?_ ?_⟩
 ·rintro i y σ H5 Tp hy ⟨hk,g5,o5,o6,o7,o8,rfl⟩ hTp;have hi:i<rs.length:=by have:=(Zj.mp hy).1;rwa [Zq]at this
  obtain⟨u,hu,hx⟩:∃u,ps[i]?=some u/\j8 H rs[i] u.1 u.2:=by
   obtain⟨x,e1,e2⟩:=hrow i _ (Zz (hrl▸hi));rw[Zz hi]at e1;cases e1;exact⟨_,Zz (hrl▸hi),e2⟩
  have hu60:=h60 u (Zg hu);rw[Zk,Zz hi]at hy;cases hy;have g6:=g5.trans (aB hTp (.tup [vn i,.ref rs[i]]));obtain⟨z,ns⟩:=u;obtain⟨a,e1,e2⟩:=hx;refine⟨_,SqT.of aA,rfl,?_⟩;have step:C1 ts os ws bs ss To i (z,ns)->∀k,k<i+1->∀u,ps[k]?=some u->C1 ts os ws bs ss To k u:=λh k hk1 u' hu'=>by
   by_cases e:k=i
   ·subst e;rw[hu]at hu';cases hu';exact h
   ·exact hk k (by lia) u' hu'
  have W6:=W.mono g6;refine⟨wa,p,wA,bA,sA,os.length,i,ts,os,ws,bs,ss,rfl,W6.web,W.g,W.t40,W.o40,(by show i<nL ts os;lia),hW.mono g6,W.l1,W.l2,W.l3,λnt na wl nm H7 g7 hnum hN=>?_⟩;obtain⟨nok,nlen,wlen⟩:=uD W.g W.f W.t40 (o:=i) (by show i<nL ts os;lia) hnum W.l1 W.ok (bs:=bs) (ss:=ss);have f7:=g6.trans g7;refine⟨_,_,SqT.of (f7 _ _ e1),rfl,i2 (λd=>?_) (λd=>?_)⟩
  ·have d':V.str z=V.str "none":=Yf d;cases d';refine⟨_,_,SqT.of (f7 _ _ e1),rfl,nt,na,wl,a,_,_,ns,rfl,hN,nok,f7 _ _ e2,hu60,λH8 g8=>?_⟩;cases hb:wB (cM os.length (LL ts os) i) ns (fO os.length ts nm ws bs ss) with
   |false =>
    refine⟨_,rfl,iTb (by rfl) (no (f7.trans g8) ⟨i,_,hu,λh=>?_⟩)⟩;rcases h with⟨_,nm',n',l'⟩ | ⟨_,_,_,_,e,_⟩
    ·cases hnum.uniq W.g n';rw[uH l']at hb;cases hb
    ·exact Yg (show(ZT "none" : Str)=ZT "prices" from e) (by decide +kernel)
   |true=>exact⟨_,rfl,iFb (by rfl) ⟨step (.inl ⟨rfl,nm,hnum,AO hb⟩),f7.trans g8,_,_,_,_,rfl⟩⟩
  have zn:z≠"none":=λe=>d (Ye (congrArg V.str e));have nno:¬NoQ ts os i ws bs ss z ns:=λh=>zn h.1;refine⟨_,_,SqT.of (f7 _ _ e1),rfl,i2 (λd2=>?_) (λd2=>?_)⟩
  ·have d':z≠"prices":=λe=>by subst e;exact Yg d2 (by show ¬(!decide (V.str (ZT "prices")=V.str (ZT "prices")))=true;decide +kernel)
   exact iTb rfl (no f7 ⟨i,_,hu,λh=>h.elim nno λ⟨_,_,_,_,e,_⟩=>d' e⟩)
  have d':z="prices":=ZS λe=>d2 (by simpa using e);subst d';rcases hT with⟨rfl,rfl,rfl⟩ | ⟨o,sh,cA,lA,cs,ls,rfl,rfl,hS,lc,ls2,rfl⟩
  ·exact⟨rfl,iTb rfl (iTb rfl (no f7 ⟨i,_,hu,λh=>h.elim nno λ⟨_,_,_,e,_⟩=>(by cases e)⟩))⟩
  refine⟨rfl,iFb rfl ?_⟩;have lw:∀{c:Int},GO ts os i ws bs ss "prices" ns c↔∃m,bdO ts os i nm ws bs ss ns=some m/\c<=m:=⟨λ⟨_,nm',m,n',e,l⟩=>by cases hnum.uniq W.g n';exact⟨m,e,l⟩,λ⟨m,e,l⟩=>⟨rfl,nm,m,hnum,e,l⟩⟩
  have bad:∀{H':Hp},aJ H H'->(∀m,bdO ts os i nm ws bs ss ns=some m->¬costOf ws ls ts.length<=m)->Q (.bl false) H':=λg h=>no g ⟨i,_,hu,λh2=>h2.elim nno λ⟨_,_,_,e,y⟩=>by cases e;obtain⟨m,e,l⟩:=lw.mp y;exact h m e l⟩;refine⟨_,_,SqT.of (f7 _ _ e1),rfl,a,_,rfl,.inl (SqL.of (f7 _ _ e2)),_,_,SqT.of hN.tp,rfl,na,_,rfl,.inl (SqL.of hN.n),i2 (λd3=>?_) (λd3=>?_)⟩
  ·refine bad f7 λm e=>?_;unfold bdO at e;rw[Ya (λh=>by rw[Zq,Zq,h]at d3;simp at d3)]at e;cases e
  have hlen2:ns.length=(cM os.length (LL ts os) i).length:=ZS λe=>d3 (by rw[Zq,Zq];simp;lia);refine⟨_,_,SqT.of (f7 _ _ e1),rfl,nt,na,wl,a,_,_,ns,rfl,hN,nok,f7 _ _ e2,hlen2,λH8 g8=>?_⟩;have f8:=f7.trans g8;have eb:bnd (least ns) (fO os.length ts nm ws bs ss) (dot ns (cM os.length (LL ts os) i) (cM os.length (LL ts os) i).length)=bdO ts os i nm ws bs ss ns:=by
   unfold bdO;rw[Yb hlen2];exact nZ (f:=least ns) (g:=due ns) _ _ λw hw=>tD ns w λh e=>((nok.w w hw).hi h e).1
  rw[eb];cases hb:bdO ts os i nm ws bs ss ns with
  |none=>exact⟨rfl,iTb rfl (iTb rfl (bad f8 λm e=>by rw[hb]at e;cases e))⟩
  |some m =>
   refine⟨rfl,iFb rfl ?_⟩;refine⟨p,wA,bA,sA,sh,cA,lA,ts.length,ws,bs,ss,cs,ls,rfl,hW.mono f8,hS.mono f8,fit lc ls2,λH9 g9=>i2 (λd4=>?_) (λd4=>?_)⟩
   ·have:m<costOf ws ls ts.length:=Yf d4;exact bad (f8.trans g9) λm' e=>by rw[hb]at e;cases e;lia
   ·have:¬m<costOf ws ls ts.length:=λz=>d4 (Ye z);exact⟨step (.inr ⟨_,_,_,rfl,lw.mpr ⟨m,hb,by lia⟩⟩),f8.trans g9,_,_,_,_,rfl⟩
 ·rintro σ H5 ⟨hk,g5,o5,o6,o7,o8,rfl⟩;rw[Zq,hrl]at hk;exact q _ _ g5 ⟨λ_=>⟨hll,hshp,λk u hu=>hk k (Zj.mp hu).1 u hu⟩,λ_=>rfl⟩
end K32
namespace L2
open PySem PyProof.Rows
theorem gM.toI{H:Hp}{a:Addr}{ts:MM.aV}(h:gM H a ts):TsI H a (AW.cT ts):=by
 obtain⟨tr,h1,h2,h3⟩:=h;refine⟨tr,h1,by rw[h2,AW.cT,Zq],λi t e=>?_⟩;rw[AW.cT,Zk]at e;cases c:ts[i]? with
 |none=>rw[c]at e;cases e
 |some u=>rw[c]at e;cases e;exact h3 i u c
theorem oH.toI{H:Hp}{a:Addr}{os:MM.aR}(h:oH H a os):OsI H a (AW.cO os):=by
 obtain⟨tr,h1,h2,h3⟩:=h;refine⟨tr,h1,by rw[h2,AW.cO,Zq],λi t e=>?_⟩;rw[AW.cO,Zk]at e;cases c:os[i]? with
 |none=>rw[c]at e;cases e
 |some u =>
  rw[c]at e;cases e;obtain⟨r,q1,q2⟩:=h3 i u c;exact⟨r,q1,by rw[q2,Ym];rfl⟩
theorem NI{H:Hp}{r tA oA:Addr}{ts:MM.aV}{os:MM.aR}(h1:H r=some (.tup [vn os.length,.ref tA,.ref oA]))(h2:gM H tA ts)(h3:oH H oA os):xG H r os.length (AW.cT ts) (AW.cO os):=⟨tA,oA,h1,h2.toI,h3.toI⟩
end L2
namespace K32
open PySem L2 PyProof.Rows NM
def KD:Sp:=λvs H Q _=>∃(sa:Addr) (ns:List Int),vs=[.ref sa]/\SqL H sa (ns.map V.int)/\ns.length<=63/\∀H',Q (.bl true) H'
theorem MP(T:Txt K mg t):Ok P w base T 96 lawK (KD):=by
 left
 obtain⟨sa,ns,rfl,hS,_,q⟩:=h;refine⟨_,(by exists 1,IW,0,2,yP,1,i8,0,3,JC,1,2,bY,dG,i8,0,aX,dG,i8,0,4,3,MO,3,dG,i8,0,aX,4,iS,aG,1,aG,1,dF ?_ ?_,3,5,6,7,(e8 8 ["_law_word","_law_some"] [none,none]),a7 ?_,7,0,1,0,bS dE rfl (T.z 7) boot_list ?_,1,9,E4,1,2,5,6,8,10,IU,1,2,5,6,7,lR ?_ ?_,aN GH rfl (T.z 5) boot_isinstance ?_,9,IK (v:=.ty "bool") rfl (T.z 2) boot_bool rfl,lR ?_ ?_,bY,9,10,lQ ?_,(yN hr.units),8,7),?_⟩;refine⟨sa,ns,6,8,rfl,hS,by decide,by decide,λr tA oA rr0 ts os H1 g1 hr1 hM gd tl ol t16 fc=>?_⟩;have hW1:dW H1 r os.length ts os:=⟨tA,oA,hr1,hM.ts,hM.os.os⟩
 have hmp:AW.BH os.length (AW.cT ts) (AW.cO os):=AW.OM gd fc.conn (by lia) (by lia);have one:=gd.one;refine⟨sa,ns,8,rfl,g1.seq hS,by decide,λc8=>⟨r,os.length,ts,os,c8,rfl,hW1,by lia,by lia,λp wA bA sA ws bs ss H2 g2 hW2 lw lb lss ok=>?_⟩⟩;have hWeb2:=hW1.mono g2;obtain⟨tA',oA',hr2,hts2,hos2⟩:=id hWeb2;have hS2:=(g1.trans g2).seq hS;have mp:Mp H2 r ts os:=⟨NI hr2 hts2 hos2,hmp,gd⟩
 have wd:Wd H2 r p ts os ws bs ss:=⟨hWeb2,gd,fc.flat,tl,ol,⟨_,_,_,hW2⟩,lw,lb,lss,ok⟩
 clear hS g1 hW1 hM hr1 g2 hWeb2 hW2;refine⟨r,p,ts,os,ws,bs,ss,rfl,mp,wd,λr3 H3 g3 hT=>?_⟩;have nb:nL ts os<=42:=by
  have:os.length+nL ts os=ts.length+2:=fc.flat
  lia
 have pos:0<nL ts os:=by
  obtain⟨nm,hn⟩:=FK gd;have:=uB gd hn (e:=0) (by lia);show 0<(LL ts os).length
  lia
 dsimp only[b0];refine via (λσ' H'=>∃(r4:Addr) (o4:Option V),σ'=[some (.ref sa),some (.ref r),some (.ref p),some (.ref r4),o4,none,none,none,none,none,none]/\aJ H2 H'/\lE H' r4 ts.length 55) (λnx=>?_) ?_
 ·have le55:∀{B:Nat}{x:Addr}{H':Hp},B<=55->lE H' x ts.length B->lE H' x ts.length 55:=λhB ⟨l,s,pA,T,rs,e1,e2,e3,e4,e5⟩=>⟨l,s,pA,T,rs,e1,e2,e3,by lia,λx hx=>(e5 x hx).le hB⟩
  refine⟨sa,ns,9,rfl,g3.seq hS2,by decide,λc9=>⟨c9,0,rfl,by decide,by decide,λm0 _ _=>⟨(by show(0:Int)<2;decide),i2 (λ_=>?_) (λ_=>nx _ _ ⟨r3,none,rfl,g3,le55 (by lia) hT⟩)⟩⟩⟩;refine⟨sa,ns,9,rfl,g3.seq hS2,by decide,λc9'=>⟨c9',1,rfl,by decide,by decide,λm1 _ _=>⟨(by show(0:Int)<3;decide),?_⟩⟩⟩;have b1:=Xw m1 (show(3:Int)≠0 by decide);have b2:=Xx m1 (show(0:Int)<3 by decide);obtain⟨n,hn,hn3⟩:∃n:Nat,1+m1%3=(n:Int)/\n<=3:=⟨(1+m1%3).toNat,by lia,by lia⟩
  refine⟨1+m1%3,rfl,by lia,by lia,?_⟩;rw[hn]
  let Pv1:Nat->L2.St->L2.Hp->Prop:=λi σ H'=>∃(r4:Addr) (o4:Option V),σ=[some (.ref sa),some (.ref r),some (.ref p),some (.ref r4),o4,none,none,none,none,none,none]/\aJ H2 H'/\lE H' r4 ts.length (43+4*i)
  refine cZ (lo:=0) (n:=((n:Nat):Int).toNat) Pv1 ⟨r3,none,rfl,g3,hT⟩ ?_ ?_
  ·rintro i σ H4 hi ⟨r4,o4,rfl,g4,hT4⟩;refine⟨sa,ns,10+(0+(i:Int)),rfl,g4.seq hS2,by lia,λc=>⟨c,0,rfl,by decide,by decide,λm _ _=>?_⟩⟩;obtain⟨tB,oB,hr4,hts4,hos4⟩:=wd.web.mono g4;refine⟨_,.ref tB,SqT.of hr4,rfl,_,.ref oB,SqT.of hr4,rfl,tB,oB,ts,os,rfl,hts4,hos4,gd,by lia,λla lr H8 g8 nos=>?_⟩;have ll:(lr.map V.ref).length=nL ts os:=(Zq V.ref).trans nos.len;refine⟨la,_,rfl,.inl (SqL.of nos.at_),r4,m,(lr.map V.ref).length,ts.length,43+4*i,rfl,by lia,by lia,by lia,by lia,hT4.mono g8,λr5 H5 g5 hT5=>?_⟩;exact⟨r5,_,rfl,g4.trans (g8.trans g5),hT5⟩
  ·rintro σ H4 ⟨r4,o4,rfl,g4,hT4⟩;exact nx _ _ ⟨r4,o4,rfl,g4,le55 (by lia) hT4⟩
 clear hT g3;rintro σ1 H4 ⟨r4,o4,rfl,g4,l,s,pA,To,rs,e1,sT,e3,e4,e5⟩;obtain⟨ps,hrl,hrow,hps⟩:=t7 e5;refine⟨_,SqT.of e1,rfl,?_⟩;dsimp only[wL,F0,b0,LC,L0];refine⟨⟨_,SqL.of e3⟩,λD hD=>?_⟩
 let Pv2:Nat->List L2.V->L2.Hp->Prop:=λi ys H'=>aJ H4 H'/\H' D=some (.lst ys)/\∃rl:List Addr,ys=rl.map V.ref/\rl.length=i/\∀(j:Nat) u,j<i->ps[j]?=some u->∃x a,rl[j]?=some x/\H' x=some (.tup [.str u.1,.ref a])/\H' a=some (.lst (u.2.map V.int))/\a≠D
 refine comp_map rs.length Pv2 ⟨aB hD _,aA,[],rfl,rfl,λj a h=>Yg h (by lia)⟩ ?_ ?_
 ·rintro i ys H' hi ⟨g9,eD,rl,rfl,hl,hrl2⟩;have hp9:=g9 _ _ e3;refine⟨⟨_,_,SqL.of hp9,by rw[Zk,Zz hi];rfl⟩,?_⟩;rintro x H'' ⟨rfl,hx⟩;have ex:=hx _ (SqL.of hp9);rw[Zk,Zz hi]at ex;cases ex;obtain⟨x,ex1,a,f1,f2⟩:=hrow i _ (Zz (hrl▸hi));rw[Zz hi]at ex1;cases ex1;refine⟨_,SqT.of (g9 _ _ f1),rfl,((Fills.refl _).set _ rfl).set _ rfl,?_⟩;refine⟨a,_,rfl,.inl (SqL.of (g9 _ _ f2)),λl2 hl2=>⟨(by show 2<=ZW;decide),λtp htp=>?_⟩⟩;have k1:=aB hl2 (.lst ((ps[i]'(hrl▸hi)).2.map V.int));have k2:=aB htp (.tup [.str (ps[i]'(hrl▸hi)).1,.ref l2]);have k12:=k1.trans k2;have eD2:=k12 _ _ eD;have e5':(upd (upd H'' l2 (.lst ((ps[i]'(hrl▸hi)).2.map V.int))) tp (.tup [.str (ps[i]'(hrl▸hi)).1,.ref l2])) tp=some (.tup [.str (ps[i]'(hrl▸hi)).1,.ref l2]):=aA;have e6:(upd (upd H'' l2 (.lst ((ps[i]'(hrl▸hi)).2.map V.int))) tp (.tup [.str (ps[i]'(hrl▸hi)).1,.ref l2])) l2=some (.lst ((ps[i]'(hrl▸hi)).2.map V.int)):=k2 _ _ aA;have nl2:l2≠D:=(aC eD hl2).symm;refine⟨eD2,Xq (by rw[Zq];lia:_<=100) (by decide),λb o h=>by rw[aE (aC h hD)];exact k12 _ _ (g9 _ _ h),aA,rl++[tp],by rw[Zt];rfl,by simp[hl],λj u hj hu=>?_⟩;have neD:∀{y:Addr}{xs:List V},(upd (upd H'' l2 (.lst ((ps[i]'(hrl▸hi)).2.map V.int))) tp (.tup [.str (ps[i]'(hrl▸hi)).1,.ref l2])) y=some (.tup xs)->y≠D:=λh z=>by rw[z,eD2]at h;cases h
  by_cases e:j=i
  ·subst e;rw[Zz (hrl▸hi)]at hu;cases hu;exact⟨tp,l2,by rw[<-hl];simp,by rw[aE (neD e5')];exact e5',by rw[aE nl2];exact e6,nl2⟩
  ·obtain⟨y,a',q1,q2,q3,q4⟩:=hrl2 j u (by lia) hu;have q2':=k12 _ _ q2;exact⟨y,a',by rw[Zx (by lia)];exact q1,by rw[aE (neD q2')];exact q2',by rw[aE q4];exact k12 _ _ q3,q4⟩
 rintro ys H5 ⟨g9,eD,rl,rfl,hl,hrl2⟩;refine⟨⟨_,SqL.of (g9 _ _ e3),by rw[Zq];exact ZC _⟩,?_⟩;dsimp only[b0];have hG:lZ H5 D ps:=⟨rl,eD,by lia,λk u hk=>by
  obtain⟨x,a,q1,q2,q3,_⟩:=hrl2 k u (by have:=(Zj.mp hk).1;lia) hk;exact⟨x,q1,a,q2,q3⟩⟩
 have hP:lZ H5 pA ps:=⟨rs,g9 _ _ e3,hrl,λk u hk=>let⟨x,e,f⟩:=hrow k u hk;⟨x,e,f.mono g9⟩⟩
 have g5:=g4.trans g9;have h60:∀u∈ps,u.2.length<60:=λu hu=>by have:=(hps u hu).2;lia
 refine⟨r,p,D,ts,os,ws,bs,ss,l,s,To,ps,rfl,wd.mono g5,sT.mono g9,hG,by lia,h60,λH6 b1 g6 hb1=>?_⟩;refine⟨r,p,pA,ts,os,ws,bs,ss,l,s,To,ps,rfl,wd.mono (g5.trans g6),sT.mono (g9.trans g6),hP.mono g6,by lia,h60,λH7 b2 g7 hb2=>?_⟩;have eb:b1=b2:=(AZ hb1).trans (AZ hb2).symm;subst eb;obtain⟨rl',d1,d2,d3⟩:=hG.mono (g6.trans g7);obtain⟨rs',c1,c2,c3⟩:=hP.mono (g6.trans g7);have sh:=qA (ps:=ps) λu hu=>(hps u hu).1;refine⟨_,"bool","bool",rfl,rfl,.inr (.inr (.inr rfl)),iTb (by rfl) (iTb (by simp) ⟨_,_,.lst (SqL.of d1) (qM d2 d3),.lst (SqL.of c1) (qM c2 c3),sh,sh,?_⟩)⟩;rw[SeqAt.eqv_refl _ (SeqAt.canLay_of_shaped sh)];exact q _
end K32
namespace PySem.W.Fast
def tw927692334218049887:Nat:=0
def tw1838543800023481416:Nat:=0
def tw17337975091620324168:Nat:=0
def tw6007890146191951316:Nat:=0
def tw17162454065621920807:Nat:=0
def tw9895412344739917984:Nat:=0
def tw1014769593176227903:Nat:=0
def tw4213903032885101202:Nat:=0
def tw11139556223759489102:Nat:=0
def tw8169467454183713165:Nat:=0
def tw6573242676509282577:Nat:=0
def tw2143092194415045855:Nat:=0
def tw7628442457543789296:Nat:=0
def tw13280868350063142089:Nat:=0
def tw12007160734837828290:Nat:=0
def tw345219250245959363:Nat:=0
def tw5005526346686775708:Nat:=0
def tw18226908991594325539:Nat:=0
def tw14544699045265301362:Nat:=0
def tw14204586689286862724:Nat:=0
def tw10220702479306731101:Nat:=0
def tw125906799840722023:Nat:=0
def tw7397268795530247512:Nat:=0
def tw10642727469435880969:Nat:=0
def tw17851859966027627041:Nat:=0
def tw3780283522528751854:Nat:=0
def tw6739804081209356561:Nat:=0
def tw4001273206540741905:Nat:=0
def tw9426979910544163405:Nat:=0
def tw3412299697411814665:Nat:=0
def tw13302043579158033585:Nat:=0
def tw6621470578215664529:Nat:=0
def tw1132798300645120549:Nat:=0
def tw5544233794592049537:Nat:=0
def tw16888240454686929256:Nat:=0
def tw713445814983818071:Nat:=0
def tw9925440065693244853:Nat:=0
def tw16509741276815242406:Nat:=0
def tw15763103102052270225:Nat:=0
def tw6252291477600978425:Nat:=0
def tw15147131149961490099:Nat:=0
def tw7219602619340671913:Nat:=0
def tw16058633699416372541:Nat:=0
def tw9498302764369956530:Nat:=0
def tw9640005895167907134:Nat:=0
def tw1803414625586196612:Nat:=0
def tw6697483454608822109:Nat:=0
def tw8169476368016407898:Nat:=0
def tw2828998572296911574:Nat:=0
def tw2769271283686146704:Nat:=0
def tw8854219229184386266:Nat:=0
def tw16294752454955436054:Nat:=0
def tw15700174102180389438:Nat:=0
def tw6116092451710400619:Nat:=0
def tw16486737858639025314:Nat:=0
def tw11392472217057062232:Nat:=0
def tw14152612305024461126:Nat:=0
def tw5473366496010672989:Nat:=0
def tw2061085643566635677:Nat:=0
def tw5657467670690601355:Nat:=0
def tw17299441581509362777:Nat:=0
def tw12269469384006153380:Nat:=0
def tw17196174402298574053:Nat:=0
def tw1824183362577958421:Nat:=0
def tw14885108893657153011:Nat:=0
def tw15535771622178538909:Nat:=0
def tw4715425228670266863:Nat:=0
def tw2565466933882412439:Nat:=0
def tw4870206522157245506:Nat:=0
def tw10124445156079788347:Nat:=0
def tw13893193524004816585:Nat:=0
def tw54502044946563967:Nat:=0
def tw3293510303327868693:Nat:=0
def tw12054161861283197572:Nat:=0
def tw11925760495697900057:Nat:=0
def tw10447327319861504487:Nat:=0
def tw2596637642558438207:Nat:=0
def tw7066257315173620007:Nat:=0
def tw13580299103092317154:Nat:=0
def tw18386968760632177760:Nat:=0
def tw6348257417493540356:Nat:=0
def tw17121351288959792465:Nat:=0
def tw15706173406885758615:Nat:=0
def tw1196903761262744744:Nat:=0
def tw15163912557446408689:Nat:=0
def tw9864541205293155489:Nat:=0
def tw5860529148577637360:Nat:=0
def tw5305844629970030106:Nat:=0
def tw1729885969898639070:Nat:=0
def tw14071199634350696898:Nat:=0
def tw17786491662366184083:Nat:=0
def tw16977716148432470457:Nat:=0
def tw3643909204316681171:Nat:=0
def tw5841448398536266438:Nat:=0
def tw3347498776220007613:Nat:=0
def tw16949200911749385409:Nat:=0
def tw3968567914799446587:Nat:=0
def tw7518432007215373318:Nat:=0
def tw9533082647937912569:Nat:=0
def tw13303581009175382977:Nat:=0
def tw5225401997065962256:Nat:=0
def tw11014454716163077378:Nat:=0
def tw2548390905068075793:Nat:=0
def tw4647926116708180984:Nat:=0
def tw15526965809627981456:Nat:=0
def tw2011283406737007841:Nat:=0
def tw7549394877727457524:Nat:=0
def tw17753899206432242182:Nat:=0
def tw9235489751542952127:Nat:=0
def tw5510305886180937014:Nat:=0
def tw6088144803792742637:Nat:=0
def tw4436511250440643733:Nat:=0
def tw11073523731594718430:Nat:=0
def tw9570780366275685517:Nat:=0
def tw7836202700075081354:Nat:=0
def tw13591982017963283806:Nat:=0
def tw11902268106878653552:Nat:=0
def tw3052194198562904504:Nat:=0
def tw7293121206901039792:Nat:=0
def tw15351044682028264016:Nat:=0
def tw17977005709577694754:Nat:=0
def tw7201884857425657979:Nat:=0
def tw12898129718595720179:Nat:=0
def tw17427483282639802694:Nat:=0
def tw11416418773730769006:Nat:=0
def tw16258557448892577881:Nat:=0
def tw6109585579083930061:Nat:=0
def tw13206774070847896472:Nat:=0
def tw7079175835389204955:Nat:=0
def tw4368392034935569833:Nat:=0
def tw18415314051712221605:Nat:=0
def tw18349884488828075767:Nat:=0
def tw15703804728059324659:Nat:=0
def tw4834901951939783209:Nat:=0
def tw2706956537452610349:Nat:=0
def tw11454573542383058260:Nat:=0
def tw16793317124166974226:Nat:=0
def tw10201524202409541186:Nat:=0
def tw2128753067710686544:Nat:=0
def tw15946101791847511172:Nat:=0
def tw16590654738571927130:Nat:=0
def tw11336352829180771147:Nat:=0
def tw15760828192151379349:Nat:=0
def tw12509030478374780280:Nat:=0
def tw11087672757603534531:Nat:=0
def tw8070228322095658286:Nat:=0
def tw827467861213528823:Nat:=0
def tw781603214987731751:Nat:=0
def tw11930816749185367184:Nat:=0
def tw17792650445576179696:Nat:=0
def tw6711900546980553662:Nat:=0
def tw4906780885312852504:Nat:=0
def tw5301321905939813064:Nat:=0
def tw14122766410805397117:Nat:=0
def tw16872948232620995464:Nat:=0
def tw17922146556054231802:Nat:=0
def tw14652188980467078153:Nat:=0
def tw5101565437144415397:Nat:=0
def tw17227031875801915017:Nat:=0
def tw17267068649952950599:Nat:=0
def tw5914099498879895667:Nat:=0
def tw10378619663043296766:Nat:=0
def tw18357659834091299931:Nat:=0
def tw5232990907612137308:Nat:=0
def tw3875055435720655285:Nat:=0
def tw15221920795098146301:Nat:=0
def tw5434032242828611488:Nat:=0
def tw3446809996656764723:Nat:=0
def tw1237804649612514416:Nat:=0
def tw4476179945395760338:Nat:=0
def tw10431494179775346373:Nat:=0
def tw11167485877790337461:Nat:=0
def tw10781500552778418815:Nat:=0
def tw646847137889615326:Nat:=0
def tw1678765631191753974:Nat:=0
def tw4443069828533951312:Nat:=0
def tw905933609689064686:Nat:=0
def tw6445601046797280912:Nat:=0
def tw9238198739042297929:Nat:=0
def tw15282547383409407809:Nat:=0
def tw8896973854899779743:Nat:=0
def tw14348318182543077678:Nat:=0
def tw15194272812892926123:Nat:=0
def tw9043952390899586359:Nat:=0
def tw998893439729479360:Nat:=0
def tw11670683440450463530:Nat:=0
def tw15177796216625767172:Nat:=0
def tw5730384096476499576:Nat:=0
def tw5322528340954329680:Nat:=0
def tw13753868151573121925:Nat:=0
def tw802991329086147706:Nat:=0
def tw17316311924665696808:Nat:=0
def tw10098889693854768101:Nat:=0
def tw15532724905395196552:Nat:=0
def tw8057533631679646976:Nat:=0
def tw8203008482007861704:Nat:=0
def tw8136976855858917124:Nat:=0
def tw5375415674596719479:Nat:=0
def tw10243543141110772677:Nat:=0
def tw18045753452091115873:Nat:=0
def tw1719752700462855526:Nat:=0
end PySem.W.Fast
namespace L2
open PySem
theorem len0{p:List Value->Prop}(h:p []):∀us:List Value,us.length=0->p us
 |[],_=>h
theorem lV{n:Nat}{p:List Value->Prop}(h:∀a us,us.length=n->p (a::us)):∀us:List Value,us.length=n+1->p us
 |a::us,e=>h a us (Nat.succ.inj e)
theorem QG{p:List Value->Prop}(h:∀a,p [a]):∀us:List Value,us.length=1->p us:=lV λa=>len0 (h a)
theorem QF{p:List Value->Prop}(h:∀a b,p [a,b]):∀us:List Value,us.length=2->p us:=lV λa=>lV λb=>len0 (h a b)
theorem ON{p:List Value->Prop}(h:∀a b c,p [a,b,c]):∀us:List Value,us.length=3->p us:=lV λa=>lV λb=>lV λc=>len0 (h a b c)
theorem QE{p:List Value->Prop}(h:∀a b c d,p [a,b,c,d]):∀us:List Value,us.length=4->p us:=lV λa=>lV λb=>lV λc=>lV λd=>len0 (h a b c d)
theorem QD{p:List Value->Prop}(h:∀a b c d e,p [a,b,c,d,e]):∀us:List Value,us.length=5->p us:=lV λa=>lV λb=>lV λc=>lV λd=>lV λe=>len0 (h a b c d e)
end L2
open PySem PySem.W PyProof.Rows L2
set_option maxRecDepth 100000 in
set_option maxHeartbeats 0 in
theorem PySem.Challenge.cw_fewbends_k32_papers_for_all_outer_lands_holds : PySem.Challenge.rw_fewbends_k32_papers_for_all_outer_lands.Holds := by
 w_on;o_law;k_head;(case hw=>w_witness2)
 k_fill
 refine NJ K32.prg 96 (l:=PySem.Challenge.rw_fewbends_k32_papers_for_all_outer_lands) (sp:=K32.KD) rfl rfl ⟨rfl,by decide,by decide,rfl⟩ rfl rfl (λw h Y=>PySem.W.kIn_of Y) (λa ns H hl _ hS=>⟨a,ns,rfl,hS,hl,λ_=>rfl⟩) (k:=K32.lawK) K32.MP ?wk ?wf ?wz ?wg ?wc ?wx
 all_goals intro w
 (case wx=>exact⟨_,_,_,_,_,_,_,_,_,_,_,_,rfl,by k_is,by k_is,by k_is,by k_is,by k_is,by k_is,by k_is,by k_is,by k_is,by k_is,by k_is,by k_is,by k_is,by k_is,by k_is,by k_is,by k_is,λ_ _ _ _ _ _=>ON λ_ _ _=>rfl⟩)
 (case wk=>rfl)
 (case wf=>repeat' first | exact trivial | refine⟨⟨⟨_,by k_is,_,_,_,_,_,_,_,_,_,by k_is,by k_is,by k_is⟩,by first | exact⟨1,rfl,λ_ _ _ _ _ _=>QG λ_=>rfl⟩ | exact⟨2,rfl,λ_ _ _ _ _ _=>QF λ_ _=>rfl⟩ | exact⟨3,rfl,λ_ _ _ _ _ _=>ON λ_ _ _=>rfl⟩ | exact⟨4,rfl,λ_ _ _ _ _ _=>QE λ_ _ _ _=>rfl⟩ | exact⟨5,rfl,λ_ _ _ _ _ _=>QD λ_ _ _ _ _=>rfl⟩ | exact⟨0,rfl,λ_ _ _ _ _ _=>len0 rfl⟩,scm⟩,?_⟩)
 (case wz=>repeat' first | exact trivial | refine⟨show PySem.W.nsIn _ _ _=_ by k_is,?_⟩)
 (case wg=>repeat' first | exact trivial | refine⟨⟨_,by k_is⟩,?_⟩)
 (case wc=>repeat' first | exact trivial | refine⟨⟨_,by k_is⟩,?_⟩)
