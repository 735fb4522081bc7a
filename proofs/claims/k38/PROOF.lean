import PyProof.Rows.All
import Wide.All
import OpenK.AllK
import Wide.FinOn
import Lean
import PyProof.EqAt
import PyProof.EqKinds
import PyProof.TupleCall
import KE.BitLaws
import KE.KSortTup
import PyProof.ZipIter
import PyProof.MeetsSeq3
import PyProof.FactsAll.list_2
import PyProof.Rows.SortRuns
import PyProof.Rows.SortShell
import PyProof.Rows.SortRev
import PyProof.Rows.SortWalk
import PyProof.FactsAll.tuple_1
import PyProof.DictItems
import KE.KDictSum
import PyProof.SetKind
import PyProof.TupleKey
import PyProof.IsRules
import PyProof.DictKinds
import PyProof.Rows.SetFrom
import PyProof.FactsAll.set_1
import PyProof.FactsAll.set_2
import PySem.Challenge.RW_fewbends_k38_laying_out_refused
open PySem renaming wpAny_bind->ZZ,wpAny_pure->ZY,wpAny_mono->ZX,sizeLine->ZW,mainGlobals->ZV,wpAny_holding->ZU
open PySem.Str renaming ofString->ZT
open Classical renaming byContradiction->ZS
open List renaming range->ZR,length_set->ZP,mem_append_left->ZO,mem_append_right->ZN,idxOf_lt_length_of_mem->ZM,not_mem_nil->ZL,getElem?_set_self->ZK,getElem?_set_ne->ZJ,map_cons->ZI,range_succ->ZH,map_set->ZG,replicate->ZF,size_toArray->ZE,all_eq_true->ZD,nodup_range->ZC
open Nat renaming le_refl->ZA,ne_of_lt->YZ,sub_zero->YY,zero_le->YX,lt_irrefl->YW,shiftRight->YV
open PySem.Heap renaming get?_push_of_some->YU,lt_size->YT,get?_push_size->YS,get?_update_other->YR
open Bool renaming false_ne_true->YO,false_eq_true->YN
open Option renaming getD_some->YM
open PySem.F renaming plainAttrs_list->YL,excBase_ValueError->YK
open List renaming length_map->Zq,getElem?_eq_getElem->Zz,getElem?_eq_some_iff->Zj,getElem?_map->Zk,getD_eq_getElem?_getD->Zv,mem_cons_of_mem->Zw,getElem?_append_left->Zx,getElem?_append_right->Zy,mem_of_getElem?->Zg,mem_map->Zh,mem_singleton->Zb,mem_cons_self->Zd,mem_append->Zf,length_append->Zm,mem_cons->Zn,getElem_mem->Zp,getElem?_eq_none->Zr,mem_range->Zs,map_append->Zt,length_singleton->ZQ,length_cons->Yq,mem_filter->Yz,length_range->Yj,mem_flatMap->Yk,getElem?_range->Yv,take_length->Yw,length_take->Yx,getElem?_concat_length->Yy,mem_iff_getElem->Yd,length_eq_zero_iff->Ym,map_map->Yn,append_assoc->Yp,length_drop->Yr,mem_map_of_mem->Ys,map_congr_left->Yt,ext_getElem?->YQ,length_reverse->Xq
open Nat renaming le_trans->Xz,lt_of_le_of_lt->Xj,lt_of_lt_of_le->Xk,lt_succ_of_lt->Xv,lt_or_ge->Xw
open Option renaming map_eq_some_iff->Xx
open Int renaming emod_nonneg->Xy,emod_lt_of_pos->Xg,eq_ofNat_of_zero_le->Xh
open Bool renaming and_eq_true->Xb,eq_iff_iff->Xd
set_option linter.all false
set_option maxRecDepth 100000
abbrev Ya:=@if_neg
abbrev Yb:=@if_pos
abbrev Yc:=@decide_eq_false
abbrev Ye:=@decide_eq_true
abbrev Yf:=@of_decide_eq_true
abbrev Yg:=@absurd
abbrev Yh:=@Ne.symm
abbrev Yi:=@eq_of_beq
section
variable{A B C D E F G H I J:Type}
theorem xPP{K L R:Prop}(k:K)(l:L)(r:R):K/\L/\R:=⟨k,l,r⟩
theorem xWW{R:A->B->Prop}(a:A)(b:B)(r:R a b):∃a b,R a b:=⟨a,b,r⟩
theorem xWP{K R:A->Prop}(a:A)(k:K a)(r:R a):∃a,K a/\R a:=⟨a,k,r⟩
theorem wK{R:A->B->C->Prop}(a:A)(b:B)(c:C)(r:R a b c):∃a b c,R a b c:=⟨a,b,c,r⟩
theorem qX{K L M R:Prop}(k:K)(l:L)(m:M)(r:R):K/\L/\M/\R:=⟨k,l,m,r⟩
theorem JJ{K:Prop}{R:A->B->Prop}(k:K)(a:A)(b:B)(r:R a b):K/\∃a b,R a b:=⟨k,a,b,r⟩
theorem AH{K R:A->B->Prop}(a:A)(b:B)(k:K a b)(r:R a b):∃a b,K a b/\R a b:=⟨a,b,k,r⟩
theorem OI{K L R:A->Prop}(a:A)(k:K a)(l:L a)(r:R a):∃a,K a/\L a/\R a:=⟨a,k,l,r⟩
theorem AL{K:Prop}{L R:A->Prop}(k:K)(a:A)(l:L a)(r:R a):K/\∃a,L a/\R a:=⟨k,a,l,r⟩
theorem yP{K:Prop}{L R:A->B->Prop}(k:K)(a:A)(b:B)(l:L a b)(r:R a b):K/\∃a b,L a b/\R a b:=⟨k,a,b,l,r⟩
theorem cR{K L M R:A->Prop}(a:A)(k:K a)(l:L a)(m:M a)(r:R a):∃a,K a/\L a/\M a/\R a:=⟨a,k,l,m,r⟩
theorem IF{K R:A->B->C->Prop}(a:A)(b:B)(c:C)(k:K a b c)(r:R a b c):∃a b c,K a b c/\R a b c:=⟨a,b,c,k,r⟩
theorem aN{K L R:A->B->Prop}(a:A)(b:B)(k:K a b)(l:L a b)(r:R a b):∃a b,K a b/\L a b/\R a b:=⟨a,b,k,l,r⟩
theorem CC{K:A->Prop}{L R:A->B->Prop}(a:A)(k:K a)(b:B)(l:L a b)(r:R a b):∃a,K a/\∃b,L a b/\R a b:=⟨a,k,b,l,r⟩
theorem iZ{R:A->B->C->D->Prop}(a:A)(b:B)(c:C)(d:D)(r:R a b c d):∃a b c d,R a b c d:=⟨a,b,c,d,r⟩
theorem CA{K:A->Prop}{R:A->B->C->Prop}(a:A)(k:K a)(b:B)(c:C)(r:R a b c):∃a,K a/\∃b c,R a b c:=⟨a,k,b,c,r⟩
theorem fR{K L M N R:Prop}(k:K)(l:L)(m:M)(n:N)(r:R):K/\L/\M/\N/\R:=⟨k,l,m,n,r⟩
theorem kU{K:Prop}{L M R:A->Prop}(k:K)(a:A)(l:L a)(m:M a)(r:R a):K/\∃a,L a/\M a/\R a:=⟨k,a,l,m,r⟩
theorem eS{K:Prop}{L M R:A->B->Prop}(k:K)(a:A)(b:B)(l:L a b)(m:M a b)(r:R a b):K/\∃a b,L a b/\M a b/\R a b:=JJ k a b (xPP l m r)
theorem CB{K:A->Prop}{L M R:A->B->Prop}(a:A)(k:K a)(b:B)(l:L a b)(m:M a b)(r:R a b):∃a,K a/\∃b,L a b/\M a b/\R a b:=xWP a k (OI b l m r)
theorem B6{K R:A->B->C->D->Prop}(a:A)(b:B)(c:C)(d:D)(k:K a b c d)(r:R a b c d):∃a b c d,K a b c d/\R a b c d:=xWW a b (AH c d k r)
theorem bS{K L M R:A->B->Prop}(a:A)(b:B)(k:K a b)(l:L a b)(m:M a b)(r:R a b):∃a b,K a b/\L a b/\M a b/\R a b:=AH a b k (xPP l m r)
theorem B4{R:A->B->C->D->E->Prop}(a:A)(b:B)(c:C)(d:D)(e:E)(r:R a b c d e):∃a b c d e,R a b c d e:=xWW a b (wK c d e r)
theorem CG{K:Prop}{L M N R:A->Prop}(k:K)(a:A)(l:L a)(m:M a)(n:N a)(r:R a):K/\∃a,L a/\M a/\N a/\R a:=AL k a l (xPP m n r)
theorem B9{K:A->Prop}{L R:A->B->C->Prop}(a:A)(k:K a)(b:B)(c:C)(l:L a b c)(r:R a b c):∃a,K a/\∃b c,L a b c/\R a b c:=xWP a k (AH b c l r)
theorem CH{K L:Prop}{R:A->B->C->Prop}(k:K)(l:L)(a:A)(b:B)(c:C)(r:R a b c):K/\L/\∃a b c,R a b c:=xPP k l (wK a b c r)
theorem mM{K L M N R:A->Prop}(a:A)(k:K a)(l:L a)(m:M a)(n:N a)(r:R a):∃a,K a/\L a/\M a/\N a/\R a:=xWP a k (qX l m n r)
theorem oW{K L M N O R:Prop}(k:K)(l:L)(m:M)(n:N)(o:O)(r:R):K/\L/\M/\N/\O/\R:=xPP k l (qX m n o r)
theorem JI{K:A->Prop}{R:A->B->C->D->Prop}(a:A)(k:K a)(b:B)(c:C)(d:D)(r:R a b c d):∃a,K a/\∃b c d,R a b c d:=xWP a k (wK b c d r)
theorem oE{R:A->B->C->D->E->F->Prop}(a:A)(b:B)(c:C)(d:D)(e:E)(f:F)(r:R a b c d e f):∃a b c d e f,R a b c d e f:=wK a b c (wK d e f r)
theorem sT{K L:A->B->Prop}{M R:A->B->C->Prop}(a:A)(b:B)(k:K a b)(l:L a b)(c:C)(m:M a b c)(r:R a b c):∃a b,K a b/\L a b/\∃c,M a b c/\R a b c:=AH a b k (AL l c m r)
theorem eY{K L M R:A->B->C->Prop}(a:A)(b:B)(c:C)(k:K a b c)(l:L a b c)(m:M a b c)(r:R a b c):∃a b c,K a b c/\L a b c/\M a b c/\R a b c:=wK a b c (qX k l m r)
theorem bP{K L M N R:A->B->Prop}(a:A)(b:B)(k:K a b)(l:L a b)(m:M a b)(n:N a b)(r:R a b):∃a b,K a b/\L a b/\M a b/\N a b/\R a b:=AH a b k (qX l m n r)
theorem yO{K:A->Prop}{L M R:A->B->C->Prop}(a:A)(k:K a)(b:B)(c:C)(l:L a b c)(m:M a b c)(r:R a b c):∃a,K a/\∃b c,L a b c/\M a b c/\R a b c:=xWP a k (aN b c l m r)
theorem oF{K:Prop}{L M N R:A->B->Prop}(k:K)(a:A)(b:B)(l:L a b)(m:M a b)(n:N a b)(r:R a b):K/\∃a b,L a b/\M a b/\N a b/\R a b:=JJ k a b (qX l m n r)
theorem yQ{K:Prop}{L M N O R:A->Prop}(k:K)(a:A)(l:L a)(m:M a)(n:N a)(o:O a)(r:R a):K/\∃a,L a/\M a/\N a/\O a/\R a:=AL k a l (qX m n o r)
theorem kW{K L M N O P R:Prop}(k:K)(l:L)(m:M)(n:N)(o:O)(p:P)(r:R):K/\L/\M/\N/\O/\P/\R:=qX k l m (qX n o p r)
theorem uF{K:A->Prop}{L M N O R:A->B->Prop}(a:A)(k:K a)(b:B)(l:L a b)(m:M a b)(n:N a b)(o:O a b)(r:R a b):∃a,K a/\∃b,L a b/\M a b/\N a b/\O a b/\R a b:=CC a k b l (qX m n o r)
theorem B7{K L M:A->B->Prop}{N R:A->B->C->Prop}(a:A)(b:B)(k:K a b)(l:L a b)(m:M a b)(c:C)(n:N a b c)(r:R a b c):∃a b,K a b/\L a b/\M a b/\∃c,N a b c/\R a b c:=aN a b k l (AL m c n r)
theorem CI{K L M N O P Q R:Prop}(k:K)(l:L)(m:M)(n:N)(o:O)(p:P)(q:Q)(r:R):K/\L/\M/\N/\O/\P/\Q/\R:=qX k l m (fR n o p q r)
theorem CF{K:Prop}{L:A->Prop}{M N R:A->B->C->Prop}(k:K)(a:A)(l:L a)(b:B)(c:C)(m:M a b c)(n:N a b c)(r:R a b c):K/\∃a,L a/\∃b c,M a b c/\N a b c/\R a b c:=AL k a l (aN b c m n r)
theorem CD{K:Prop}{L M N R:A->B->C->Prop}(k:K)(a:A)(b:B)(c:C)(l:L a b c)(m:M a b c)(n:N a b c)(r:R a b c):K/\∃a b c,L a b c/\M a b c/\N a b c/\R a b c:=JJ k a b (cR c l m n r)
theorem B8{K L M N O R:A->B->Prop}(a:A)(b:B)(k:K a b)(l:L a b)(m:M a b)(n:N a b)(o:O a b)(r:R a b):∃a b,K a b/\L a b/\M a b/\N a b/\O a b/\R a b:=AH a b k (fR l m n o r)
theorem B5{K L M R:A->B->C->D->Prop}(a:A)(b:B)(c:C)(d:D)(k:K a b c d)(l:L a b c d)(m:M a b c d)(r:R a b c d):∃a b c d,K a b c d/\L a b c d/\M a b c d/\R a b c d:=wK a b c (cR d k l m r)
theorem AK{K:Prop}{L M:A->B->Prop}{N O R:A->B->C->Prop}(k:K)(a:A)(b:B)(l:L a b)(m:M a b)(c:C)(n:N a b c)(o:O a b c)(r:R a b c):K/\∃a b,L a b/\M a b/\∃c,N a b c/\O a b c/\R a b c:=yP k a b l (kU m c n o r)
theorem rK{K L M R:A->B->C->D->E->Prop}(a:A)(b:B)(c:C)(d:D)(e:E)(k:K a b c d e)(l:L a b c d e)(m:M a b c d e)(r:R a b c d e):∃a b c d e,K a b c d e/\L a b c d e/\M a b c d e/\R a b c d e:=iZ a b c d (cR e k l m r)
theorem AI{K:A->Prop}{L M N R:A->B->C->D->Prop}(a:A)(k:K a)(b:B)(c:C)(d:D)(l:L a b c d)(m:M a b c d)(n:N a b c d)(r:R a b c d):∃a,K a/\∃b c d,L a b c d/\M a b c d/\N a b c d/\R a b c d:=CA a k b c (cR d l m n r)
theorem bU{K L:A->B->Prop}{M N R:A->B->C->D->Prop}(a:A)(b:B)(k:K a b)(l:L a b)(c:C)(d:D)(m:M a b c d)(n:N a b c d)(r:R a b c d):∃a b,K a b/\L a b/\∃c d,M a b c d/\N a b c d/\R a b c d:=aN a b k l (aN c d m n r)
theorem AM{K L M N O P Q S R:Prop}(k:K)(l:L)(m:M)(n:N)(o:O)(p:P)(q:Q)(s:S)(r:R):K/\L/\M/\N/\O/\P/\Q/\S/\R:=fR k l m n (fR o p q s r)
theorem mL{K L M N O P R:A->B->Prop}(a:A)(b:B)(k:K a b)(l:L a b)(m:M a b)(n:N a b)(o:O a b)(p:P a b)(r:R a b):∃a b,K a b/\L a b/\M a b/\N a b/\O a b/\P a b/\R a b:=aN a b k l (fR m n o p r)
theorem rL{K:Prop}{L:A->Prop}{M N O R:A->B->C->Prop}(k:K)(a:A)(l:L a)(b:B)(c:C)(m:M a b c)(n:N a b c)(o:O a b c)(r:R a b c):K/\∃a,L a/\∃b c,M a b c/\N a b c/\O a b c/\R a b c:=AL k a l (bS b c m n o r)
theorem AJ{K:A->Prop}{L M N O P R:A->B->Prop}(a:A)(k:K a)(b:B)(l:L a b)(m:M a b)(n:N a b)(o:O a b)(p:P a b)(r:R a b):∃a,K a/\∃b,L a b/\M a b/\N a b/\O a b/\P a b/\R a b:=CC a k b l (fR m n o p r)
theorem mK{K L M N O R:A->B->C->Prop}(a:A)(b:B)(c:C)(k:K a b c)(l:L a b c)(m:M a b c)(n:N a b c)(o:O a b c)(r:R a b c):∃a b c,K a b c/\L a b c/\M a b c/\N a b c/\O a b c/\R a b c:=IF a b c k (fR l m n o r)
theorem dJ{K L:A->B->Prop}{M N O R:A->B->C->Prop}(a:A)(b:B)(k:K a b)(l:L a b)(c:C)(m:M a b c)(n:N a b c)(o:O a b c)(r:R a b c):∃a b,K a b/\L a b/\∃c,M a b c/\N a b c/\O a b c/\R a b c:=aN a b k l (cR c m n o r)
theorem cW{K L M N R:A->B->C->D->Prop}(a:A)(b:B)(c:C)(d:D)(k:K a b c d)(l:L a b c d)(m:M a b c d)(n:N a b c d)(r:R a b c d):∃a b c d,K a b c d/\L a b c d/\M a b c d/\N a b c d/\R a b c d:=iZ a b c d (fR k l m n r)
theorem kD{K:Prop}{L M:A->B->Prop}{N O R:A->B->C->D->Prop}(k:K)(a:A)(b:B)(l:L a b)(m:M a b)(c:C)(d:D)(n:N a b c d)(o:O a b c d)(r:R a b c d):K/\∃a b,L a b/\M a b/\∃c d,N a b c d/\O a b c d/\R a b c d:=yP k a b l (eS m c d n o r)
theorem wI{R:A->B->C->D->E->F->G->H->I->Prop}(a:A)(b:B)(c:C)(d:D)(e:E)(f:F)(g:G)(h:H)(i:I)(r:R a b c d e f g h i):∃a b c d e f g h i,R a b c d e f g h i:=iZ a b c d (B4 e f g h i r)
theorem wJ{K L M N O R:A->B->C->D->Prop}(a:A)(b:B)(c:C)(d:D)(k:K a b c d)(l:L a b c d)(m:M a b c d)(n:N a b c d)(o:O a b c d)(r:R a b c d):∃a b c d,K a b c d/\L a b c d/\M a b c d/\N a b c d/\O a b c d/\R a b c d:=B6 a b c d k (fR l m n o r)
theorem wO{K:Prop}{L M:A->B->Prop}{N O P R:A->B->C->Prop}(k:K)(a:A)(b:B)(l:L a b)(m:M a b)(c:C)(n:N a b c)(o:O a b c)(p:P a b c)(r:R a b c):K/\∃a b,L a b/\M a b/\∃c,N a b c/\O a b c/\P a b c/\R a b c:=yP k a b l (CG m c n o p r)
theorem wR{K L:Prop}{M N R:A->B->C->D->E->Prop}(k:K)(l:L)(a:A)(b:B)(c:C)(d:D)(e:E)(m:M a b c d e)(n:N a b c d e)(r:R a b c d e):K/\L/\∃a b c d e,M a b c d e/\N a b c d e/\R a b c d e:=CH k l a b c (aN d e m n r)
theorem oS{K L R:A->B->C->D->E->F->G->Prop}(a:A)(b:B)(c:C)(d:D)(e:E)(f:F)(g:G)(k:K a b c d e f g)(l:L a b c d e f g)(r:R a b c d e f g):∃a b c d e f g,K a b c d e f g/\L a b c d e f g/\R a b c d e f g:=B4 a b c d e (aN f g k l r)
theorem eQ{K L:A->B->Prop}{M N O R:A->B->C->D->Prop}(a:A)(b:B)(k:K a b)(l:L a b)(c:C)(d:D)(m:M a b c d)(n:N a b c d)(o:O a b c d)(r:R a b c d):∃a b,K a b/\L a b/\∃c d,M a b c d/\N a b c d/\O a b c d/\R a b c d:=aN a b k l (bS c d m n o r)
theorem wU{K L:Prop}{M N O P R:A->B->C->Prop}(k:K)(l:L)(a:A)(b:B)(c:C)(m:M a b c)(n:N a b c)(o:O a b c)(p:P a b c)(r:R a b c):K/\L/\∃a b c,M a b c/\N a b c/\O a b c/\P a b c/\R a b c:=CH k l a b c (fR m n o p r)
theorem wN{K:A->Prop}{L M N O P R:A->B->C->Prop}(a:A)(k:K a)(b:B)(c:C)(l:L a b c)(m:M a b c)(n:N a b c)(o:O a b c)(p:P a b c)(r:R a b c):∃a,K a/\∃b c,L a b c/\M a b c/\N a b c/\O a b c/\P a b c/\R a b c:=B9 a k b c l (fR m n o p r)
theorem fX{K L M R:A->B->C->D->E->F->Prop}(a:A)(b:B)(c:C)(d:D)(e:E)(f:F)(k:K a b c d e f)(l:L a b c d e f)(m:M a b c d e f)(r:R a b c d e f):∃a b c d e f,K a b c d e f/\L a b c d e f/\M a b c d e f/\R a b c d e f:=iZ a b c d (bS e f k l m r)
theorem wL{K:A->Prop}{L M R:A->B->C->D->E->F->Prop}(a:A)(k:K a)(b:B)(c:C)(d:D)(e:E)(f:F)(l:L a b c d e f)(m:M a b c d e f)(r:R a b c d e f):∃a,K a/\∃b c d e f,L a b c d e f/\M a b c d e f/\R a b c d e f:=JI a k b c d (aN e f l m r)
theorem cN{K L M N R:A->B->C->D->E->Prop}(a:A)(b:B)(c:C)(d:D)(e:E)(k:K a b c d e)(l:L a b c d e)(m:M a b c d e)(n:N a b c d e)(r:R a b c d e):∃a b c d e,K a b c d e/\L a b c d e/\M a b c d e/\N a b c d e/\R a b c d e:=iZ a b c d (mM e k l m n r)
theorem wQ{K:Prop}{L M N:A->B->Prop}{O R:A->B->C->D->Prop}(k:K)(a:A)(b:B)(l:L a b)(m:M a b)(n:N a b)(c:C)(d:D)(o:O a b c d)(r:R a b c d):K/\∃a b,L a b/\M a b/\N a b/\∃c d,O a b c d/\R a b c d:=eS k a b l m (yP n c d o r)
theorem oV{K:A->Prop}{L R:A->B->C->D->E->F->G->Prop}(a:A)(k:K a)(b:B)(c:C)(d:D)(e:E)(f:F)(g:G)(l:L a b c d e f g)(r:R a b c d e f g):∃a,K a/\∃b c d e f g,L a b c d e f g/\R a b c d e f g:=CA a k b c (B6 d e f g l r)
theorem oU{K L M N O P R:A->B->C->Prop}(a:A)(b:B)(c:C)(k:K a b c)(l:L a b c)(m:M a b c)(n:N a b c)(o:O a b c)(p:P a b c)(r:R a b c):∃a b c,K a b c/\L a b c/\M a b c/\N a b c/\O a b c/\P a b c/\R a b c:=IF a b c k (oW l m n o p r)
theorem wM{K:A->Prop}{L M:A->B->C->Prop}{N O R:A->B->C->D->Prop}(a:A)(k:K a)(b:B)(c:C)(l:L a b c)(m:M a b c)(d:D)(n:N a b c d)(o:O a b c d)(r:R a b c d):∃a,K a/\∃b c,L a b c/\M a b c/\∃d,N a b c d/\O a b c d/\R a b c d:=B9 a k b c l (kU m d n o r)
theorem iI{K:A->Prop}{L M N R:A->B->C->D->E->Prop}(a:A)(k:K a)(b:B)(c:C)(d:D)(e:E)(l:L a b c d e)(m:M a b c d e)(n:N a b c d e)(r:R a b c d e):∃a,K a/\∃b c d e,L a b c d e/\M a b c d e/\N a b c d e/\R a b c d e:=CA a k b c (bS d e l m n r)
end
namespace L2
open PySem PySem.Spec PyProof.Rows
abbrev Key:=Sum Int Str
def sF:Key->Value->Bool
 |.inl k,v=>Value.isInt k v
 |.inr x,v=>Value.isStrOf x v
def PM(w:World):Key->Int
 |.inl k=>hashInt k
 |.inr x=>hashStr w x
theorem b8:∀{k:Key}{v:Value},sF k v=true->(∃i t,k=Sum.inl i/\v=Value.int i t)\/(∃x t,k=Sum.inr x/\v=Value.str x t)
 |.inl i,v,h=>by
  obtain⟨t,e⟩:=Value.isInt_shape (k:=i) (v:=v) h;exact .inl ⟨i,t,rfl,e⟩
 |.inr x,v,h=>by
  obtain⟨t,e⟩:=Value.isStrOf_shape (x:=x) (v:=v) h;exact .inr ⟨x,t,rfl,e⟩
theorem BJ(i:Int)(t:Tok):sF (.inl i) (.int i t)=true:=by simp[sF,Value.isInt]
theorem BI(x:Str)(t:Tok):sF (.inr x) (.str x t)=true:=by simp[sF,Value.isStrOf]
theorem LQ(a b:Int):decide ((Sum.inl a:Key)=Sum.inl b)=(a==b):=by
 by_cases e:a=b
 ·subst e;simp
 ·have h:¬(Sum.inl a:Key)=Sum.inl b:=λq=>e (Sum.inl.inj q);rw[Yc h];exact(beq_eq_false_iff_ne.mpr e).symm
theorem LN(a b:Str):decide ((Sum.inr a:Key)=Sum.inr b)=decide (a=b):=by
 by_cases e:a=b
 ·subst e;simp
 ·have h:¬(Sum.inr a:Key)=Sum.inr b:=λq=>e (Sum.inr.inj q);rw[Yc h,Yc e]
theorem LP(a:Int)(b:Str):decide ((Sum.inl a:Key)=Sum.inr b)=false:=Yc (λq=>nomatch q)
theorem LO(a:Str)(b:Int):decide ((Sum.inr a:Key)=Sum.inl b)=false:=Yc (λq=>nomatch q)
def bT(prog:Program)(w:World):PySem.KeyKind prog w Key where
 is:=sF
 hash:=PM w
 inj:=λv a b ha hb=>by
  rcases b8 ha with⟨i,t,rfl,rfl⟩ | ⟨x,t,rfl,rfl⟩
  ·rcases b8 hb with⟨j,u,rfl,e⟩ | ⟨y,u,rfl,e⟩
   ·injection e with e1 _;rw[e1]
   ·exact nomatch e
  ·rcases b8 hb with⟨j,u,rfl,e⟩ | ⟨y,u,rfl,e⟩
   ·exact nomatch e
   ·injection e with e1 _;rw[e1]
 byValue:=λk v h=>by
  rcases b8 h with⟨i,t,rfl,rfl⟩ | ⟨x,t,rfl,rfl⟩<;>rfl
 pyHash:=λhv h=>by
  rcases b8 hv with⟨i,t,rfl,rfl⟩ | ⟨x,t,rfl,rfl⟩
  ·exact wpAny_pyHash_int h
  ·exact wpAny_pyHash_str h
 eqBool:=λhu hv h=>by
  rcases b8 hu with⟨i,t,rfl,rfl⟩ | ⟨x,t,rfl,rfl⟩
  ·rcases b8 hv with⟨j,u,rfl,rfl⟩ | ⟨y,u,rfl,rfl⟩
   ·rw[LQ]at h;exact wpAny_eqBool_int h
   ·rw[LP]at h;exact SeqAt.EqAt.int_str i t y u _ _ _ _ h
  ·rcases b8 hv with⟨j,u,rfl,rfl⟩ | ⟨y,u,rfl,rfl⟩
   ·rw[LO]at h;exact SeqAt.EqAt.str_int x t j u _ _ _ _ h
   ·rw[LN]at h;exact wpAny_eqBool_str h
 «strs»:=λk x t v h=>by
  rcases b8 h with⟨i,u,rfl,e⟩ | ⟨y,u,rfl,e⟩
  ·exact nomatch e
  ·injection e with e1 _;subst e1;cases v<;>rfl
theorem vA(prog:Program)(w:World)(i:Int)(t:Tok):(bT prog w).is (.inl i) (.int i t)=true:=BJ i t
theorem u9(prog:Program)(w:World)(x:Str)(t:Tok):(bT prog w).is (.inr x) (.str x t)=true:=BI x t
inductive V where
 |non | bl (b:Bool) | int (i:Int) | str (x:Str) | byt (b:Array UInt8) | flt (b:UInt64) | ref (a:Addr) | ty (n:String)
 deriving DecidableEq
def RelV:V->Value->Prop
 |.non,u=>u=Value.none
 |.bl b,u=>u=Value.bool b
 |.int i,u=>∃t,u=Value.int i t
 |.str x,u=>∃t,u=Value.str x t
 |.byt b,u=>∃t,u=Value.bytes b t
 |.flt b,u=>∃t,u=Value.float b t
 |.ref a,u=>u=Value.ref a
 |.ty n,u=>u=Value.type n
abbrev aV:List V->List Value->Prop:=Paired RelV
theorem aV.length{xs:List V}{us:List Value}(r:aV xs us):xs.length=us.length:=Paired.length r
theorem aV.get:∀{xs:List V}{us:List Value}{i:Nat}{x:V},aV xs us->xs[i]?=some x->∃u,us[i]?=some u/\RelV x u
 |_,_,_,_,.nil,e=>by simp at e
 |_,_,0,_,.cons r _,e=>by simp at e;subst e;exact⟨_,rfl,r⟩
 |_,_,i+1,x,.cons _ t,e=>by
  obtain⟨u,h1,h2⟩:=aV.get (i:=i) (x:=x) t (by simpa using e);exact⟨u,by simpa using h1,h2⟩
theorem aV.set{x:V}{u:Value}(r:RelV x u):∀{xs:List V}{us:List Value}(i:Nat),aV xs us->aV (xs.set i x) (us.set i u)
 |_,_,_,.nil=>.nil
 |_,_,0,.cons _ t=>.cons r t
 |_,_,i+1,.cons q t=>.cons q (aV.set r i t)
theorem aV.append:∀{xs ys:List V}{us ws:List Value},aV xs us->aV ys ws->aV (xs++ys) (us++ws)
 |_,_,_,_,.nil,s=>s
 |_,_,_,_,.cons r t,s=>.cons r (aV.append t s)
theorem aV.take:∀{xs:List V}{us:List Value}(n:Nat),aV xs us->aV (xs.take n) (us.take n)
 |_,_,0,_=>.nil
 |_,_,_+1,.nil=>.nil
 |_,_,n+1,.cons r t=>.cons r (aV.take n t)
theorem aV.drop:∀{xs:List V}{us:List Value}(n:Nat),aV xs us->aV (xs.drop n) (us.drop n)
 |_,_,0,r=>r
 |_,_,_+1,.nil=>.nil
 |_,_,n+1,.cons _ t=>aV.drop n t
def uB:Option V->Option Value->Prop
 |some v,some u=>RelV v u
 |none,none=>True
 |_,_=>False
def KV{κ:Type}:List (κ×V)->List (κ×Value)->Prop:=Paired λ(p:κ×V) (q:κ×Value)=>p.1=q.1/\RelV p.2 q.2
def kV:Key->V
 |.inl i=>.int i
 |.inr x=>.str x
inductive HO where
 |lst (xs:List V)
 |tup (xs:List V)
 |dK (kvs:List (Key×V)) | dT (kvs:List (List Key×V))
 |set (S:Int->Bool) (n:Nat)
 |ins (C dx:Addr) (fs:List (Str×V))
 |own (x:Addr)
 |xd (fs:List (Str×V))
 |met (f x:Addr)
 |rng (lo hi:Int)
 |frz (o:Obj) (u:HO)
 |tbl (ps:Array Value)
 |ext (φ:Heap->Prop)
abbrev Hp:=Addr->Option HO
def upd(H:Hp)(a:Addr)(o:HO):Hp:=λb=>if b=a then some o else H b
theorem aA{H:Hp}{a:Addr}{o:HO}:upd H a o a=some o:=by unfold upd;rw[Yb rfl]
theorem aF{H:Hp}{a b:Addr}{o:HO}(h:b≠a):upd H a o b=H b:=by unfold upd;rw[Ya h]
theorem eZ{H:Hp}{a:Addr}{o u:HO}:upd (upd H a o) a u=upd H a u:=by
 funext b;unfold upd;split<;>rfl
theorem pW{H:Hp}{a b:Addr}{o u:HO}(h:H a=some o)(h':H b=some u)(d:o≠u):a≠b:=by
 intro e;subst e;rw[h]at h';exact d (Option.some.inj h')
theorem aI{H:Hp}{a b:Addr}{o:HO}(h:H a=some o)(h':H b=none):a≠b:=by
 intro e;subst e;rw[h]at h';cases h'
section
variable(P:Program)(w:World)
def bI(H:Hp)(h:Heap)(a:Addr):HO->Prop
 |.lst xs=>xs.length<=ZW/\∃(its:List Value) (n:Nat),aV xs its/\h.get? a=some { cls:=.type "list",data:=.seq its.toArray n }
 |.tup xs=>xs.length<=ZW/\∃its:List Value,aV xs its/\IsTup h a its.toArray
 |.dK kvs=>kvs.length<=ZW/\(a==sysModules)=false/\∃vs,KV kvs vs/\h.DictOf (bT P w) a vs
 |.dT kvs=>kvs.length<=ZW/\(a==sysModules)=false/\∃xs:List (List Key×Addr×Value),
   Paired (λ(p:List Key×V) (q:List Key×Addr×Value)=>p.1=q.1/\H q.2.1=some (.tup (p.1.map kV))/\RelV p.2 q.2.2) kvs xs /\
   ∃o es ep,h.get? a=some o/\o.ExactDict/\o.data=.dict es ep/\es.toList=xs.map (entryOfKey (tupleKind (bT P w)))/\(xs.map (·.1)).Nodup
 |.set S n=>h.SetOf (intKind P w) a S n
 |.ins C dx fs=>H dx=some (.own a)/\fs.length<=1000/\dx≠a/\h.get? a=some (PySem.W.instObj C dx) /\
   ∃mA,h.Ns1 dx mA/\(∀f,uB (fs.lookup f) (mA f))/\PySem.Within mA (fs.map (·.1))
 |.own _=>∃o,h.get? a=some o
 |.xd fs=>∃mA,h.Ns1 a mA/\∀f,uB (fs.lookup f) (mA f)
 |.rng lo hi=>∃t u v,h.get? a=some { cls:=.type "range",data:=.fields #[.int lo t,.int hi u,.int 1 v] }
 |.frz o u=>h.get? a=some o/\bI H h a u
 |.tbl ps=>h.get? a=some { cls:=.none,data:=.fields ps }
 |.met f x=>h.get? a=some (PySem.W.methodObj (.ref f) (.ref x))
 |.ext φ=>φ h/\(∃o,h.get? a=some o)/\∀h1 h2:Heap,φ h1->(∀o,h1.get? a=some o->h2.get? a=some o)->φ h2
def HOk(H:Hp)(h:Heap):Prop:=∀a o,H a=some o->bI P w H h a o
end
section
variable{P:Program}{w:World}{H H':Hp}{h h':Heap}{a:Addr}{o:HO}
theorem bI.lt(x:bI P w H h a o):a<h.objs.size:=by
 cases o with
 |lst xs=>obtain⟨_,_,_,_,e⟩:=x;exact YT e
 |tup xs=>obtain⟨_,_,_,p⟩:=x;exact p.lt
 |dK kvs=>obtain⟨_,_,_,_,o,_,_,e,_⟩:=x;exact YT e
 |dT kvs=>obtain⟨_,_,_,_,o,_,_,e,_⟩:=x;exact YT e
 |set S n=>obtain⟨o,_,_,_,e,_⟩:=x;exact YT e
 |ins C dx fs=>obtain⟨_,_,_,e,_⟩:=x;exact YT e
 |own y=>obtain⟨_,e⟩:=x;exact YT e
 |xd fs=>obtain⟨_,⟨_,_,_,e,_⟩,_⟩:=x;exact YT e
 |rng lo hi=>obtain⟨_,_,_,e⟩:=x;exact YT e
 |frz ob u=>obtain⟨e,_⟩:=x;exact YT e
 |tbl ps=>exact YT (show h.get? a=some _ from x)
 |met f y=>exact YT (show h.get? a=some _ from x)
 |ext φ=>obtain⟨_,⟨_,e⟩,_⟩:=x;exact YT e
theorem jK{α β:Type}{F G:α->β->Prop}:∀{l₁:List α}{l₂:List β},Paired F l₁ l₂->(∀a b,F a b->G a b)->Paired G l₁ l₂
 |_,_,.nil,_=>.nil
 |_,_,.cons r t,f=>.cons (f _ _ r) (jK t f)
theorem bI.stay(x:bI P w H h a o)(k:∀b u,(b=a\/H b=some (.own a))->h.get? b=some u->h'.get? b=some u)
  (ho:∀b,H b=some (.own a)->H' b=some (.own a)) (ht:∀b xs,H b=some (.tup xs)->H' b=some (.tup xs)):bI P w H' h' a o:=by
 induction o with
 |lst xs=>obtain⟨z,its,n,r,e⟩:=x;exact⟨z,its,n,r,k _ _ (.inl rfl) e⟩
 |tup xs=>obtain⟨z,its,r,ob,e,c⟩:=x;exact⟨z,its,r,ob,k _ _ (.inl rfl) e,c⟩
 |dK kvs=>obtain⟨z,y,vs,r,ob,es,ep,e,c⟩:=x;exact⟨z,y,vs,r,ob,es,ep,k _ _ (.inl rfl) e,c⟩
 |dT kvs =>
  obtain⟨z,y,xs,r,ob,es,ep,e,c⟩:=x;exact⟨z,y,xs,jK r λp q z=>⟨z.1,ht _ _ z.2.1,z.2.2⟩,ob,es,ep,k _ _ (.inl rfl) e,c⟩
 |set S n=>obtain⟨ob,es,ep,t,e,c⟩:=x;exact⟨ob,es,ep,t,k _ _ (.inl rfl) e,c⟩
 |ins C dx fs =>
  obtain⟨d,z,ne,e,mA,⟨od,es,ep,e2,c⟩,r⟩:=x;exact⟨ho _ d,z,ne,k _ _ (.inl rfl) e,mA,⟨od,es,ep,k _ _ (.inr d) e2,c⟩,r⟩
 |own y=>obtain⟨ob,e⟩:=x;exact⟨ob,k _ _ (.inl rfl) e⟩
 |xd fs=>obtain⟨mA,⟨od,es,ep,e,c⟩,r⟩:=x;exact⟨mA,⟨od,es,ep,k _ _ (.inl rfl) e,c⟩,r⟩
 |rng lo hi=>obtain⟨t,u,v,e⟩:=x;exact⟨t,u,v,k _ _ (.inl rfl) e⟩
 |frz ob u ih=>obtain⟨e,q⟩:=x;exact⟨k _ _ (.inl rfl) e,ih q⟩
 |tbl ps =>
  have e:h.get? a=some { cls:=.none,data:=.fields ps }:=x;show h'.get? a=some { cls:=.none,data:=.fields ps };exact k a _ (.inl rfl) e
 |met f y =>
  have e:h.get? a=some (PySem.W.methodObj (.ref f) (.ref y)):=x;show h'.get? a=some (PySem.W.methodObj (.ref f) (.ref y));exact k a _ (.inl rfl) e
 |ext φ=>obtain⟨p,⟨o,e⟩,st⟩:=x;exact⟨st _ _ p λo q=>k _ _ (.inl rfl) q,⟨o,k _ _ (.inl rfl) e⟩,st⟩
theorem HOk.lt(x:HOk P w H h)(e:H a=some o):a<h.objs.size:=(x a o e).lt
theorem HOk.fresh(x:HOk P w H h)(e:h.objs.size<=a):H a=none:=by
 cases q:H a with
 |none=>rfl
 |some u=>exact Yg (Xk (x.lt q) e) (YW _)
theorem HOk.kept(x:HOk P w H h)(k:∀b u,h.get? b=some u->h'.get? b=some u):HOk P w H h':=λa o e =>
 (x a o e).stay (λb u _ q=>k b u q) (λ_ q=>q) λ_ _ q=>q
theorem HOk.laid(x:HOk P w H h)(k:∀b u,h.get? b=some u->h'.get? b=some u)(hp:h.objs.size<=a)(new:bI P w (upd H a o) h' a o):HOk P w (upd H a o) h':=λb u e=>by
 have hn:=x.fresh hp;by_cases hb:b=a
 ·subst hb;rw[aA]at e;cases e;exact new
 ·rw[aF hb]at e;exact(x b u e).stay (λc v _ q=>k c v q) (λc q=>by rw[aF (aI q hn)];exact q) λc xs q=>by rw[aF (aI q hn)];exact q
end
def Rd(H:Hp)(a:Addr)(u:HO):Prop:=H a=some u\/∃o,H a=some (.frz o u)
theorem Rd.ok{P:Program}{w:World}{H:Hp}{h:Heap}{a:Addr}{u:HO}(r:Rd H a u)(x:HOk P w H h):bI P w H h a u:=by
 rcases r with r | ⟨o,r⟩
 ·exact x a u r
 ·obtain⟨_,q⟩:=x a _ r;exact q
def Mut:Option HO->Prop
 |some (.lst _)=>True
 |some (.dK _)=>True
 |some (.dT _)=>True
 |some (.set _ _)=>True
 |some (.ins _ _ _)=>True
 |some (.ext _)=>True
 |_=>False
section
variable{P:Program}{w:World}{H:Hp}{h h':Heap}{x e:Addr}{o':HO}
theorem HOk.write(ok:HOk P w H h)(mu:Mut (H x))(he:e=x\/H e=some (.own x))(k:∀b u,b≠e->h.get? b=some u->h'.get? b=some u)(heo:∃u,h'.get? e=some u)
  (new:bI P w (upd H x o') h' x o'):HOk P w (upd H x o') h':=λb u q=>by
 have nown:∀c y,H c=some (.own y)->c≠x:=λc y r z=>by subst z;rw[r]at mu;exact mu
 have ntup:∀c xs,H c=some (.tup xs)->c≠x:=λc xs r z=>by subst z;rw[r]at mu;exact mu
 by_cases hb:b=x
 ·subst hb;rw[aA]at q;cases q;exact new
 ·rw[aF hb]at q;by_cases hbe:b=e
  ·have q':H b=some (.own x):=by
    rcases he with z | z
    ·exact Yg (hbe.trans z) hb
    ·rw[hbe];exact z
   rw[q]at q';cases q';obtain⟨v,hv⟩:=heo;exact⟨v,by rw[hbe];exact hv⟩
  ·refine(ok b u q).stay (λc v hc r=>k c v ?_ r) (λc r=>by rw[aF (nown c b r)];exact r) λc xs r=>by rw[aF (ntup c xs r)];exact r
   rcases hc with rfl | hc
   ·exact hbe
   ·rintro rfl;rcases he with z | z
    ·exact nown c b hc z
    ·rw[hc]at z;cases z;exact hb rfl
end
structure Un(fs ex:List Addr)(H H':Hp)(h h':Heap):Prop where
 keep:∀b o,h.get? b=some o->H b=none->b∉fs->b∉ex->h'.get? b=some o
 slot:∀b o,h.get? b=some o->H b=none->b∈fs->b∉ex->∃sl,h'.get? b=some { o with slots:=sl }
 free:∀b o,h.get? b=some o->H b=none->b∉ex->H' b=none
 there:∀b o,h.get? b=some o->b∉ex->∃o',h'.get? b=some o'
 tups:∀b xs,H b=some (.tup xs)->H' b=some (.tup xs)
 frzs:∀b o u,H b=some (.frz o u)->H' b=some (.frz o u)
 tbls:∀b ps,H b=some (.tbl ps)->∃more,H' b=some (.tbl (ps++more))
section
variable{fs fs' ex ex':List Addr}{H H1 H2:Hp}{h h1 h2 h':Heap}{a x e:Addr}{o:HO}
theorem Un.any(u:Un fs ex H H1 h h1){b:Addr}{ob:Obj}(q:h.get? b=some ob)(n:H b=none)(hx:b∉ex):∃sl,h1.get? b=some { ob with slots:=sl }:=by
 by_cases hb:b∈fs
 ·exact u.slot b ob q n hb hx
 ·exact⟨ob.slots,u.keep b ob q n hb hx⟩
theorem Un.kept(k:∀b u,h.get? b=some u->h'.get? b=some u):Un fs ex H H h h' :=
 ⟨λb ob q _ _ _=>k b ob q,λb ob q _ _ _=>⟨ob.slots,k b ob q⟩,λ_ _ _ n _=>n,λb ob q _=>⟨ob,k b ob q⟩,λ_ _ q=>q,λ_ _ _ q=>q,λ_ ps q=>⟨#[],by rw[q];simp⟩⟩
theorem Un.refl:Un fs ex H H h h:=Un.kept λ_ _ q=>q
theorem Un.laid(k:∀b u,h.get? b=some u->h'.get? b=some u)(hp:h.objs.size<=a)(hn:H a=none):Un fs ex H (upd H a o) h h' where
 keep:=λb u q _ _ _=>k b u q
 slot:=λb u q _ _ _=>⟨u.slots,k b u q⟩
 free:=λb u q n _=>by rw[aF (YZ (Xk (YT q) hp))];exact n
 there:=λb u q _=>⟨u,k b u q⟩
 tups:=λb xs q=>by rw[aF (aI q hn)];exact q
 frzs:=λb u xs q=>by rw[aF (aI q hn)];exact q
 tbls:=λb ps q=>⟨#[],by rw[aF (aI q hn),q];simp⟩
theorem Un.write(mu:Mut (H x))(he:e=x\/H e=some (.own x))(k:∀b u,b≠e->h.get? b=some u->h'.get? b=some u)(heo:∃u,h'.get? e=some u):Un fs ex H (upd H x o) h h':=by
 have hx:∀b,H b=none->b≠x:=λb n z=>by subst z;rw[n]at mu;exact mu
 have hb:∀b,H b=none->b≠e:=λb n z=>by
  subst z;rcases he with r | r
  ·exact hx b n r
  ·rw[n]at r;cases r
 have hm:∀b u,H b=some u->¬Mut (some u)->b≠x:=λb u q nm z=>by subst z;rw[q]at mu;exact nm mu
 refine⟨λb u q n _ _=>k b u (hb b n) q,λb u q n _ _=>⟨u.slots,k b u (hb b n) q⟩,λb u q n _=>by rw[aF (hx b n)];exact n,λb u q _=>?_,
  λb xs q=>by rw[aF (hm b _ q λz=>z)];exact q,λb u xs q=>by rw[aF (hm b _ q λz=>z)];exact q,λb ps q=>⟨#[],by rw[aF (hm b _ q λz=>z),q];simp⟩⟩
 by_cases hbe:b=e
 ·subst hbe;exact heo
 ·exact⟨u,k b u hbe q⟩
end
def trk(h:Heap)(H:Hp):List Addr:=(ZR h.objs.size).filter λa=>(H a).isSome
def tV(h:Heap)(H:Hp):Heap:=PySem.W.hideAll h (trk h H)
theorem BQ(h:Heap)(H:Hp):(tV h H).objs.size=h.objs.size:=PySem.W.hideAll_size _ _
theorem EV{h:Heap}{H:Hp}{b:Addr}{o:Obj}(e:h.get? b=some o)(n:H b=none):(tV h H).get? b=some o :=
 PySem.W.hideAll_get _ e λhm=>by
  have q:(H b).isSome=true:=(Yz.mp hm).2;rw[n]at q;simp at q
theorem G5{h:Heap}{H:Hp}{b:Addr}{o:Obj}(e:(tV h H).get? b=some o):h.get? b=some o/\H b=none:=by
 have e':h.get? b=some o:=PySem.W.of_hideAll (trk h H) e;refine⟨e',?_⟩;cases q:H b with
 |none=>rfl
 |some x =>
  have hm:b∈trk h H:=Yz.mpr ⟨Zs.mpr (YT e'),by simp[q]⟩;have z:(tV h H).get? b=none:=PySem.W.hideAll_none (trk h H) hm;rw[z]at e;cases e
structure Mod(K:PySem.W.Frag)(mg:Str->Option Value)(base:Heap):Prop where
 kin:K.In base
 glob:base.Ns ZV mg
 blt:∃mb,base.Ns builtinsNs mb/\∀x:Str,x≠"__name__"->mb x=bootBuiltins x
 nolimit:base.NoLimit
structure Cx where
 prog:Program
 w:World
 K:PySem.W.Frag
 mg:Str->Option Value
 base:Heap
 A:Around
 N:List Str
 s₀:Shared
 H₀:Hp
 env:Env
 outer:List Env
 stack:List Env
 ex:List Addr
 fn:Str->Bool
 calm:Bool
 pn:List (Addr×Obj)
 xe:Value->Shared->Prop
def frs(l:List Env):List Addr:=l.filterMap (·.frame)
abbrev Cx.fs(X:Cx):List Addr:=frs X.outer
def Vis(sc:Scope)(x:Str):Prop:=sc.names.lookup x=some .local\/sc.names.lookup x=some .cell\/sc.names.lookup x=some .free
def Loc(sc:Scope)(x:Str):Prop:=sc.names.lookup x=some .local\/sc.names.lookup x=some .cell
def Look(env:Env)(h:Heap)(m:Str->Option Value)(x:Str)(u:Value):Prop :=
 (env.kindOf x=some .local/\m x=some u)\/((env.kindOf x=some .cell\/env.kindOf x=some .free)/\∃c,env.cells.lookup x=some c/\h.IsCell c (some u))
structure Cx.Ok(X:Cx):Prop where
 mod:Mod X.K X.mg X.base
 kind:X.env.scope.kind=.function
 glob:X.env.globals=ZV
 blt:X.env.builtins=builtinsNs
 above:X.s₀.heap.objs.size<=X.env.locals
 inj:∀x y c,X.env.cells.lookup x=some c->X.env.cells.lookup y=some c->x=y
 has:∀x,(X.env.kindOf x=some .cell\/X.env.kindOf x=some .free)->∃c,X.env.cells.lookup x=some c
 cab:∀x c,X.fn x=true->X.env.cells.lookup x=some c->X.s₀.heap.objs.size<=c
 hd:X.calm=true->X.A.handled=none
 frames:X.A.frames=some X.stack
 stk:X.stack=X.outer\/(X.stack=X.env::X.outer/\X.env.frame=some X.env.locals)
 exf:∀b∈X.ex,b≠X.env.locals/\∀x c,X.env.cells.lookup x=some c->c≠b
 bs:∀b o,X.base.get? b=some o->X.s₀.heap.get? b=some o/\X.H₀ b=none
 bsz:X.base.objs.size<=X.s₀.heap.objs.size
 noex:∀b o,X.base.get? b=some o->b∉X.ex
 exfs:∀b∈X.ex,b∉X.fs
 funs:X.s₀.heap.FunFrames X.base X.outer
 frf:∀b∈X.fs,X.H₀ b=none
structure Inv(X:Cx)(pins:List (Addr×Obj))(σ:List (Option V))(H:Hp)(s:Shared):Prop where
 ok:X.Ok
 os:s.os=X.s₀.os
 bare:AllBare s.gens
 base:Un X.fs X.ex X.H₀ H X.s₀.heap s.heap
 loc:∃m,s.heap.Ns X.env.locals m/\∀(i:Nat) (x:Str) (v:V),X.N[i]?=some x->σ[i]?=some (some v)->Vis X.env.scope x->∃u,RelV v u/\Look X.env s.heap m x u
 cell:∀x c,X.env.cells.lookup x=some c->∃v,s.heap.IsCell c v
 free:H X.env.locals=none
 freeC:∀x c,X.env.cells.lookup x=some c->H c=none
 pin:∀p∈X.pn++pins,s.heap.get? p.1=some p.2/\H p.1=none/\p.1≠X.env.locals/\p.1∉X.fs/\∀v,p.2.data≠.cell v
 hok:HOk X.prog X.w H s.heap
 len:σ.length=X.N.length
section
variable{X:Cx}{pins:List (Addr×Obj)}{σ:List (Option V)}{H H':Hp}{s:Shared}{h':Heap}
theorem Cx.Ok.nofr(ok:X.Ok){b:Addr}{o:Obj}(e:X.base.get? b=some o):b∉X.fs:=λhb=>by
 have:=(ok.funs.mem hb).1;rw[e]at this;cases this
theorem Inv.bs(I:Inv X pins σ H s):∀b o,X.base.get? b=some o->s.heap.get? b=some o/\H b=none:=λb o e =>
 ⟨I.base.keep b o (I.ok.bs b o e).1 (I.ok.bs b o e).2 (I.ok.nofr e) (I.ok.noex b o e),I.base.free b o (I.ok.bs b o e).1 (I.ok.bs b o e).2 (I.ok.noex b o e)⟩
theorem Inv.bk(I:Inv X pins σ H s):∀b o,X.base.get? b=some o->s.heap.get? b=some o:=λb o e=>(I.bs b o e).1
theorem Inv.mod(I:Inv X pins σ H s):Mod X.K X.mg X.base:=I.ok.mod
theorem Inv.kIn(I:Inv X pins σ H s):X.K.In s.heap:=I.ok.mod.kin.keeps I.bk
theorem Inv.fr(I:Inv X pins σ H s):∃m,Fr X.base X.env.locals s.heap m :=
 let⟨m,hn,_⟩:=I.loc
 ⟨m,hn,I.bk,Xz I.ok.bsz I.ok.above⟩
theorem Inv.lt(I:Inv X pins σ H s):X.env.locals<s.heap.objs.size:=let⟨_,hn,_⟩:=I.loc;hn.lt
theorem Inv.sz(I:Inv X pins σ H s):X.s₀.heap.objs.size<=s.heap.objs.size:=Xz I.ok.above (Nat.le_of_lt I.lt)
theorem Inv.nofs(I:Inv X pins σ H s){a:Addr}(h:s.heap.objs.size<=a):a∉X.fs:=λhb=>by
 obtain⟨_,o,ho,_⟩:=I.ok.funs.mem hb;exact Yg (Xk (YT ho) (Xz I.sz h)) (YW _)
theorem Inv.cne(I:Inv X pins σ H s):∀x c,X.env.cells.lookup x=some c->c≠X.env.locals:=λx c e z=>by
 obtain⟨v,o,ho,hd⟩:=I.cell x c e;obtain⟨m,⟨o',es,ep,ho',hd',_⟩,_⟩:=I.loc;rw[z,ho']at ho;cases ho;rw[hd']at hd;cases hd
theorem Inv.funs(I:Inv X pins σ H s):s.heap.FunFrames X.base X.outer:=by
 have all:∀(l:List Env),(∀b∈frs l,b∈X.fs)->X.s₀.heap.FunFrames X.base l->s.heap.FunFrames X.base l:=by
  intro l;induction l with
  |nil=>intro _ _;trivial
  |cons env r ih =>
   intro hs hl;obtain⟨hk,⟨L,o,hf,hn,ho,hd⟩,hr⟩:=hl;have hL:L∈X.fs:=hs L (by unfold frs;rw[List.filterMap_cons,hf];exact Zd);obtain⟨sl,e⟩:=I.base.slot L o ho (I.ok.frf L hL) hL λz=>I.ok.exfs L z hL;exact⟨hk,⟨L,_,hf,hn,e,hd⟩,ih (λb hb=>hs b (by unfold frs;rw[List.filterMap_cons,hf];exact Zw _ hb)) hr⟩
 exact all X.outer (λ_ hb=>hb) I.ok.funs
theorem Inv.stack(I:Inv X pins σ H s):s.heap.FunFrames X.base X.stack:=by
 rcases I.ok.stk with e | ⟨e,hf⟩
 ·rw[e];exact I.funs
 ·rw[e];obtain⟨m,hn,_⟩:=I.loc;refine .cons (by rw[I.ok.kind];decide) hf hn ?_ I.funs;exact Heap.get?_none_of_le (Xz I.ok.bsz I.ok.above)
theorem Inv.stkSub(I:Inv X pins σ H s):∀b∈frs X.stack,b∈X.env.locals::X.fs:=λb hb=>by
 rcases I.ok.stk with e | ⟨e,hf⟩
 ·rw[e]at hb;exact Zw _ hb
 ·rw[e]at hb;unfold frs at hb;rw[List.filterMap_cons,hf]at hb;exact hb
theorem Inv.stkFree(I:Inv X pins σ H s):∀b∈frs X.stack,H b=none:=λb hb=>by
 rcases Zn.mp (I.stkSub b hb) with e | hb
 ·rw[e];exact I.free
 ·obtain⟨_,o,ho,_⟩:=I.ok.funs.mem hb;exact I.base.free b o ho (I.ok.frf b hb) λz=>I.ok.exfs b z hb
theorem Inv.step{g':Array GenState}{t':Nat}{d':Drawn}{ch:List Addr}(I:Inv X pins σ H s)
  (hch:∀b∈ch,(b∈X.ex\/X.s₀.heap.objs.size<=b)/\b≠X.env.locals/\(∀x c,X.env.cells.lookup x=some c->c≠b)/\∀p∈X.pn++pins,p.1≠b)
  (keep:∀b o,b≠X.env.locals->b∉X.fs->b∉ch->s.heap.get? b=some o->H b=none->h'.get? b=some o)
  (slot:∀b o,b≠X.env.locals->b∈X.fs->b∉ch->s.heap.get? b=some o->H b=none->∃sl,h'.get? b=some { o with slots:=sl }) (free:∀b o,b∉ch->s.heap.get? b=some o->H b=none->H' b=none)
  (there:∀b o,b∉ch->s.heap.get? b=some o->∃o',h'.get? b=some o')
  (tups:∀b xs,H b=some (.tup xs)->H' b=some (.tup xs)) (frzs:∀b o u,H b=some (.frz o u)->H' b=some (.frz o u)) (tbls:∀b ps,H b=some (.tbl ps)->∃more,H' b=some (.tbl (ps++more)))
  (ns:∀m,s.heap.Ns X.env.locals m->h'.Ns X.env.locals m) (hok:HOk X.prog X.w H' h') (hg:AllBare g') :
  Inv X pins σ H' { s with heap:=h',gens:=g',drawn:=d',toks:=t' }:=by
 have neL:∀b o,X.s₀.heap.get? b=some o->b≠X.env.locals:=λb o e=>YZ (Xk (YT e) I.ok.above);have neC:∀b o,X.s₀.heap.get? b=some o->b∉X.ex->b∉ch:=λb o e hx hb=>by
  rcases(hch b hb).1 with z | z
  ·exact hx z
  ·exact Yg (Xk (YT e) z) (YW _)
 have cellK:∀x c,X.env.cells.lookup x=some c->∀v,s.heap.IsCell c v->h'.IsCell c v:=λx c e v ⟨o,ho,hd⟩=>by
  have nch:c∉ch:=λz=>(hch c z).2.2.1 x c e rfl;by_cases hc:c∈X.fs
  ·obtain⟨sl,q⟩:=slot c o (I.cne x c e) hc nch ho (I.freeC x c e);exact⟨_,q,hd⟩
  ·exact⟨o,keep c o (I.cne x c e) hc nch ho (I.freeC x c e),hd⟩
 refine⟨I.ok,I.os,hg,⟨λb o e n hb hx=>?_,λb o e n hb hx=>?_,λb o e n hx=>?_,λb o e hx=>?_,λb xs e=>tups b xs (I.base.tups b xs e),λb o xs e=>frzs b o xs (I.base.frzs b o xs e),λb ps e=>?_⟩,?_,λx c e=>?_,?_,λx c e=>?_,λp hp=>?_,hok,I.len⟩
 ·exact keep b o (neL b o e) hb (neC b o e hx) (I.base.keep b o e n hb hx) (I.base.free b o e n hx)
 ·obtain⟨sl,e1⟩:=I.base.slot b o e n hb hx;obtain⟨sl',e2⟩:=slot b _ (neL b o e) hb (neC b o e hx) e1 (I.base.free b o e n hx);exact⟨sl',e2⟩
 ·obtain⟨o',e1⟩:=I.base.there b o e hx;exact free b o' (neC b o e hx) e1 (I.base.free b o e n hx)
 ·obtain⟨o',e1⟩:=I.base.there b o e hx;exact there b o' (neC b o e hx) e1
 ·obtain⟨m1,e1⟩:=I.base.tbls b ps e;obtain⟨m2,e2⟩:=tbls b _ e1;exact⟨m1++m2,by rw[e2,Array.append_assoc]⟩
 ·obtain⟨m,hn,hl⟩:=I.loc;refine⟨m,ns m hn,λi x v e1 e2 e3=>?_⟩;obtain⟨u,r,l⟩:=hl i x v e1 e2 e3;refine⟨u,r,?_⟩;rcases l with l | ⟨k,c,e,z⟩
  ·exact .inl l
  ·exact .inr ⟨k,c,e,cellK x c e _ z⟩
 ·obtain⟨v,z⟩:=I.cell x c e;exact⟨v,cellK x c e v z⟩
 ·obtain⟨m,⟨o,_,_,ho,_⟩,_⟩:=I.loc;exact free _ o (λz=>(hch _ z).2.1 rfl) ho I.free
 ·obtain⟨v,o,ho,hd⟩:=I.cell x c e;exact free c o (λz=>(hch c z).2.2.1 x c e rfl) ho (I.freeC x c e)
 ·obtain⟨e,n,ne,nf,d⟩:=I.pin p hp;have nch:p.1∉ch:=λz=>(hch p.1 z).2.2.2 p hp rfl;exact⟨keep p.1 p.2 ne nf nch e n,free p.1 p.2 nch e n,ne,nf,d⟩
theorem Inv.un{t':Nat}(I:Inv X pins σ H s)(u:Un X.fs [] H H' s.heap h')(hok:HOk X.prog X.w H' h'):Inv X pins σ H' { s with heap:=h',toks:=t' }:=by
 obtain⟨m,⟨o,es,ep,ho,r⟩,_⟩:=id I.loc;obtain⟨sl,hL⟩:=u.any ho I.free (by simp);exact I.step (g':=s.gens) (d':=s.drawn) (ch:=[]) (λ_ z=>nomatch z) (λb o _ hb _ e n=>u.keep b o e n hb (by simp)) (λb o _ hb _ e n=>u.slot b o e n hb (by simp)) (λb o _ e n=>u.free b o e n (by simp)) (λb o _ e=>u.there b o e (by simp)) u.tups u.frzs u.tbls (λm' hm=>by
  obtain⟨o',es',ep',ho',r'⟩:=hm;rw[ho]at ho';cases ho';exact⟨_,es',ep',hL,r'⟩) hok I.bare
theorem Inv.call{g':Array GenState}{t':Nat}{d':Drawn}{ch:List Addr}(I:Inv X pins σ H s)(u:Un (frs X.stack) ch H H' s.heap h')(hok:HOk X.prog X.w H' h')(hg:AllBare g')
  (hch:∀b∈ch,(b∈X.ex\/X.s₀.heap.objs.size<=b)/\b≠X.env.locals/\(∀x c,X.env.cells.lookup x=some c->c≠b)/\∀p∈X.pn++pins,p.1≠b) :
  Inv X pins σ H' { s with heap:=h',gens:=g',drawn:=d',toks:=t' }:=by
 obtain⟨m,⟨o,es,ep,ho,r⟩,_⟩:=id I.loc;obtain⟨sl,hL⟩:=u.any ho I.free λz=>(hch _ z).2.1 rfl;exact I.step (ch:=ch) hch (λb o hL hb hc e n=>u.keep b o e n (λz=>(Zn.mp (I.stkSub b z)).elim hL hb) hc) (λb o _ _ hc e n=>u.any e n hc) (λb o hc e n=>u.free b o e n hc) (λb o hc e=>u.there b o e hc) u.tups u.frzs u.tbls (λm' hm=>by
  obtain⟨o',es',ep',ho',r'⟩:=hm;rw[ho]at ho';cases ho';exact⟨_,es',ep',hL,r'⟩) hok hg
theorem Inv.turned{t':Nat}{it:Addr}(I:Inv X pins σ H s)(k:∀b o,b≠it->s.heap.get? b=some o->h'.get? b=some o)(hn:H it=none)(hL:it≠X.env.locals)
  (h1:it∈X.ex\/X.s₀.heap.objs.size<=it) (h2:∀x c,X.env.cells.lookup x=some c->c≠it) (h3:∀p∈X.pn++pins,p.1≠it):Inv X pins σ H { s with heap:=h',toks:=t' }:=by
 have nit:∀b u,H b=some u->b≠it:=λb u e z=>by rw[z,hn]at e;cases e
 refine I.step (g':=s.gens) (d':=s.drawn) (ch:=[it]) (λb hb=>?_) (λb o _ _ hc e _=>k b o (λz=>hc (by simp[z])) e) (λb o _ _ hc e _=>⟨o.slots,k b o (λz=>hc (by simp[z])) e⟩) (λ_ _ _ _ n=>n)
  (λb o hc e=>⟨o,k b o (λz=>hc (by simp[z])) e⟩) (λ_ _ e=>e) (λ_ _ _ e=>e) (λb ps e=>⟨#[],by rw[e];simp⟩) (λm hm=>?_) (λb u e=>?_) I.bare
 ·have e:b=it:=by simpa using hb
  subst e;exact⟨h1,hL,h2,h3⟩
 ·obtain⟨o,es,ep,ho,r⟩:=hm;exact⟨o,es,ep,k _ o (Yh hL) ho,r⟩
 ·refine(I.hok b u e).stay (λc v hc q=>k c v ?_ q) (λ_ q=>q) λ_ _ q=>q;rcases hc with z | z
  ·rw[z];exact nit b u e
  ·exact nit c _ z
theorem Inv.tok(I:Inv X pins σ H s)(t:Nat):Inv X pins σ H { s with toks:=t }:=I.un (h':=s.heap) (t':=t) Un.refl I.hok
theorem Inv.kept{t':Nat}(I:Inv X pins σ H s)(k:∀b u,s.heap.get? b=some u->h'.get? b=some u):Inv X pins σ H { s with heap:=h',toks:=t' }:=I.un (Un.kept k) (I.hok.kept k)
theorem Inv.laid{a:Addr}{o:HO}{t':Nat}(I:Inv X pins σ H s)(k:∀b u,s.heap.get? b=some u->h'.get? b=some u)(hp:s.heap.objs.size<=a)(new:bI X.prog X.w (upd H a o) h' a o) :
  Inv X pins σ (upd H a o) { s with heap:=h',toks:=t' }:=I.un (Un.laid k hp (I.hok.fresh hp)) (I.hok.laid k hp new)
theorem Inv.write{x e:Addr}{o:HO}{t':Nat}(I:Inv X pins σ H s)(mu:Mut (H x))(he:e=x\/H e=some (.own x))(k:∀b u,b≠e->s.heap.get? b=some u->h'.get? b=some u)(heo:∃u,h'.get? e=some u)
  (new:bI X.prog X.w (upd H x o) h' x o):Inv X pins σ (upd H x o) { s with heap:=h',toks:=t' }:=I.un (Un.write mu he k heo) (I.hok.write mu he k heo new)
theorem Inv.weak{σ':List (Option V)}(I:Inv X pins σ H s)(hl:σ'.length=σ.length)(w:∀(i:Nat) v,σ'[i]?=some (some v)->σ[i]?=some (some v)):Inv X pins σ' H s :=
 ⟨I.ok,I.os,I.bare,I.base,let⟨m,hn,hl'⟩:=I.loc;⟨m,hn,λi x v e1 e2 e3=>hl' i x v e1 (w i v e2) e3⟩,I.cell,I.free,I.freeC,I.pin,I.hok,hl.trans I.len⟩
theorem Inv.pins_of{pins':List (Addr×Obj)}(I:Inv X pins σ H s)(h:∀p∈pins',s.heap.get? p.1=some p.2/\H p.1=none/\p.1≠X.env.locals/\p.1∉X.fs/\∀v,p.2.data≠.cell v):Inv X pins' σ H s :=
 ⟨I.ok,I.os,I.bare,I.base,I.loc,I.cell,I.free,I.freeC,λp hp=>(Zf.mp hp).elim (λz=>I.pin p (ZO _ z)) (h p),I.hok,I.len⟩
theorem pV{N:List Str}(hN:N.Nodup){i j:Nat}{x:Str}(a:N[i]?=some x)(b:N[j]?=some x):i=j:=by
 obtain⟨h1,e1⟩:=Zj.mp a;obtain⟨h2,e2⟩:=Zj.mp b;exact(List.getElem_inj hN).mp (e1.trans e2.symm)
theorem AV{M:Model}{A:Around}{E:Value->Shared->Prop}{i:Nat}{x:Str}{v:V}{u:Value}{Q:Unit->Shared->Prop}(I:Inv X pins σ H s)(hN:X.N.Nodup)(hi:X.N[i]?=some x)(hx:Loc X.env.scope x)(r:RelV v u)
  (h:∀s',Inv X pins (σ.set i (some v)) H s'->(∃a,Heap.SameBut a s.heap s'.heap/\(a=X.env.locals\/X.env.cells.lookup x=some a))->Q () s') (hf:X.fn x=true\/X.env.scope.names.lookup x=some .local:=by first | exact .inl rfl | exact .inr rfl | assumption):wpAny M A (storeName X.env x u) Q E s:=by
 obtain⟨m,hn,hl⟩:=id I.loc;have hcls:(X.env.scope.kind==.class||(X.env.scope.kind==.module&&X.env.locals != X.env.globals))=false:=by rw[I.ok.kind];rfl
 have hiσ:i<σ.length:=by rw[I.len];exact(Zj.mp hi).1
 have cne:=I.cne;have tracked:∀{a:Addr}{h':Heap},(∃o,s.heap.get? a=some o/\H a=none)->Heap.SameBut a s.heap h'->HOk X.prog X.w H h':=λ{a h'} ha hs b ob e=>by
  obtain⟨_,_,hfree⟩:=ha;refine(I.hok b ob e).stay (λc w' hc q=>(hs.2 c ?_).trans q) (λ_ q=>q) λ_ _ q=>q;rintro rfl;rcases hc with rfl | hc
  ·rw[hfree]at e;cases e
  ·rw[hfree]at hc;cases hc
 rcases hx with hk | hk
 ·refine wpAny_storeName_local hk hn (λh' hn' hs=>?_) hcls;obtain⟨oL,_,_,hoL,_⟩:=id hn;refine h _ ⟨I.ok,I.os,I.bare,⟨λb o e n hb hx=>?_,λb o e n hb hx=>?_,I.base.free,λb o e hx=>?_,I.base.tups,I.base.frzs,I.base.tbls⟩,⟨_,hn',λj y v' e1 e2 e3=>?_⟩,λy c e=>?_,I.free,I.freeC,λp hp=>?_,tracked ⟨oL,hoL,I.free⟩ hs,by simpa using I.len⟩ ⟨_,hs,.inl rfl⟩
  ·exact(hs.2 b (YZ (Xk (YT e) I.ok.above))).trans (I.base.keep b o e n hb hx)
  ·obtain⟨sl,e1⟩:=I.base.slot b o e n hb hx;exact⟨sl,(hs.2 b (YZ (Xk (YT e) I.ok.above))).trans e1⟩
  ·obtain⟨o',e1⟩:=I.base.there b o e hx;exact⟨o',(hs.2 b (YZ (Xk (YT e) I.ok.above))).trans e1⟩
  ·by_cases hj:j=i
   ·subst hj;rw[hi]at e1;cases e1;rw[ZK hiσ]at e2;cases e2;exact⟨u,r,.inl ⟨hk,by simp⟩⟩
   ·rw[ZJ (Yh hj)]at e2;obtain⟨u',r',q⟩:=hl j y v' e1 e2 e3;refine⟨u',r',?_⟩;rcases q with⟨k,e⟩ | ⟨k,c,e,z⟩
    ·refine .inl ⟨k,?_⟩;have:y≠x:=λe=>hj (pV hN e1 (e▸hi));simp[this,e]
    ·exact .inr ⟨k,c,e,z.sameBut hs (cne y c e)⟩
  ·obtain⟨w',z⟩:=I.cell y c e;exact⟨w',z.sameBut hs (cne y c e)⟩
  ·obtain⟨e,n,ne,nf,d⟩:=I.pin p hp;exact⟨(hs.2 p.1 ne).trans e,n,ne,nf,d⟩
 ·have hfn:X.fn x=true:=by
   rcases hf with z | z
   ·exact z
   ·rw[z]at hk;cases hk
  obtain⟨c,hc⟩:=I.ok.has x (.inl hk);obtain⟨w',z⟩:=I.cell x c hc;refine wpAny_storeName_cell I.ok.kind hk hc z (λh' hc' hs=>?_);obtain⟨oc,hoc,hocd⟩:=id z;refine h { s with heap:=h' } ⟨I.ok,I.os,I.bare,⟨λb o e n hb hx=>?_,λb o e n hb hx=>?_,I.base.free,λb o e hx=>?_,I.base.tups,I.base.frzs,I.base.tbls⟩,⟨m,hn.sameBut hs (Yh (cne x c hc)),λj y v' e1 e2 e3=>?_⟩,λy c' e=>?_,I.free,I.freeC,λp hp=>?_,tracked ⟨oc,hoc,I.freeC x c hc⟩ hs,by simpa using I.len⟩ ⟨c,hs,.inr hc⟩
  ·exact(hs.2 b (YZ (Xk (YT e) (I.ok.cab x c hfn hc)))).trans (I.base.keep b o e n hb hx)
  ·obtain⟨sl,e1⟩:=I.base.slot b o e n hb hx;exact⟨sl,(hs.2 b (YZ (Xk (YT e) (I.ok.cab x c hfn hc)))).trans e1⟩
  ·obtain⟨o',e1⟩:=I.base.there b o e hx;exact⟨o',(hs.2 b (YZ (Xk (YT e) (I.ok.cab x c hfn hc)))).trans e1⟩
  ·by_cases hj:j=i
   ·subst hj;rw[hi]at e1;cases e1;rw[ZK hiσ]at e2;cases e2;exact⟨u,r,.inr ⟨.inl hk,c,hc,hc'⟩⟩
   ·rw[ZJ (Yh hj)]at e2;obtain⟨u',r',q⟩:=hl j y v' e1 e2 e3;refine⟨u',r',?_⟩;rcases q with q | ⟨k,c',e,z'⟩
    ·exact .inl q
    ·refine .inr ⟨k,c',e,z'.sameBut hs ?_⟩;rintro rfl;exact hj (pV hN e1 (I.ok.inj _ _ _ e hc▸hi))
  ·by_cases hcc:c'=c
   ·subst hcc;exact⟨_,hc'⟩
   ·obtain⟨w2,z2⟩:=I.cell y c' e;exact⟨w2,z2.sameBut hs hcc⟩
  ·obtain⟨e,n,ne,nf,d⟩:=I.pin p hp;refine⟨(hs.2 p.1 ?_).trans e,n,ne,nf,d⟩;intro q;rw[q,hoc]at e;have q':oc=p.2:=Option.some.inj e;exact d w' (by rw[<-q'];exact hocd)
theorem dD{M:Model}{A:Around}{E:Value->Shared->Prop}{i:Nat}{x:Str}{v:V}{u:Value}{Q:Unit->Shared->Prop}(I:Inv X pins σ H s)(hN:X.N.Nodup)(hi:X.N[i]?=some x)(hx:Loc X.env.scope x)(r:RelV v u)
  (h:∀s',Inv X pins (σ.set i (some v)) H s'->Q () s') (hf:X.fn x=true\/X.env.scope.names.lookup x=some .local:=by first | exact .inl rfl | exact .inr rfl | assumption):wpAny M A (storeName X.env x u) Q E s :=
 AV I hN hi hx r (λs' I' _=>h s' I') hf
theorem Inv.call'{s':Shared}{ch:List Addr}(I:Inv X pins σ H s)(ho:s'.os=s.os)(u:Un (frs X.stack) ch H H' s.heap s'.heap)(hok:HOk X.prog X.w H' s'.heap)(hg:AllBare s'.gens)
  (hch:∀b∈ch,(b∈X.ex\/X.s₀.heap.objs.size<=b)/\b≠X.env.locals/\(∀x c,X.env.cells.lookup x=some c->c≠b)/\∀p∈X.pn++pins,p.1≠b):Inv X pins σ H' s':=by
 obtain⟨h',g',d',t',o'⟩:=s';have e:o'=s.os:=ho;subst e;exact I.call (g':=g') (t':=t') (d':=d') u hok hg hch
end
abbrev XK:=Value->Option Addr->Hp->Prop
abbrev St:=List (Option V)
abbrev VK:=V->Hp->Prop
abbrev TE:=St->Hp->VK->Prop
abbrev TT:=St->Hp->(Bool->Hp->Prop)->Prop
abbrev TA:=St->Hp->(List V->Hp->Prop)->Prop
structure Ends where
 nx:St->Hp->Prop
 rt:VK
 bk:St->Hp->Prop:=λ_ _=>False
 ct:St->Hp->Prop:=λ_ _=>False
abbrev TS:=Ends->St->Hp->Prop
def V.gi(x:V)(k:Int->Prop):Prop:=match x with | .int i=>k i | _=>False
def V.gr(x:V)(k:Addr->Prop):Prop:=match x with | .ref i=>k i | _=>False
def V.gb(x:V)(k:Bool->Prop):Prop:=match x with | .bl i=>k i | _=>False
def V.gs(x:V)(k:Str->Prop):Prop:=match x with | .str i=>k i | _=>False
theorem cQ{x:V}{k:Int->Prop}(h:x.gi k):∃i,x=.int i/\k i:=by cases x<;>first | exact⟨_,rfl,h⟩ | exact h.elim
theorem a8{x:V}{k:Addr->Prop}(h:x.gr k):∃i,x=.ref i/\k i:=by cases x<;>first | exact⟨_,rfl,h⟩ | exact h.elim
theorem iX{x:V}{k:Bool->Prop}(h:x.gb k):∃i,x=.bl i/\k i:=by cases x<;>first | exact⟨_,rfl,h⟩ | exact h.elim
theorem HY{x:V}{k:Str->Prop}(h:x.gs k):∃i,x=.str i/\k i:=by cases x<;>first | exact⟨_,rfl,h⟩ | exact h.elim
def LC(xs:List V)(k:V->List V->Prop):Prop:=match xs with | v::r=>k v r | []=>False
def L0(xs:List V)(k:Prop):Prop:=match xs with | []=>k | _::_=>False
theorem AD{xs:List V}{k:V->List V->Prop}(h:LC xs k):∃v r,xs=v::r/\k v r:=by cases xs<;>first | exact⟨_,_,rfl,h⟩ | exact h.elim
theorem FP{xs:List V}{k:Prop}(h:L0 xs k):xs=[]/\k:=by cases xs<;>first | exact⟨rfl,h⟩ | exact h.elim
theorem AE{xs:List V}{k:V->Prop}(h:LC xs λv r=>L0 r (k v)):∃v,xs=[v]/\k v:=by
 obtain⟨v,r,rfl,h⟩:=AD h;obtain⟨rfl,h⟩:=FP h;exact⟨_,rfl,h⟩
theorem JE{xs:List V}{k:V->V->Prop}(h:LC xs λv r=>LC r λw r=>L0 r (k v w)):∃v w,xs=[v,w]/\k v w:=by
 obtain⟨v,r,rfl,h⟩:=AD h;obtain⟨w,rfl,h⟩:=AE h;exact⟨_,_,rfl,h⟩
theorem OF{xs:List V}{k:V->V->V->Prop}(h:LC xs λv r=>LC r λw r=>LC r λu r=>L0 r (k v w u)):∃v w u,xs=[v,w,u]/\k v w u:=by
 obtain⟨v,r,rfl,h⟩:=AD h;obtain⟨w,u,rfl,h⟩:=JE h;exact⟨_,_,_,rfl,h⟩
def St.at:St->Nat->(V->Prop)->Prop
 |[],_,_=>False
 |o::_,0,k=>o.elim False k
 |_::l,i+1,k=>St.at l i k
theorem wB:∀{σ:St}{i:Nat}{k:V->Prop},St.at σ i k->∃v,σ[i]?=some (some v)/\k v
 |[],_,_,h=>h.elim
 |none::_,0,_,h=>h.elim
 |some v::_,0,_,h=>⟨v,rfl,h⟩
 |_::l,i+1,k,h=>wB (σ:=l) h
theorem qS:∀{σ:St}{i:Nat}{k:V->Prop}{v:V},σ[i]?=some (some v)->k v->St.at σ i k
 |some v::_,0,_,_,rfl,h=>h
 |_::l,i+1,k,_,e,h=>qS (σ:=l) e h
structure If(c:Bool)(A B:Prop):Prop where
 t:c=true->A
 f:c=false->B
theorem iF{A B:Prop}(h:B):If false A B:=⟨λz=>(by cases z),λ_=>h⟩
theorem iT{A B:Prop}(h:A):If true A B:=⟨λ_=>h,λz=>(by cases z)⟩
def Sc(b:Bool)(p:Prop):Prop:=match b with | true=>p | false=>False
theorem JD{b:Bool}{p:Prop}(h:Sc b p):b=true/\p:=by cases b<;>first | exact⟨rfl,h⟩ | exact h.elim
def EP(X:Cx)(pins:List (Addr×Obj))(σ:St)(Q:VK)(u:Value)(s':Shared):Prop:=∃v H',Inv X pins σ H' s'/\RelV v u/\Q v H'
def TP(X:Cx)(pins:List (Addr×Obj))(σ:St)(Q:Bool->Hp->Prop)(b:Bool)(s':Shared):Prop:=∃H',Inv X pins σ H' s'/\Q b H'
def AP(X:Cx)(pins:List (Addr×Obj))(σ:St)(Q:List V->Hp->Prop)(us:List Value)(s':Shared):Prop:=∃vs H',Inv X pins σ H' s'/\aV vs us/\Q vs H'
def SP(X:Cx)(pins:List (Addr×Obj))(D:Ends)(f:Flow)(s':Shared):Prop :=
 match f with
 |.next=>∃σ' H',Inv X pins σ' H' s'/\D.nx σ' H'
 |.brk=>∃σ' H',Inv X pins σ' H' s'/\D.bk σ' H'
 |.cont=>∃σ' H',Inv X pins σ' H' s'/\D.ct σ' H'
 |.ret u=>∃v σ' H',Inv X pins σ' H' s'/\RelV v u/\D.rt v H'
def PE(X:Cx)(e:Expr)(t:TE):Prop :=
 ∀(pins:List (Addr×Obj)) (s:Shared) (σ:St) (H:Hp) (Q:VK),Inv X pins σ H s->t σ H Q->wpAny (model X.prog X.w) X.A (eval e X.env) (EP X pins σ Q) X.xe s
def PT(X:Cx)(e:Expr)(t:TT):Prop :=
 ∀(pins:List (Addr×Obj)) (s:Shared) (σ:St) (H:Hp) (Q:Bool->Hp->Prop),Inv X pins σ H s->t σ H Q->wpAny (model X.prog X.w) X.A (isTrue e X.env (eval e X.env)) (TP X pins σ Q) X.xe s
def PW(X:Cx)(e:Expr)(t:TT):Prop :=
 ∀(whole:Sem Value) (pins:List (Addr×Obj)) (s:Shared) (σ:St) (H:Hp) (Q:Bool->Hp->Prop),Inv X pins σ H s->t σ H Q->wpAny (model X.prog X.w) X.A (isTrue e X.env whole) (TP X pins σ Q) X.xe s
theorem PW.pt{X:Cx}{e:Expr}{t:TT}(h:PW X e t):PT X e t:=h _
def PA(X:Cx)(es:List Expr)(t:TA):Prop :=
 ∀(pos:Pos) (pins:List (Addr×Obj)) (s:Shared) (σ:St) (H:Hp) (Q:List V->Hp->Prop),Inv X pins σ H s->t σ H Q->wpAny (model X.prog X.w) X.A (spliced (backTo pos (starEach es X.env))) (AP X pins σ Q) X.xe s
def PS(X:Cx)(st:Stmt)(t:TS):Prop :=
 ∀(pins:List (Addr×Obj)) (s:Shared) (σ:St) (H:Hp) (D:Ends),Inv X pins σ H s->t D σ H->wpAny (model X.prog X.w) X.A (exec st X.env) (SP X pins D) X.xe s
def PSs(X:Cx)(st:List Stmt)(t:TS):Prop :=
 ∀(pins:List (Addr×Obj)) (s:Shared) (σ:St) (H:Hp) (D:Ends),Inv X pins σ H s->t D σ H->wpAny (model X.prog X.w) X.A (execs st X.env) (SP X pins D) X.xe s
theorem thn{α:Type}{t:Sem α}{Q Q':α->Shared->Prop}{M:Model}{A:Around}{E:Value->Shared->Prop}{s:Shared}(h:wpAny M A t Q E s)(hQ:∀a s,Q a s->Q' a s):wpAny M A t Q' E s:=ZX h hQ λ_ _ x=>x
theorem bY{X:Cx}{pins:List (Addr×Obj)}{σ:St}{Q:VK}{t:Sem Value}{Q':Value->Shared->Prop}{M:Model}{A:Around}{E:Value->Shared->Prop}{s:Shared}(h:wpAny M A t (EP X pins σ Q) E s)(k:∀u s' v H',Inv X pins σ H' s'->RelV v u->Q v H'->Q' u s'):wpAny M A t Q' E s:=thn h λ_ _ ⟨_,_,a,b,c⟩=>k _ _ _ _ a b c
theorem CO{X:Cx}{pins:List (Addr×Obj)}{σ:St}{Q:Bool->Hp->Prop}{t:Sem Bool}{Q':Bool->Shared->Prop}{M:Model}{A:Around}{E:Value->Shared->Prop}{s:Shared}(h:wpAny M A t (TP X pins σ Q) E s)(k:∀b s' H',Inv X pins σ H' s'->Q b H'->Q' b s'):wpAny M A t Q' E s:=thn h λ_ _ ⟨_,a,b⟩=>k _ _ _ a b
theorem oY{X:Cx}{pins:List (Addr×Obj)}{σ:St}{Q:List V->Hp->Prop}{t:Sem (List Value)}{Q':List Value->Shared->Prop}{M:Model}{A:Around}{E:Value->Shared->Prop}{s:Shared}(h:wpAny M A t (AP X pins σ Q) E s)(k:∀us s' vs H',Inv X pins σ H' s'->aV vs us->Q vs H'->Q' us s'):wpAny M A t Q' E s:=thn h λ_ _ ⟨_,_,a,b,c⟩=>k _ _ _ _ a b c
section
variable{X:Cx}
def FY(i:Nat):TE:=λσ H Q=>St.at σ i λv=>Q v H
def tC(v:V):TE:=λ_ H Q=>Q v H
theorem KM{i:Nat}{x:Str}{pos:Pos}(hN:X.N[i]?=some x)(hv:Vis X.env.scope x)(hd:(x==("__debug__" : Str))=false:=by decide)(hcd:(x==("__classdict__" : Str))=false:=by decide):PE X (.Name x pos) (FY i):=by
 intro pins s σ H Q I h;obtain⟨v,e,z1⟩:=wB h;have h:=z1;obtain⟨m,hn,hl⟩:=I.loc;obtain⟨u,r,l⟩:=hl i x v hN e hv;have fin:EP X pins σ Q u s:=⟨v,H,I,r,h⟩
 rcases l with⟨hk,hm⟩ | ⟨hk,c,hc,hcell⟩
 ·exact wpAny_Name (wpAny_loadName_local I.ok.kind hk hn hm fin) hd
 ·rcases hk with hk | hk
  ·exact wpAny_Name (wpAny_loadName_cell I.ok.kind hk hc hcell fin) hd
  ·exact wpAny_Name (wpAny_loadName_free I.ok.kind hk hc hcell fin hcd) hd
theorem aQ{i j pos}:PE X (.Constant (.int i) j pos) (tC (.int i)):=λ_ _ _ H _ I h=>wpAny_Constant_int ⟨.int i,H,I.tok _,⟨_,rfl⟩,h⟩
theorem DS{b j pos}:PE X (.Constant (.bool b) j pos) (tC (.bl b)):=λ_ _ _ H _ I h=>Constant_bool ⟨.bl b,H,I,rfl,h⟩
theorem KO{j pos}:PE X (.Constant .none j pos) (tC .non):=λ_ _ _ H _ I h=>Constant_none ⟨.non,H,I,rfl,h⟩
theorem DP{x j pos}:PE X (.Constant (.str x) j pos) (tC (.str x)):=λ_ _ _ H _ I h=>Calls.Constant_str ⟨.str x,H,I.tok _,⟨_,rfl⟩,h⟩
def Gl(X:Cx)(x:Str):Prop:=X.env.kindOf x=some .globalImplicit
theorem oO{E:Value->Shared->Prop}{pins:List (Addr×Obj)}{s:Shared}{σ:St}{H:Hp}{x:Str}{u:Value}{pos:Pos}{Q:Value->Shared->Prop}(I:Inv X pins σ H s)(hg:Gl X x)(hm:X.mg x=some u)(h:Q u s)
  (hd:(x==("__debug__" : Str))=false:=by decide):wpAny (model X.prog X.w) X.A (eval (.Name x pos) X.env) Q E s :=
 Calls.Name_function_global I.ok.kind hg (Calls.loadGlobal_global (by rw[I.ok.glob];exact I.mod.glob.keeps I.bk) hm h) hd
theorem iU{E:Value->Shared->Prop}{pins:List (Addr×Obj)}{s:Shared}{σ:St}{H:Hp}{x:Str}{u:Value}{pos:Pos}{Q:Value->Shared->Prop}(I:Inv X pins σ H s)(hg:Gl X x)(hm:X.mg x=none)(hv:bootBuiltins x=some u)(h:Q u s)
  (hn:x≠"__name__":=by decide) (hd:(x==("__debug__" : Str))=false:=by decide):wpAny (model X.prog X.w) X.A (eval (.Name x pos) X.env) Q E s:=by
 obtain⟨mb,h1,h2⟩:=I.mod.blt;exact Calls.Name_function_global I.ok.kind hg (Calls.loadGlobal_builtin (by rw[I.ok.glob];exact I.mod.glob.keeps I.bk) hm (by rw[I.ok.blt];exact h1.keeps I.bk) ((h2 x hn).trans hv) h) hd
theorem bL{x:Str}{v:V}{u:Value}{pos:Pos}(hg:Gl X x)(hm:X.mg x=some u)(r:RelV v u)(hd:(x==("__debug__" : Str))=false:=by decide):PE X (.Name x pos) (tC v) :=
 λ_ _ _ H _ I h=>oO I hg hm ⟨v,H,I,r,h⟩ hd
theorem zB{x:Str}{v:V}{u:Value}{pos:Pos}(hg:Gl X x)(hm:X.mg x=none)(hv:bootBuiltins x=some u)(r:RelV v u)(hn:x≠"__name__":=by decide)(hd:(x==("__debug__" : Str))=false:=by decide):PE X (.Name x pos) (tC v) :=
 λ_ _ _ H _ I h=>iU I hg hm hv ⟨v,H,I,r,h⟩ hn hd
variable{a b:Expr}{ta tb:TE}{pos:Pos}
def PC(X:Cx)(op:CmpOp)(a b:Expr)(t:TE):Prop :=
 ∀(pins:List (Addr×Obj)) (s:Shared) (σ:St) (H:Hp) (Q:VK),Inv X pins σ H s->t σ H Q ->
  wpAny (model X.prog X.w) X.A (eval a X.env) (λv s₁=>wpAny (model X.prog X.w) X.A (eval b X.env) (λu s₂=>wpAny (model X.prog X.w) X.A (compareOp op v u) (EP X pins σ Q) X.xe s₂) X.xe s₁) X.xe s
def tB(t:TE):TT:=λσ H Q=>t σ H λx H1=>x.gb λc=>Q c H1
theorem pK{op:CmpOp}{t:TE}(h:PC X op a b t)(h1:behindInMarks op b=false:=by first | exact nobehind _ (by decide) (by decide) | rfl):PT X (.Compare a [op] [b] pos) (tB t):=by
 intro pins s σ H Q I hw;refine wpAny_isTrue_Compare1 (thn (h pins s σ H _ I hw) λv s1 h1=>thn h1 λu s2 h2=>bY h2 λc s3 x H1 I1 r1 q1=>?_) h1;obtain⟨d,rfl,z1⟩:=iX q1;have q:=z1;cases r1;exact wpAny_truthy_bool ⟨H1,I1,q⟩
variable{tA tB':TT}{rest:List Expr}
def OQ(t u:TT):TT:=λσ H Q=>t σ H λc H1=>If c (u σ H1 Q) (Q false H1)
def tOr(t u:TT):TT:=λσ H Q=>t σ H λc H1=>If c (Q true H1) (u σ H1 Q)
def CP(t:TT):TT:=λσ H Q=>t σ H λc H1=>Q (!c) H1
theorem tF(ha:PT X a tA):PW X (.BoolOp .And [a] pos) tA:=by
 intro wh pins s σ H Q I h;refine isTrue_and (thn (ha pins s σ H Q I h) λc s1 e=>?_);cases c with
 |true=>exact isTrue_and_nil e
 |false=>exact e
theorem KF(ha:PT X a tA):PW X (.BoolOp .Or [a] pos) tA:=by
 intro wh pins s σ H Q I h;refine isTrue_or (thn (ha pins s σ H Q I h) λc s1 e=>?_);cases c with
 |false=>exact isTrue_or_nil e
 |true=>exact e
theorem tG(ha:PT X a tA)(hb:PW X (.BoolOp .And (b::rest) pos) tB'):PW X (.BoolOp .And (a::b::rest) pos) (OQ tA tB'):=by
 intro wh pins s σ H Q I h;refine isTrue_and (CO (ha pins s σ H _ I h) λc s1 H1 I1 q1=>?_);cases c with
 |true=>exact hb wh pins s1 σ H1 Q I1 (q1.t rfl)
 |false=>exact⟨H1,I1,q1.f rfl⟩
theorem IQ(ha:PT X a tA)(hb:PW X (.BoolOp .Or (b::rest) pos) tB'):PW X (.BoolOp .Or (a::b::rest) pos) (tOr tA tB'):=by
 intro wh pins s σ H Q I h;refine isTrue_or (CO (ha pins s σ H _ I h) λc s1 H1 I1 q1=>?_);cases c with
 |true=>exact⟨H1,I1,q1.t rfl⟩
 |false=>exact hb wh pins s1 σ H1 Q I1 (q1.f rfl)
theorem pI(ha:PT X a tA):PT X (.UnaryOp .Not a pos) (CP tA):=by
 intro pins s σ H Q I h;exact isTrue_not (ha pins s σ H (λc H1=>Q (!c) H1) I h)
def MY(ta tb:TE):TE:=λσ H Q=>ta σ H λx H1=>x.gb λc=>If c (tb σ H1 Q) (Q (.bl false) H1)
theorem xN{op}{t:TE}(h:PE X a t):PE X (.BoolOp op [a] pos) t:=λpins s σ H Q I hw=>BoolOp_one (h pins s σ H Q I hw)
theorem xQ(ha:PE X a ta)(hb:PE X (.BoolOp .And (b::rest) pos) tb):PE X (.BoolOp .And (a::b::rest) pos) (MY ta tb):=by
 intro pins s σ H Q I h;refine BoolOp_and (bY (ha pins s σ H _ I h) λv s1 x H1 I1 r1 q1=>?_);obtain⟨c,rfl,z1⟩:=iX q1;have q1:=z1;cases r1;refine wpAny_truthy_bool ?_;cases c with
 |true=>exact hb pins s1 σ H1 Q I1 (q1.t rfl)
 |false=>exact⟨.bl false,H1,I1,rfl,q1.f rfl⟩
def tIf(t:TT)(ta tb:TE):TE:=λσ H Q=>t σ H λc H1=>If c (ta σ H1 Q) (tb σ H1 Q)
theorem DQ{c:Expr}(hc:PT X c tA)(ha:PE X a ta)(hb:PE X b tb):PE X (.IfExp c a b pos) (tIf tA ta tb):=by
 intro pins s σ H Q I h;refine wpAny_IfExp (CO (hc pins s σ H _ I h) λd s1 H1 I1 q1=>?_);cases d with
 |true=>exact ha pins s1 σ H1 Q I1 (q1.t rfl)
 |false=>exact hb pins s1 σ H1 Q I1 (q1.f rfl)
end
def SqL(H:Hp)(a:Addr)(xs:List V):Prop:=Rd H a (.lst xs)
def SqT(H:Hp)(a:Addr)(xs:List V):Prop:=Rd H a (.tup xs)
def PV:Value->Option V
 |.none=>some .non
 |.bool b=>some (.bl b)
 |.int i _=>some (.int i)
 |.str x _=>some (.str x)
 |.bytes b _=>some (.byt b)
 |.float b _=>some (.flt b)
 |.ref a=>some (.ref a)
 |.type n=>some (.ty n)
 |_=>none
theorem RelV.abs{x:V}{u:Value}(r:RelV x u):PV u=some x:=by
 cases x with
 |non=>cases r;rfl
 |bl _=>cases r;rfl
 |int _=>obtain⟨t,rfl⟩:=r;rfl
 |str _=>obtain⟨t,rfl⟩:=r;rfl
 |byt _=>obtain⟨t,rfl⟩:=r;rfl
 |flt _=>obtain⟨t,rfl⟩:=r;rfl
 |ref _=>cases r;rfl
 |ty _=>cases r;rfl
theorem RelV.inj{x y:V}{u:Value}(r:RelV x u)(q:RelV y u):x=y:=Option.some.inj (r.abs.symm.trans q.abs)
theorem aV.inj:∀{xs ys:List V}{us:List Value},aV xs us->aV ys us->xs=ys
 |_,_,_,.nil,.nil=>rfl
 |_,_,_,.cons r t,.cons r' t'=>by rw[r.inj r',aV.inj t t']
section
variable{X:Cx}{pins:List (Addr×Obj)}{σ:St}{H:Hp}{s:Shared}{a:Addr}{xs ys:List V}
theorem aB(h:H a=some (.lst xs)):SqL H a xs:=.inl h
theorem aH(h:H a=some (.tup xs)):SqT H a xs:=.inl h
theorem Inv.list(I:Inv X pins σ H s)(h:SqL H a xs):∃its:List Value,aV xs its/\PlainL s.heap a its.toArray/\xs.length<=ZW:=by
 obtain⟨z,its,n,r,e⟩:=Rd.ok h I.hok;exact⟨its,r,⟨_,n,e,rfl,rfl,rfl⟩,z⟩
theorem Inv.tuple(I:Inv X pins σ H s)(h:SqT H a xs):∃its:List Value,aV xs its/\IsTup s.heap a its.toArray/\xs.length<=ZW:=by
 obtain⟨z,its,r,p⟩:=Rd.ok h I.hok;exact⟨its,r,p,z⟩
theorem Inv.list_inj(I:Inv X pins σ H s)(h:SqL H a xs)(h':SqL H a ys):xs=ys:=by
 obtain⟨its,r,⟨o,n,e,_,_,d⟩,_⟩:=I.list h;obtain⟨its',r',⟨o',n',e',_,_,d'⟩,_⟩:=I.list h';rw[e]at e';cases e';rw[d]at d';injection d' with d1 _;have:its=its':=by simpa using congrArg Array.toList d1
 subst this;exact r.inj r'
end
abbrev Cx.wish(X:Cx)(E:Value->Shared->Prop):Cx:={ X with xe:=E }
abbrev Cx.nox(X:Cx):Cx:=X.wish λ_ _=>False
theorem Cx.Ok.wish{X:Cx}(ok:X.Ok)(E:Value->Shared->Prop):(X.wish E).Ok :=
 ⟨ok.mod,ok.kind,ok.glob,ok.blt,ok.above,ok.inj,ok.has,ok.cab,ok.hd,ok.frames,ok.stk,ok.exf,ok.bs,ok.bsz,ok.noex,ok.exfs,ok.funs,ok.frf⟩
theorem Cx.Ok.unwish{X:Cx}{E:Value->Shared->Prop}(ok:(X.wish E).Ok):X.Ok :=
 ⟨ok.mod,ok.kind,ok.glob,ok.blt,ok.above,ok.inj,ok.has,ok.cab,ok.hd,ok.frames,ok.stk,ok.exf,ok.bs,ok.bsz,ok.noex,ok.exfs,ok.funs,ok.frf⟩
section
variable{X:Cx}{pins:List (Addr×Obj)}{σ:St}{H:Hp}{s:Shared}{E:Value->Shared->Prop}
theorem Inv.wish(I:Inv X pins σ H s)(E:Value->Shared->Prop):Inv (X.wish E) pins σ H s:=⟨I.ok.wish E,I.os,I.bare,I.base,I.loc,I.cell,I.free,I.freeC,I.pin,I.hok,I.len⟩
theorem Inv.unwish(I:Inv (X.wish E) pins σ H s):Inv X pins σ H s:=⟨I.ok.unwish,I.os,I.bare,I.base,I.loc,I.cell,I.free,I.freeC,I.pin,I.hok,I.len⟩
theorem SP.unwish{D:Ends}{f:Flow}{s':Shared}(h:SP (X.wish E) pins D f s'):SP X pins D f s':=by
 cases f with
 |next=>obtain⟨σ',H',I,q⟩:=h;exact⟨σ',H',I.unwish,q⟩
 |brk=>obtain⟨σ',H',I,q⟩:=h;exact⟨σ',H',I.unwish,q⟩
 |cont=>obtain⟨σ',H',I,q⟩:=h;exact⟨σ',H',I.unwish,q⟩
 |ret u=>obtain⟨v,σ',H',I,r,q⟩:=h;exact⟨v,σ',H',I.unwish,r,q⟩
theorem PSs.nox{st:List Stmt}{t:TS}(h:PSs X.nox st t):PSs X st t:=λpins s σ H D I hw =>
 ZX (h pins s σ H D (I.wish _) hw) (λ_ _ q=>q.unwish) λ_ _ z=>False.elim z
end
section
variable{X:Cx}{st:Stmt}{rest:List Stmt}{t u:TS}{e:Expr}{te:TE}{pos:Pos}
def yR:TS:=λD σ H=>D.nx σ H
def wY(t u:TS):TS:=λD σ H=>t { D with nx:=u D } σ H
theorem iK:PSs X [] yR:=λ_ _ σ H _ I h=>wpAny_execs_nil ⟨σ,H,I,h⟩
theorem aM(h1:PS X st t)(h2:PSs X rest u):PSs X (st::rest) (wY t u):=by
 intro pins s σ H D I h;refine wpAny_execs_cons (thn (h1 pins s σ H { D with nx:=u D } I h) λf s1 q=>?_);cases f with
 |next =>
  obtain⟨σ',H',I',q⟩:=q;exact h2 pins s1 σ' H' D I' q
 |ret v=>exact q
 |brk=>exact q
 |cont=>exact q
theorem bX(h1:PS X st t):PSs X [st] t:=by
 intro pins s σ H D I h;refine wpAny_execs_cons (thn (h1 pins s σ H D I h) λf s1 q=>?_);cases f with
 |next=>exact wpAny_execs_nil q
 |ret v=>exact q
 |brk=>exact q
 |cont=>exact q
def JV:TS:=λD σ H=>D.bk σ H
theorem DC:PS X (.Break pos) JV:=λ_ _ σ H _ I h=>wpAny_Break ⟨σ,H,I,h⟩
theorem Inv.quiet{pins:List (Addr×Obj)}{σ:St}{H:Hp}{s:Shared}(I:Inv X pins σ H s):interactive X.env=false:=by simp[interactive,I.ok.kind]
def MU(te:TE):TS:=λD σ H=>te σ H λ_ H1=>D.nx σ H1
theorem bK(he:PE X e te)(hs:swapsWith e none pos.line X.env=pure false:=by rfl):PS X (.Expr e pos) (MU te):=by
 intro pins s σ H D I h;exact wpAny_Expr_any (bY (he pins s σ H _ I h) λv s1 x H1 I1 r1 q1=>⟨σ,H1,I1,q1⟩) I.quiet hs
def OL(te:TE):TS:=λD σ H=>te σ H D.rt
theorem xH(he:PE X e te):PS X (.Return (some e) pos) (OL te):=by
 intro pins s σ H D I h;exact wpAny_Return_some (bY (he pins s σ H _ I h) λv s1 x H1 I1 r1 q1=>⟨x,σ,H1,I1,r1,q1⟩)
def CQ(c:TT)(t u:TS):TS:=λD σ H=>c σ H λb H1=>If b (t D σ H1) (u D σ H1)
theorem pL{c:Expr}{a b:List Stmt}{tc:TT}(hc:PT X c tc)(ha:PSs X a t)(hb:PSs X b u):PS X (.If c a b pos) (CQ tc t u):=by
 intro pins s σ H D I h;refine wpAny_If (CO (hc pins s σ H _ I h) λd s1 H1 I1 q1=>?_);cases d with
 |true=>exact ha pins s1 σ H1 D I1 (q1.t rfl)
 |false=>exact hb pins s1 σ H1 D I1 (q1.f rfl)
def JS:TS:=λ_ _ _=>False
theorem cX{sts:List Stmt}:PSs X sts JS:=λ_ _ _ _ _ _ h=>h.elim
end
abbrev TG:=V->St->Hp->(St->Hp->Prop)->Prop
abbrev TGs:=List V->St->Hp->(St->Hp->Prop)->Prop
def PG(X:Cx)(target:Expr)(t:TG):Prop :=
 ∀(pins:List (Addr×Obj)) (s:Shared) (σ:St) (H:Hp) (v:V) (u:Value) (Q:St->Hp->Prop),Inv X pins σ H s->RelV v u->t v σ H Q ->
  wpAny (model X.prog X.w) X.A (assign target X.env u) (λ_ s'=>∃σ' H',Inv X pins σ' H' s'/\Q σ' H') X.xe s
def PGs(X:Cx)(ts:List Expr)(t:TGs):Prop :=
 ∀(pins:List (Addr×Obj)) (s:Shared) (σ:St) (H:Hp) (vs:List V) (us:List Value) (Q:St->Hp->Prop),Inv X pins σ H s->aV vs us->t vs σ H Q ->
  wpAny (model X.prog X.w) X.A (assignInOrder ((assignEach ts X.env).map (·.2)) us) (λ_ s'=>∃σ' H',Inv X pins σ' H' s'/\Q σ' H') X.xe s
abbrev FJ:=V->V->V->Hp->(Hp->Prop)->Prop
def MJ(X:Cx)(t:FJ):Prop :=
 ∀(pins:List (Addr×Obj)) (s:Shared) (σ:St) (H:Hp) (o i v:V) (ov iv u:Value) (Q:Hp->Prop),Inv X pins σ H s->RelV o ov->RelV i iv->RelV v u->t o i v H Q ->
  wpAny (model X.prog X.w) X.A (setItem ov iv u) (λ_ s'=>∃H',Inv X pins σ H' s'/\Q H') X.xe s
abbrev TIp:=V->V->Hp->VK->Prop
def PIp(X:Cx)(op:Operator)(t:TIp):Prop :=
 ∀(pins:List (Addr×Obj)) (s:Shared) (σ:St) (H:Hp) (x y:V) (v u:Value) (Q:VK),Inv X pins σ H s->RelV x v->RelV y u->t x y H Q ->
  wpAny (model X.prog X.w) X.A (inplaceOp op v u) (EP X pins σ Q) X.xe s
section
variable{X:Cx}{pos:Pos}
def cJ(i:Nat):TG:=λv σ H Q=>Q (σ.set i (some v)) H
theorem bZ{i:Nat}{x:Str}(hN:X.N.Nodup)(hi:X.N[i]?=some x)(hx:Loc X.env.scope x)(hf:X.fn x=true\/X.env.scope.names.lookup x=some .local:=by first | exact .inl rfl | exact .inr rfl | assumption):PG X (.Name x pos) (cJ i):=by
 intro pins s σ H v u Q I r h;exact wpAny_assign_Name (dD I hN hi hx r (λs' I'=>⟨_,H,I',h⟩) hf)
def N5:TGs:=λvs σ H Q=>L0 vs (Q σ H)
def IZ(t:TG)(u:TGs):TGs:=λvs σ H Q=>LC vs λv r=>t v σ H λσ' H'=>u r σ' H' Q
theorem lF:PGs X [] N5:=by
 intro pins s σ H vs us Q I r h;obtain⟨e,h⟩:=FP h;subst e;cases r;exact assignInOrder_nil ⟨σ,H,I,h⟩
theorem dP{e:Expr}{es:List Expr}{t:TG}{u:TGs}(h1:PG X e t)(h2:PGs X es u)
  (hs:(assignEach (e::es) X.env).map (·.2)=assign e X.env::(assignEach es X.env).map (·.2):=by rfl):PGs X (e::es) (IZ t u):=by
 intro pins s σ H vs us Q I r h;obtain⟨v,vr,e1,z1⟩:=AD h;have h:=z1;subst e1;cases r with
 |cons r rr =>
  rw[hs];refine assignInOrder_cons (thn (h1 pins s σ H _ _ _ I r h) λ_ s1 ⟨σ1,H1,I1,q1⟩=>?_);exact h2 pins s1 σ1 H1 _ _ Q I1 rr q1
def LY(n:Nat)(t:TGs):TG:=λv σ H Q=>v.gr λa=>∃xs,SqT H a xs/\xs.length=n/\t xs σ H Q
theorem DN{es:List Expr}{k:Nat}{t:TGs}{n:Nat}(hc:X.calm=true)(h:PGs X es t)
  (hn:(assignEach es X.env).length=n:=by rfl) (hst:(assignEach es X.env).findIdx? (·.1)=none:=by rfl):PG X (.Tuple es k pos) (LY n t):=by
 intro pins s σ H v u Q I r hw;obtain⟨a,e1,z1⟩:=a8 hw;obtain⟨xs,hq,hl,hw2⟩:=z1;subst e1;cases r;obtain⟨its,rv,ht,hz⟩:=I.tuple hq;refine assign_Tuple_tuple (I.ok.hd hc) ht (by simp[hn,<-hl,rv.length]) hst λh' hx=>?_;have I1:Inv X pins σ H { s with heap:=h' }:=I.kept (t':=s.toks) λb o e=>hx b o (YZ (YT e)) e;exact h pins _ σ H xs _ Q I1 (by simpa using rv) hw2
def PR(to ti:TE)(t:FJ):TG:=λv σ H Q=>to σ H λo H1=>ti σ H1 λi H2=>t o i v H2 λH3=>Q σ H3
theorem dB{o i:Expr}{to ti:TE}{t:FJ}(ho:PE X o to)(hi:PE X i ti)(hs:MJ X t)
  (ha:∀v,assign (.Subscript o i pos) X.env v=(do
   let ov <-holding [v] (eval o X.env)
   let iv <-holding [v,ov] (eval i X.env)
   standAt pos
   holding [v,ov,iv] (setItem ov iv v)
   release [v,ov,iv] []):=by intro _;rfl):PG X (.Subscript o i pos) (PR to ti t):=by
 intro pins s σ H v u Q I r h;rw[ha];refine ZZ (ZU (bY (ho pins s σ H _ I h) λov s1 x H1 I1 r1 q1=>?_));refine ZZ (ZU (bY (hi pins s1 σ H1 _ I1 q1) λiv s2 y H2 I2 r2 q2=>?_));refine ZZ (wpAny_standAt (ZZ (ZU (thn (hs pins s2 σ H2 x y v ov iv u _ I2 r1 r2 r q2) λ_ s3 ⟨H3,I3,q3⟩=>?_))));exact wpAny_release ⟨σ,H3,I3,q3⟩
def AU(te:TE)(g:TG):TS:=λD σ H=>te σ H λx H1=>g x σ H1 D.nx
theorem cH{tg e:Expr}{te:TE}{g:TG}(he:PE X e te)(hg:PG X tg g)(hs:swapsWithSole [tg] e pos.line X.env=pure false:=by rfl)(hw:swappedStores [tg] e X.env=pure none:=by rfl)
  (h1:(assignEach [tg] X.env).map (·.2)=[assign tg X.env]:=by rfl):PS X (.Assign [tg] e pos) (AU te g):=by
 intro pins s σ H D I h;refine wpAny_Assign_stores (bY (he pins s σ H _ I h) λv s1 x H1 I1 r1 q1=>?_) hs hw;rw[h1];exact thn (hg pins s1 σ H1 x v _ I1 r1 q1) λ_ s2 q=>q
theorem xG{i:Nat}{x:Str}{e:Expr}{te:TE}{pos':Pos}(hN:X.N.Nodup)(hi:X.N[i]?=some x)(hx:Loc X.env.scope x)(he:PE X e te)(hs:swapsWith e (some (.Name x pos')) pos.line X.env=pure false:=by rfl)(hf:X.fn x=true\/X.env.scope.names.lookup x=some .local:=by first | exact .inl rfl | exact .inr rfl | assumption) :
  PS X (.Assign [.Name x pos'] e pos) (AU te (cJ i)):=by
 intro pins s σ H D I h;refine wpAny_Assign_Name (bY (he pins s σ H _ I h) λv s1 y H1 I1 r1 q1=>?_) hs;exact dD I1 hN hi hx r1 (λs2 I2=>⟨_,H1,I2,q1⟩) hf
def OM(i j:Nat)(ta:TA):TS:=λD σ H=>ta σ H λvs H1=>LC vs λv v_r=>LC v_r λw w_r=>L0 w_r <| D.nx ((σ.set i (some v)).set j (some w)) H1
theorem xI{i j:Nat}{x y:Str}{a b:Expr}{ta:TA}{px py pt:Pos}{kt k2 pt2}(hc:X.calm=true)(hN:X.N.Nodup)(hi:X.N[i]?=some x)(hj:X.N[j]?=some y)(hij:i≠j)
  (hx:X.env.scope.names.lookup x=some .local) (hy:X.env.scope.names.lookup y=some .local) (ha:PA X [a,b] ta)
  (hw:swappedStores [.Tuple [.Name x px,.Name y py] kt pt] (.Tuple [a,b] k2 pt2) X.env=pure (some [x,y]))
  (hs:swapsWithSole [.Tuple [.Name x px,.Name y py] kt pt] (.Tuple [a,b] k2 pt2) pos.line X.env=pure false:=by rfl) :
  PS X (.Assign [.Tuple [.Name x px,.Name y py] kt pt] (.Tuple [a,b] k2 pt2) pos) (OM i j ta):=by
 intro pins s σ H D I h;rw[exec_Assign_arm];refine ZZ (wpAny_standAt ?_);rw[hs];refine ZZ (ZY ?_);rw[Ya (by decide)];refine ZZ (Tuple_ (oY (ha _ pins s σ H _ I h) λus s1 vs H1 I1 r1 q1=>?_));obtain⟨v,w,e1,z1⟩:=JE q1;have q1:=z1;subst e1;obtain⟨u1,u2,rfl,rv,rw'⟩:∃u1 u2,us=[u1,u2]/\RelV v u1/\RelV w u2:=by
  cases r1 with
  |cons p q =>
   cases q with
   |cons p' q' =>
    cases q';exact⟨_,_,rfl,p,p'⟩
 refine wpAny_newObj_type ?_ (by show 2<=ZW;decide);have I2:Inv X pins σ H1 { s1 with heap:=s1.heap.push { cls:=.type "tuple",data:=.seq [u1,u2].toArray } }:=I1.kept (t':=s1.toks) λb o e=>YU _ e;rw[hw];refine ZZ (ZY ?_);show wpAny (model X.prog X.w) X.A (do rule "assign.swapped-stores";let items <-unpackItems (.ref s1.heap.objs.size) 2 none;assignInOrder [λv=>bindName X.env y v,λv=>bindName X.env x v] items.reverse;pure Flow.next) _ _ _;refine ZZ (wpAny_rule (ZZ (unpackItems_tuple (items:=#[u1,u2]) (I.ok.hd hc) (IsTup.new s1.heap _) λh' hx'=>?_)));have I3:=I2.kept (h':=h') (t':=s1.toks) λb o e=>hx' b o (YZ (YT e)) e;show wpAny _ _ (assignInOrder [λv=>bindName X.env y v,λv=>bindName X.env x v] [u2,u1] >>= λ_=>pure Flow.next) _ _ _;refine ZZ (assignInOrder_cons (wpAny_bindName (dD I3 hN hj (.inl hy) rw' (λs2 I4=>?_) (.inr hy))));refine assignInOrder_cons (wpAny_bindName (dD I4 hN hi (.inl hx) rv (λs3 I5=>assignInOrder_nil (ZY ?_)) (.inr hx)));rw[List.set_comm _ _ (Yh hij)]at I5;exact⟨_,H1,I5,q1⟩
def MX(to ti te:TE)(tget:V->V->Hp->VK->Prop)(tip:TIp)(tset:FJ):TS:=λD σ H=>to σ H λo H1=>ti σ H1 λi H2=>tget o i H2 λx H3=>te σ H3 λy H4=>tip x y H4 λz H5=>tset o i z H5 λH6=>D.nx σ H6
def OC(X:Cx)(t:V->V->Hp->VK->Prop):Prop :=
 ∀(pins:List (Addr×Obj)) (s:Shared) (σ:St) (H:Hp) (o i:V) (ov iv:Value) (Q:VK),Inv X pins σ H s->RelV o ov->RelV i iv->t o i H Q ->
  wpAny (model X.prog X.w) X.A (getItem ov iv) (EP X pins σ Q) X.xe s
theorem GL{o i e:Expr}{to ti te:TE}{tget:V->V->Hp->VK->Prop}{tip:TIp}{tset:FJ}{op:Operator}{tpos:Pos}(ho:PE X o to)(hi:PE X i ti)(hg:OC X tget)(he:PE X e te)(hp:PIp X op tip)(hs:MJ X tset)
  (ha:∀ov iv new,augStore i ov iv new=(do holding [new,ov,iv] (setItem ov iv new);release [new,ov,iv] [];pure .next):=by intros;rfl):PS X (.AugAssign (.Subscript o i tpos) op e pos) (MX to ti te tget tip tset):=by
 intro pins s σ H D I h;refine wpAny_AugAssign_SubscriptAny (bY (ho pins s σ H _ I h) λov s1 x1 H1 I1 r1 q1=>?_) ha;refine bY (hi pins s1 σ H1 _ I1 q1) λiv s2 x2 H2 I2 r2 q2=>?_;refine bY (hg pins s2 σ H2 x1 x2 ov iv _ I2 r1 r2 q2) λold s3 x3 H3 I3 r3 q3=>?_;refine bY (he pins s3 σ H3 _ I3 q3) λv s4 x4 H4 I4 r4 q4=>?_;refine bY (hp pins s4 σ H4 x3 x4 old v _ I4 r3 r4 q4) λnew s5 x5 H5 I5 r5 q5=>?_;exact thn (hs pins s5 σ H5 x1 x2 x5 ov iv new _ I5 r1 r2 r5 q5) λ_ s6 ⟨H6,I6,q6⟩=>⟨σ,H6,I6,q6⟩
def ipI(f:Int->Int->Int):TIp:=λx y H Q=>x.gi λi=>y.gi λj=>Q (.int (f i j)) H
theorem LU:PIp X .Add (ipI λi j=>i+j):=by
 intro pins s σ H x y v u Q I r1 r2 h;obtain⟨i,e1,z1⟩:=cQ h;obtain⟨j,e2,z2⟩:=cQ z1;have q:=z2;subst e1;subst e2;obtain⟨t,rfl⟩:=r1;obtain⟨t',rfl⟩:=r2;exact iadd_int ⟨.int _,H,I.tok _,⟨_,rfl⟩,q⟩
end
section
variable{X:Cx}{pos:Pos}
def JO(c:TT)(tb:TS):TS:=λD σ H=>∃W:Nat->St->Hp->Prop,(∃m,W m σ H)/\∀m σ H,W m σ H ->
 c σ H λb H1=>If b (∃N:St->Hp->Prop,(∀σ' H',N σ' H'->∃m',m' < m/\W m' σ' H')/\tb { D with nx:=N,ct:=N,bk:=D.nx } σ H1) (D.nx σ H1)
theorem DB{c:Expr}{body:List Stmt}{tc:TT}{tb:TS}(hp:PassesOwn (model X.prog X.w) X.A X.env X.xe)(hc:PT X c tc)(hb:PSs X body tb):PS X (.While c body [] pos) (JO tc tb):=by
 intro pins s σ H D I h;obtain⟨W,⟨m0,w0⟩,turn⟩:=h;refine wpAny_While (codeAny_whileLoop (λn s'=>∃σ' H',Inv X pins σ' H' s'/\W n σ' H') ?_ m0 ⟨σ,H,I,w0⟩);rintro n s1 ⟨σ1,H1,I1,w1⟩;refine wpAny_passesOwn hp (CO (hc pins s1 σ1 H1 _ I1 (turn n σ1 H1 w1)) λb s2 H2 I2 q2=>?_);cases b with
 |true =>
  obtain⟨N,hN,q2⟩:=q2.t rfl;rw[Yb rfl];refine wpAny_passesOwn hp (thn (hb pins s2 σ1 H2 _ I2 q2) λf s3 q3=>?_);cases f with
  |next =>
   obtain⟨σ3,H3,I3,n3⟩:=q3;obtain⟨m',hm,w3⟩:=hN σ3 H3 n3;exact⟨m',hm,σ3,H3,I3,w3⟩
  |cont =>
   obtain⟨σ3,H3,I3,n3⟩:=q3;obtain⟨m',hm,w3⟩:=hN σ3 H3 n3;exact⟨m',hm,σ3,H3,I3,w3⟩
  |brk=>exact q3
  |ret v=>exact q3
 |false =>
  rw[Ya YO];exact wpAny_execs_nil ⟨σ1,H2,I2,q2.f rfl⟩
end
structure It where
 go:Nat->Hp->Prop
 yld:Nat->Hp->V->Hp->Prop
 stop:Nat->Hp->Prop
def oB(X:Cx)(pins:List (Addr×Obj))(H:Hp)(b:Addr):Prop :=
 H b=none/\b≠X.env.locals/\b∉X.fs/\(b∈X.ex\/X.s₀.heap.objs.size<=b)/\(∀x c,X.env.cells.lookup x=some c->c≠b)/\∀p∈X.pn++pins,p.1≠b
theorem Inv.fpOk{X:Cx}{pins:List (Addr×Obj)}{σ:St}{H H':Hp}{s:Shared}{b:Addr}(I:Inv X pins σ H s)(hb:s.heap.objs.size<=b)(hn:H' b=none):oB X pins H' b:=by
 refine⟨hn,Nat.ne_of_gt (Xk I.lt hb),I.nofs hb,.inr (Xz I.sz hb),λx c e z=>?_,λp hp z=>?_⟩
 ·obtain⟨v,q⟩:=I.cell x c e;exact Yg (Xk q.lt (by rw[z];exact hb)) (YW _)
 ·exact Yg (Xk (YT (I.pin p hp).1) (by rw[z];exact hb)) (YW _)
structure Turn(P:Program)(w:World)(K:PySem.W.Frag)(tg:Expr)(J:It)(fp:List Addr)(it:Addr)(tn:Nat->Heap->Prop):Prop where
 mem:it∈fp
 obj:∀i h,tn i h->∀b∈fp,∃o,h.get? b=some o/\∀v,o.data≠.cell v
 keep:∀i h h',tn i h->(∀b∈fp,∀o,h.get? b=some o->h'.get? b=some o)->tn i h'
 item:∀(X:Cx),X.prog=P->X.w=w->X.K=K->X.calm=true->∀(i:Nat) (pins:List (Addr×Obj)) (s:Shared) (σ:St) (H:Hp) (E:Value->Shared->Prop),Inv X pins σ H s->(∀b∈fp,oB X pins H b)->tn i s.heap->J.go i H ->
  wpAny (model P w) X.A (pyNext (.ref it)) (λr s1=>∃u,r=some u /\
   wpAny (model P w) X.A (letOwnedTupleGo tg (.ref it) u) (λ_ s2=>∃x H',Inv X pins σ H' s2/\RelV x u/\J.yld i H x H'/\tn (i+1) s2.heap/\∀b∈fp,H' b=none) E s1) E s
 done:∀(X:Cx),X.prog=P->X.w=w->X.K=K->X.calm=true->∀(i:Nat) (pins:List (Addr×Obj)) (s:Shared) (σ:St) (H:Hp) (E:Value->Shared->Prop),Inv X pins σ H s->(∀b∈fp,oB X pins H b)->tn i s.heap->J.stop i H ->
  wpAny (model P w) X.A (pyNext (.ref it)) (λr s1=>r=none/\Inv X pins σ H s1) E s
 self:∀(A:Around) (i:Nat) (s:Shared) (Q:Value->Shared->Prop) (E:Value->Shared->Prop),tn i s.heap->Q (.ref it) s->wpAny (model P w) A (pyIter (.ref it)) Q E s
abbrev TI:=St->Hp->(It->Hp->Prop)->Prop
def PIE(X:Cx)(pins:List (Addr×Obj))(σ:St)(tg:Expr)(R:It->Hp->Prop)(itv:Value)(s2:Shared):Prop :=
 ∃(it:Addr) (fp:List Addr) (tn:Nat->Heap->Prop) (J:It) (H':Hp),itv=.ref it/\Inv X pins σ H' s2/\Turn X.prog X.w X.K tg J fp it tn/\tn 0 s2.heap/\(∀b∈fp,oB X pins H' b)/\R J H'
def PI(X:Cx)(tg iter:Expr)(wi:TI):Prop :=
 ∀(pins:List (Addr×Obj)) (s:Shared) (σ:St) (H:Hp) (R:It->Hp->Prop),Inv X pins σ H s->wi σ H R ->
  wpAny (model X.prog X.w) X.A (eval iter X.env) (λv s1=>wpAny (model X.prog X.w) X.A (pyIter v) (PIE X pins σ tg R) X.xe s1) X.xe s
theorem EY{M:Model}{A:Around}{E:Value->Shared->Prop}{s:Shared}{tg:Expr}{it:Addr}{u:Value}{o:Obj}{n:String}{vs:Array Value}{Q:Unit->Shared->Prop}(ho:s.heap.get? it=some o)(hc:o.cls=.type n)(hd:o.data=.fields vs)
  (hn:["enumerate","zip","dict_itemiterator","dict_reverseitemiterator","odict_iterator","itertools.zip_longest","itertools.pairwise"].contains n=false) (hQ:Q () s):wpAny M A (letOwnedTupleGo tg (.ref it) u) Q E s:=by
 unfold letOwnedTupleGo;cases tg<;>first
  |exact ZY hQ
  |(cases u<;>first
    |exact ZY hQ
    |(refine ZZ (wpAny_load ho ?_);rw[hc,hd];show wpAny M A (if (["enumerate","zip","dict_itemiterator","dict_reverseitemiterator","odict_iterator","itertools.zip_longest","itertools.pairwise"].contains n&&vs[0]?==some (rawInt _))=true then _ else _) Q E s;rw[Ya (by intro h;rw[hn,Bool.false_and]at h;cases h)];exact ZY hQ))
def Itl(a:Addr):It :=
 ⟨λi H=>∃xs x,SqL H a xs/\xs[i]?=some x,λi H x H'=>H'=H/\∀xs,SqL H a xs->xs[i]?=some x,λi H=>∃xs,SqL H a xs/\xs.length<=i⟩
def Itr(lo:Int)(n:Nat):It:=⟨λi _=>i<n,λi H x H'=>H'=H/\x=.int (lo+i),λi _=>n<=i⟩
theorem AQ{P:Program}{w:World}{K:PySem.W.Frag}{tg:Expr}(a it:Addr):Turn P w K tg (Itl a) [it] it (λi h=>h.IsListIter it a i) where
 mem:=by simp
 obj:=λi h st b hb=>by
  have e:b=it:=by simpa using hb
  subst e;obtain⟨o,e,c,d⟩:=st;exact⟨o,e,λv z=>by rw[d]at z;cases z⟩
 keep:=λi h h' st k=>st.at λo e=>k it (by simp) o e
 item:=by
  intro X hP hw hK hc i pins s σ H E I hf st hg;subst hP hw hK;obtain⟨xs,x,hq,hx⟩:=hg;obtain⟨its,rv,p,hz⟩:=I.list hq;obtain⟨u,hu,ru⟩:=rv.get hx;obtain⟨f0,f1,f2,f3,f4,f5⟩:=hf it (by simp);refine wpAny_pyNext_list_item st p.isList (x:=u) (by simpa using hu) λh' st' sb=>?_;have I1:Inv X pins σ H { s with heap:=h' }:=I.turned (t':=s.toks) (λb o hb e=>(sb.2 b hb).trans e) f0 f1 f3 f4 f5;obtain⟨o,e,c,d⟩:=id st';exact⟨u,rfl,EY (s:={ s with heap:=h' }) e c d (by decide) ⟨x,H,I1,ru,⟨rfl,λys hy=>by rw[I.list_inj hy hq];exact hx⟩,st',λb hb=>(hf b hb).1⟩⟩
 done:=by
  intro X hP hw hK hc i pins s σ H E I hf st hg;subst hP hw hK;obtain⟨xs,hq,hx⟩:=hg;obtain⟨its,rv,p,hz⟩:=I.list hq;obtain⟨f0,f1,f2,f3,f4,f5⟩:=hf it (by simp);have hl:=rv.length;exact wpAny_pyNext_list_end (I.ok.hd hc) st p.isList (by simp;lia) λh' eb=>⟨rfl,I.turned (t':=s.toks) (λb o hb e=>eb b o hb e) f0 f1 f3 f4 f5⟩
 self:=λ_ _ _ _ _ st h=>wpAny_pyIter_listiter st h
theorem wV{P:Program}{w:World}{K:PySem.W.Frag}{tg:Expr}(it:Addr)(lo:Int)(n:Nat):Turn P w K tg (Itr lo n) [it] it (λi h=>IsRangeIter h it (lo+(i:Nat)*1) ((n:Int)-(i:Nat)) 1) where
 mem:=by simp
 obj:=λi h st b hb=>by
  have e:b=it:=by simpa using hb
  subst e;exact⟨_,st,λv z=>by
   have z':Data.fields _=Data.cell v:=z;cases z'⟩
 keep:=λi h h' st k=>k it (by simp) _ st
 item:=by
  intro X hP hw hK hc i pins s σ H E I hf st hg;subst hP hw hK;obtain⟨f0,f1,f2,f3,f4,f5⟩:=hf it (by simp);have W:=Walks.range (prog:=X.prog) (w:=X.w) (I.ok.hd hc) it lo 1 n;refine W.item i s _ _ hg st λv h' tk hv st' kk=>?_;obtain⟨t,rfl⟩:=hv;have I1:Inv X pins σ H { s with heap:=h',toks:=tk }:=I.turned (λb o hb e=>kk b o (by simpa using hb) e) f0 f1 f3 f4 f5;refine⟨_,rfl,EY (s:={ s with heap:=h',toks:=tk }) (n:="range_iterator") st' rfl rfl (by decide) ⟨.int (lo+i),H,I1,⟨t,?_⟩,⟨rfl,rfl⟩,st',λb hb=>(hf b hb).1⟩⟩;rw[Int.mul_one]
 done:=by
  intro X hP hw hK hc i pins s σ H E I hf st hg;subst hP hw hK;obtain⟨f0,f1,f2,f3,f4,f5⟩:=hf it (by simp);exact wpAny_pyNext_range_end (I.ok.hd hc) st (by have:n<=i:=hg;lia) λh' eb=>⟨rfl,I.turned (t':=s.toks) (λb o hb e=>eb b o hb e) f0 f1 f3 f4 f5⟩
 self:=λ_ _ _ _ _ st h=>wpAny_pyIter_rangeiter st h
section
variable{X:Cx}{tg:Expr}
def NY(tl:TE):TI:=λσ H R=>tl σ H λx H1=>x.gr λa=>(∃xs,SqL H1 a xs)/\R (Itl a) H1
theorem aW{l:Expr}{tl:TE}(hl:PE X l tl):PI X tg l (NY tl):=by
 intro pins s σ H R I h;refine bY (hl pins s σ H _ I h) λv s1 x H1 I1 r1 q1=>?_;obtain⟨a,e,z1⟩:=a8 q1;obtain⟨⟨xs,hq⟩,q⟩:=z1;subst e;cases r1;obtain⟨its,rv,p,hz⟩:=I1.list hq;refine wpAny_pyIter_list p.isList ?_;refine⟨s1.heap.objs.size,[s1.heap.objs.size],_,_,H1,rfl,I1.kept (t':=s1.toks) λb o e=>YU _ e,AQ a _,⟨_,YS _ rfl,rfl,rfl⟩,λb hb=>?_,q⟩;have e:b=s1.heap.objs.size:=by simpa using hb
 subst e;exact I1.fpOk (ZA _) (I1.hok.fresh (ZA _))
theorem uS{pins:List (Addr×Obj)}{σ:St}{H:Hp}{s:Shared}{R:It->Hp->Prop}{E:Value->Shared->Prop}{lo hi:Int}{t u v:Tok}{tk:Nat}(I:Inv X pins σ H s)(h1 : -(2 ^ 62)<=lo)(h2:lo<2 ^ 62)(h3 : -(2 ^ 62)<=hi)(h4:hi<2 ^ 62)
  (q:R (Itr lo (hi-lo).toNat) H):wpAny (model X.prog X.w) X.A (pyIter (.ref s.heap.objs.size)) (PIE X pins σ tg R) E { s with heap:=s.heap.push { cls:=.type "range",data:=.fields #[.int lo t,.int hi u,.int 1 v] },toks:=tk }:=by
 refine wpAny_pyIter_range (IsRange.new ..) (small_one h1 h2 h3 h4) ?_;have I1:Inv X pins σ H { s with heap:=s.heap.push { cls:=.type "range",data:=.fields #[.int lo t,.int hi u,.int 1 v] },toks:=tk }:=I.kept λb o e=>YU _ e;refine⟨(s.heap.push { cls:=.type "range",data:=.fields #[.int lo t,.int hi u,.int 1 v] }).objs.size,[(s.heap.push { cls:=.type "range",data:=.fields #[.int lo t,.int hi u,.int 1 v] }).objs.size],_,_,H,rfl,
  I1.kept (t':=tk) λb o e=>YU _ e,wV _ lo (hi-lo).toNat,?_,λb hb=>?_,q⟩
 ·have e1:lo+((0:Nat):Int)*1=lo:=by simp
  have e2:(((hi-lo).toNat:Nat):Int)-((0:Nat):Int)=Builtin.Range.rangeSize lo hi 1:=by rw[rangeSize_one];split<;>lia
  show IsRangeIter _ _ (lo+((0:Nat):Int)*1) ((((hi-lo).toNat:Nat):Int)-((0:Nat):Int)) 1;rw[e1,e2];exact YS _ rfl
 ·have e:b=(s.heap.push { cls:=.type "range",data:=.fields #[.int lo t,.int hi u,.int 1 v] }).objs.size:=by simpa using hb
  subst e;exact I1.fpOk (ZA _) (I1.hok.fresh (ZA _))
def NX(ta:TA):TI:=λσ H R=>ta σ H λvs H1=>∃j:Int,vs=[.int j]/\-(2 ^ 62)<=j/\j<2 ^ 62/\R (Itr 0 j.toNat) H1
def NW(ta:TA):TI:=λσ H R=>ta σ H λvs H1=>∃i j:Int,vs=[.int i,.int j]/\(-(2 ^ 62)<=i/\i<2 ^ 62/\-(2 ^ 62)<=j/\j<2 ^ 62)/\R (Itr i (j-i).toNat) H1
theorem h9{a:Expr}{ta:TA}{p pos:Pos}(hg:Gl X "range")(hm:X.mg "range" = none)(ha:PA X [a] ta)(hs:starEach [a] X.env=[(false,eval a X.env)]:=by rfl):PI X tg (.Call (.Name "range" p) [a] [] pos) (NX ta):=by
 intro pins s σ H R I h;refine Call_ (iU I hg hm boot_range (PyProof.Rows.callWith_type1 (oY (ha pos pins s σ H _ I h) λus s1 vs H1 I1 r1 q1=>?_) hs rfl));obtain⟨j,e,q1,q2,q⟩:=q1;subst e;cases r1 with
 |cons r rr =>
  cases rr;obtain⟨t,rfl⟩:=r;exact call_range_1 (uS I1 (by lia) (by lia) q1 q2 (by simpa using q))
theorem A3{a b:Expr}{ta:TA}{p pos:Pos}(hg:Gl X "range")(hm:X.mg "range" = none)(ha:PA X [a,b] ta)(hs:starEach [a,b] X.env=[(false,eval a X.env),(false,eval b X.env)]:=by rfl)(hs2:starEach [b] X.env=[(false,eval b X.env)]:=by rfl) :
  PI X tg (.Call (.Name "range" p) [a,b] [] pos) (NW ta):=by
 intro pins s σ H R I h;refine Call_ (iU I hg hm boot_range (PyProof.Rows.callWith_type1 (oY (ha pos pins s σ H _ I h) λus s1 vs H1 I1 r1 q1=>?_) (by rw[hs,hs2]) (by rw[hs2];rfl)));obtain⟨i,j,e,⟨q1,q2,q3,q4⟩,q⟩:=q1;subst e;cases r1 with
 |cons r rr =>
  cases rr with
  |cons r' rr =>
   cases rr;obtain⟨t,rfl⟩:=r;obtain⟨t',rfl⟩:=r';exact call_range_2 (uS I1 q1 q2 q3 q4 q)
def ON(wi:TI)(g:TG)(tb:TS):TS:=λD σ H=>wi σ H λJ H1=>∃W:Nat->Nat->St->Hp->Prop,(∃m,W 0 m σ H1)/\∀i m σ H,W i m σ H ->
 (J.stop i H/\D.nx σ H)\/(J.go i H/\∃N:St->Hp->Prop,(∀σ' H',N σ' H'->∃m',m' < m/\W (i+1) m' σ' H')/\∀x H',J.yld i H x H'->g x σ H' λσ2 H2=>tb { D with nx:=N,ct:=N,bk:=D.nx } σ2 H2)
def pP(fp:List Addr)(h:Heap):List (Addr×Obj):=fp.filterMap λb=>(h.get? b).map λo=>(b,o)
theorem iR{fp:List Addr}{h:Heap}{b:Addr}{o:Obj}(hb:b∈fp)(e:h.get? b=some o):(b,o)∈pP fp h:=List.mem_filterMap.mpr ⟨b,hb,by rw[e];rfl⟩
theorem BE{fp:List Addr}{h:Heap}{p:Addr×Obj}(hp:p∈pP fp h):p.1∈fp/\h.get? p.1=some p.2:=by
 obtain⟨b,hb,e⟩:=List.mem_filterMap.mp hp;cases q:h.get? b with
 |none=>rw[q]at e;cases e
 |some o =>
  rw[q]at e;have e':(b,o)=p:=Option.some.inj e;subst e';exact⟨hb,q⟩
theorem Inv.pinned{pins:List (Addr×Obj)}{σ:St}{H:Hp}{s:Shared}{fp:List Addr}(I:Inv X pins σ H s)(hf:∀b∈fp,oB X pins H b)(ho:∀b∈fp,∃o,s.heap.get? b=some o/\∀v,o.data≠.cell v):Inv X (pins++pP fp s.heap) σ H s :=
 I.pins_of λp hp=>(Zf.mp hp).elim (λz=>I.pin p (ZN _ z)) λz=>by
  obtain⟨hb,e⟩:=BE z;obtain⟨f0,f1,f2,_⟩:=hf p.1 hb;obtain⟨o,e',d⟩:=ho p.1 hb;rw[e]at e';cases e';exact⟨e,f0,f1,f2,d⟩
theorem Inv.unpinned{pins pl:List (Addr×Obj)}{σ:St}{H:Hp}{s:Shared}(I:Inv X (pins++pl) σ H s):Inv X pins σ H s:=I.pins_of λp hp=>I.pin p (ZN _ (ZO _ hp))
theorem mU{iter:Expr}{body:List Stmt}{wi:TI}{g:TG}{tb:TS}{pos:Pos}(hp:PassesOwn (model X.prog X.w) X.A X.env X.xe)(hc:X.calm=true)(hi:PI X tg iter wi)(hg:PG X tg g)(hb:PSs X body tb)
  (hs:∀x,foldedSetIterable iter X.env x=pure x:=by intro _;rfl):PS X (.For tg iter body [] pos) (ON wi g tb):=by
 intro pins s σ H D I h;refine wpAny_For (thn (hi pins s σ H _ I h) λv s1 h1=>thn h1 λitv s2 h2=>?_) hs;obtain⟨it,fp,tn,J,H2,e,I2,T,st2,f2,W,⟨m0,w0⟩,turn⟩:=h2;subst e;have stat:∀{H':Hp},(∀b∈fp,H' b=none)->∀b∈fp,oB X pins H' b:=λhn b hb=>⟨hn b hb,(f2 b hb).2⟩
 refine codeAny_forLoop_any (λn s'=>∃i σ' H',Inv X pins σ' H' s'/\tn i s'.heap/\(∀b∈fp,H' b=none)/\W i n σ' H') ?_ m0 ⟨0,σ,H2,I2,st2,λb hb=>(f2 b hb).1,w0⟩;rintro n s3 ⟨i,σ3,H3,I3,st3,fr3,w3⟩;rcases turn i n σ3 H3 w3 with⟨stop,qn⟩ | ⟨go,N,hN,step⟩
 ·refine wpAny_passesOwn hp (thn (T.done X rfl rfl rfl hc i pins s3 σ3 H3 X.xe I3 (stat fr3) st3 stop) λr s4 ⟨hr,I4⟩=>?_);subst hr;exact wpAny_execs_nil ⟨σ3,H3,I4,qn⟩
 ·refine wpAny_passesOwn hp (thn (T.item X rfl rfl rfl hc i pins s3 σ3 H3 X.xe I3 (stat fr3) st3 go) λr s4 ⟨u,hr,h4⟩=>?_);subst hr;refine wpAny_passesOwn hp (thn h4 λ_ s5 ⟨x,H5,I5,r5,y5,st5,fr5⟩=>?_);have I5':=I5.pinned (stat fr5) (T.obj _ _ st5);refine wpAny_passesOwn hp (thn (hg _ s5 σ3 H5 x u _ I5' r5 (step x H5 y5)) λ_ s6 ⟨σ6,H6,I6,q6⟩=>?_);refine wpAny_passesOwn hp (thn (hb _ s6 σ6 H6 _ I6 q6) λf s7 q7=>?_);have again:∀{σ7:St}{H7:Hp},Inv X (pins++pP fp s5.heap) σ7 H7 s7->N σ7 H7->∃m,m<n/\∃i σ' H',Inv X pins σ' H' s7/\tn i s7.heap/\(∀b∈fp,H' b=none)/\W i m σ' H':=λ{σ7 H7} I7 n7=>by
   obtain⟨m',hm,w7⟩:=hN σ7 H7 n7;refine⟨m',hm,i+1,σ7,H7,I7.unpinned,T.keep _ _ _ st5 λb hb o e=>(I7.pin (b,o) (ZN _ (ZN _ (iR hb e)))).1,λb hb=>?_,w7⟩;obtain⟨o,e,d⟩:=T.obj _ _ st5 b hb;exact(I7.pin (b,o) (ZN _ (ZN _ (iR hb e)))).2.1
  cases f with
  |next=>obtain⟨σ7,H7,I7,n7⟩:=q7;exact again I7 n7
  |cont=>obtain⟨σ7,H7,I7,n7⟩:=q7;exact again I7 n7
  |brk=>obtain⟨σ7,H7,I7,q7⟩:=q7;exact⟨σ7,H7,I7.unpinned,q7⟩
  |ret v=>obtain⟨x7,σ7,H7,I7,r7,q7⟩:=q7;exact⟨x7,σ7,H7,I7.unpinned,r7,q7⟩
end
theorem cV{a:Addr}{xs:List V}{g:TG}{tb:TS}{D:Ends}{σ:St}{H:Hp}(Pv:Nat->St->Hp->Prop)(h0:Pv 0 σ H)(hl:∀i σ H,i<=xs.length->Pv i σ H->SqL H a xs)
  (hs:∀i x σ H,xs[i]?=some x->Pv i σ H->g x σ H λσ2 H2=>tb { D with nx:=Pv (i+1),ct:=Pv (i+1),bk:=D.nx } σ2 H2) (hd:∀σ H,Pv xs.length σ H->D.nx σ H) :
  ∃W:Nat->Nat->St->Hp->Prop,(∃m,W 0 m σ H)/\∀i m σ H,W i m σ H ->
   ((Itl a).stop i H/\D.nx σ H)\/((Itl a).go i H/\∃N:St->Hp->Prop,(∀σ' H',N σ' H'->∃m',m' < m/\W (i+1) m' σ' H')/\∀x H',(Itl a).yld i H x H'->g x σ H' λσ2 H2=>tb { D with nx:=N,ct:=N,bk:=D.nx } σ2 H2):=by
 refine⟨λi m σ H=>m=xs.length-i/\i<=xs.length/\Pv i σ H,⟨xs.length,by simp,YX _,h0⟩,?_⟩;rintro i m σ H ⟨rfl,hi,p⟩;have q:=hl i σ H hi p;by_cases hlt:i<xs.length
 ·refine .inr ⟨⟨xs,xs[i],q,by simp[hlt]⟩,Pv (i+1),λσ' H' p'=>⟨xs.length-(i+1),by omega,rfl,hlt,p'⟩,λx H' y=>?_⟩;obtain⟨e,y⟩:=y;subst e;exact hs i x σ _ (y xs q) p
 ·have e:i=xs.length:=by lia
  subst e;exact .inl ⟨⟨xs,q,ZA _⟩,hd σ H p⟩
theorem bV{lo:Int}{n:Nat}{g:TG}{tb:TS}{D:Ends}{σ:St}{H:Hp}(Pv:Nat->St->Hp->Prop)(h0:Pv 0 σ H)
  (hs:∀i σ H,i<n->Pv i σ H->g (.int (lo+i)) σ H λσ2 H2=>tb { D with nx:=Pv (i+1),ct:=Pv (i+1),bk:=D.nx } σ2 H2) (hd:∀σ H,Pv n σ H->D.nx σ H) :
  ∃W:Nat->Nat->St->Hp->Prop,(∃m,W 0 m σ H)/\∀i m σ H,W i m σ H ->
   ((Itr lo n).stop i H/\D.nx σ H)\/((Itr lo n).go i H/\∃N:St->Hp->Prop,(∀σ' H',N σ' H'->∃m',m' < m/\W (i+1) m' σ' H')/\∀x H',(Itr lo n).yld i H x H'->g x σ H' λσ2 H2=>tb { D with nx:=N,ct:=N,bk:=D.nx } σ2 H2):=by
 refine⟨λi m σ H=>m=n-i/\i<=n/\Pv i σ H,⟨n,by simp,YX _,h0⟩,?_⟩;rintro i m σ H ⟨rfl,hi,p⟩;by_cases hlt:i<n
 ·refine .inr ⟨hlt,Pv (i+1),λσ' H' p'=>⟨n-(i+1),by omega,rfl,hlt,p'⟩,λx H' y=>?_⟩;obtain⟨e,y⟩:=y;subst e y;exact hs i σ _ hlt p
 ·have e:i=n:=by lia
  subst e;exact .inl ⟨ZA _,hd σ H p⟩
abbrev R2:=V->V->Hp->VK->Prop
def OpR(X:Cx)(f:Value->Value->Sem Value)(r:R2):Prop :=
 ∀(pins:List (Addr×Obj)) (s:Shared) (σ:St) (H:Hp) (x y:V) (v u:Value) (Q:VK),Inv X pins σ H s->RelV x v->RelV y u->r x y H Q ->
  wpAny (model X.prog X.w) X.A (f v u) (EP X pins σ Q) X.xe s
def UnR(X:Cx)(f:Value->Sem Value)(r:V->Hp->VK->Prop):Prop :=
 ∀(pins:List (Addr×Obj)) (s:Shared) (σ:St) (H:Hp) (x:V) (v:Value) (Q:VK),Inv X pins σ H s->RelV x v->r x H Q ->
  wpAny (model X.prog X.w) X.A (f v) (EP X pins σ Q) X.xe s
def dE(X:Cx)(f:Value)(r:List V->Hp->VK->Prop):Prop :=
 ∀(pins:List (Addr×Obj)) (s:Shared) (σ:St) (H:Hp) (xs:List V) (us:List Value) (Q:VK),Inv X pins σ H s->aV xs us->r xs H Q ->
  wpAny (model X.prog X.w) X.A (call f us) (EP X pins σ Q) X.xe s
def PX(X:Cx)(r:V->Hp->(Bool->Hp->Prop)->Prop):Prop :=
 ∀(pins:List (Addr×Obj)) (s:Shared) (σ:St) (H:Hp) (x:V) (v:Value) (Q:Bool->Hp->Prop),Inv X pins σ H s->RelV x v->r x H Q ->
  wpAny (model X.prog X.w) X.A (truthy v) (TP X pins σ Q) X.xe s
def tOp(r:R2)(ta tb:TE):TE:=λσ H Q=>ta σ H λx H1=>tb σ H1 λy H2=>r x y H2 Q
def tUn(r:V->Hp->VK->Prop)(ta:TE):TE:=λσ H Q=>ta σ H λx H1=>r x H1 Q
def rI(C:Int->Int->Prop)(g:Int->Int->V):R2:=λx y H Q=>x.gi λi=>y.gi λj=>C i j/\Q (g i j) H
def rI0(g:Int->Int->V):R2:=λx y H Q=>x.gi λi=>y.gi λj=>Q (g i j) H
def rU(g:Int->V):V->Hp->VK->Prop:=λx H Q=>x.gi λi=>Q (g i) H
section
variable{X:Cx}{a b c:Expr}{ta tb tc:TE}{pos:Pos}
theorem MF(ha:PE X a ta)(hb:PE X b tb){pins:List (Addr×Obj)}{s:Shared}{σ:St}{H:Hp}{R:V->V->Hp->Prop}(I:Inv X pins σ H s)
  (h:ta σ H λx H1=>tb σ H1 λy H2=>R x y H2) {Q:Value->Shared->Prop}{f:Value->Value->Sem Value}
  (hf:∀v u s2 x y H2,Inv X pins σ H2 s2->RelV x v->RelV y u->R x y H2->wpAny (model X.prog X.w) X.A (f v u) Q X.xe s2) :
  wpAny (model X.prog X.w) X.A (eval a X.env) (λv s₁=>wpAny (model X.prog X.w) X.A (eval b X.env) (λu s₂=>wpAny (model X.prog X.w) X.A (f v u) Q X.xe s₂) X.xe s₁) X.xe s:=by
 refine bY (ha pins s σ H _ I h) λv s1 x H1 I1 r1 q1=>?_;refine bY (hb pins s1 σ H1 _ I1 q1) λu s2 y H2 I2 r2 q2=>?_;exact hf v u s2 x y H2 I2 r1 r2 q2
theorem bQ{op:Operator}{r:R2}(ho:OpR X (binaryOp op) r)(ha:PE X a ta)(hb:PE X b tb):PE X (.BinOp a op b pos) (tOp r ta tb):=by
 intro pins s σ H Q I h;exact wpAny_BinOp (MF ha hb I h λv u s2 x y H2 I2 rx ry q=>ho pins s2 σ H2 x y v u Q I2 rx ry q)
theorem y9{op:UnaryOp}{r:V->Hp->VK->Prop}(ho:UnR X (unaryOp op) r)(ha:PE X a ta):PE X (.UnaryOp op a pos) (tUn r ta):=by
 intro pins s σ H Q I h;exact UnaryOp_ (bY (ha pins s σ H _ I h) λv s1 x H1 I1 r1 q1=>ho pins s1 σ H1 x v Q I1 r1 q1)
theorem opI{f:Value->Value->Sem Value}{C:Int->Int->Prop}{g:Int->Int->Int}
  (rule:∀(i j:Int) (t u:Tok) (s:Shared) (Q:Value->Shared->Prop) (E:Value->Shared->Prop),C i j->Q (.int (g i j) s.toks) { s with toks:=s.toks+1 }->wpAny (model X.prog X.w) X.A (f (.int i t) (.int j u)) Q E s) :
  OpR X f (rI C λi j=>.int (g i j)):=by
 intro pins s σ H x y v u Q I rx ry h;obtain⟨i,rfl,z1⟩:=cQ h;obtain⟨j,rfl,z2⟩:=cQ z1;obtain⟨hc,q⟩:=z2;obtain⟨t,rfl⟩:=rx;obtain⟨t',rfl⟩:=ry;exact rule i j t t' s _ _ hc ⟨.int (g i j),H,I.tok _,⟨_,rfl⟩,q⟩
theorem KR{f:Value->Value->Sem Value}{g:Int->Int->Int}
  (rule:∀(i j:Int) (t u:Tok) (s:Shared) (Q:Value->Shared->Prop) (E:Value->Shared->Prop),Q (.int (g i j) s.toks) { s with toks:=s.toks+1 }->wpAny (model X.prog X.w) X.A (f (.int i t) (.int j u)) Q E s) :
  OpR X f (rI0 λi j=>.int (g i j)):=by
 intro pins s σ H x y v u Q I rx ry h;obtain⟨i,rfl,z1⟩:=cQ h;obtain⟨j,rfl,z2⟩:=cQ z1;have q:=z2;obtain⟨t,rfl⟩:=rx;obtain⟨t',rfl⟩:=ry;exact rule i j t t' s _ _ ⟨.int (g i j),H,I.tok _,⟨_,rfl⟩,q⟩
theorem GU{f:Value->Value->Sem Value}{g:Int->Int->Bool}
  (rule:∀(i j:Int) (t u:Tok) (s:Shared) (Q:Value->Shared->Prop) (E:Value->Shared->Prop),Q (.bool (g i j)) s->wpAny (model X.prog X.w) X.A (f (.int i t) (.int j u)) Q E s) :
  OpR X f (rI0 λi j=>.bl (g i j)):=by
 intro pins s σ H x y v u Q I rx ry h;obtain⟨i,rfl,z1⟩:=cQ h;obtain⟨j,rfl,z2⟩:=cQ z1;have q:=z2;obtain⟨t,rfl⟩:=rx;obtain⟨t',rfl⟩:=ry;exact rule i j t t' s _ _ ⟨.bl (g i j),H,I,rfl,q⟩
def P0(i j:Int):Prop:=0<j/\j<1073741824
def ML(i j:Int):Prop:=0<=j/\j<=1000000/\i.natAbs<2 ^ 64
def IE(i j:Int):Prop:=(-(2 ^ 64)<i/\i<2 ^ 64)\/(-(2 ^ 64)<j/\j<2 ^ 64)
theorem IE.ok{i j:Int}(h:IE i j):IntMulOk i j:=by
 rcases h with⟨h1,h2⟩ | ⟨h1,h2⟩
 ·exact .of_left (intBits_le_64 h1 h2)
 ·exact .of_right (intBits_le_64 h1 h2)
theorem aU:OpR X (binaryOp .Add) (rI0 λi j=>.int (i+j)):=KR λ_ _ _ _ _ _ _ q=>add_int q
theorem tM:OpR X (binaryOp .Sub) (rI0 λi j=>.int (i-j)):=KR λ_ _ _ _ _ _ _ q=>sub_int q
theorem tN:OpR X (binaryOp .Mult) (rI IE λi j=>.int (i*j)):=opI λ_ _ _ _ _ _ _ hc q=>mul_int q hc.ok
theorem bM:OpR X (binaryOp .FloorDiv) (rI P0 λi j=>.int (i / j)):=opI λi j _ _ _ _ _ hc q=>by
 have h1:(0:Int)<j:=hc.1;have h2:j<1073741824:=hc.2;exact floordiv_int (by lia) (by rw[Int.fdiv_eq_ediv_of_nonneg i (by lia)];exact q) (.inl (PyProof.noPylong_small (by omega)))
theorem hV:OpR X (binaryOp .Mod) (rI (λ_ j=>0<j) λi j=>.int (i%j)):=opI λi j _ _ _ _ _ hc q=>by
 have h1:(0:Int)<j:=hc;exact mod_int' (by lia) (by rw[Int.fmod_eq_emod_of_nonneg i (by lia)];exact q)
theorem xS:OpR X (binaryOp .Pow) (rI ML λi j=>.int (i ^ j.toNat)):=opI λ_ _ _ _ _ _ _ hc q=>pow_int_small hc.1 hc.2.1 hc.2.2 q
theorem KP:OpR X (binaryOp .BitXor) (rI0 λi j=>.int (Builtin.bitXor i j)):=KR λ_ _ _ _ _ _ _ q=>xor_int q
theorem unI{f:Value->Sem Value}{g:Int->Int}
  (rule:∀(i:Int) (t:Tok) (s:Shared) (Q:Value->Shared->Prop) (E:Value->Shared->Prop),Q (.int (g i) s.toks) { s with toks:=s.toks+1 }->wpAny (model X.prog X.w) X.A (f (.int i t)) Q E s) :
  UnR X f (rU λi=>.int (g i)):=by
 intro pins s σ H x v Q I rx h;obtain⟨i,rfl,q⟩:=cQ h;obtain⟨t,rfl⟩:=rx;exact rule i t s _ _ ⟨.int (g i),H,I.tok _,⟨_,rfl⟩,q⟩
theorem sV:UnR X (unaryOp .USub) (rU λi=>.int (-i)):=unI λ_ _ _ _ _ q=>neg_int q
end
def NG:V->V->Bool
 |.non,.non=>true | .non,.int _=>true | .int _,.non=>true | .non,.bl _=>true | .bl _,.non=>true | .non,.str _=>true | .str _,.non=>true
 |.int _,.int _=>true | .bl _,.bl _=>true | .str _,.str _=>true | .byt _,.byt _=>true
 |.int _,.str _=>true | .str _,.int _=>true | .bl _,.str _=>true | .str _,.bl _=>true
 |_,_=>false
def rEq:R2:=λx y H Q=>Sc (NG x y) <| Q (.bl (decide (x=y))) H
def rNe:R2:=λx y H Q=>Sc (NG x y) <| Q (.bl (!decide (x=y))) H
theorem zV{i j:Int}:decide (V.int i=V.int j)=(i==j):=by
 rw[Xd];simp
theorem FA{i j:Bool}:decide (V.bl i=V.bl j)=(i==j):=by
 rw[Xd];simp
theorem zU{i j:Str}:decide (V.str i=V.str j)=(i==j):=by
 rw[Xd];simp
theorem zW{i j:Array UInt8}:decide (V.byt i=V.byt j)=(i.toList==j.toList):=by
 rw[Xd];cases i;cases j;simp
section
variable{X:Cx}{a b c:Expr}{ta tb tc:TE}{pos:Pos}
theorem bD{pins:List (Addr×Obj)}{σ:St}{H:Hp}{s:Shared}{Q:VK}{k k':Bool}(I:Inv X pins σ H s)(q:Q (.bl k) H)(e:k=k'):EP X pins σ Q (.bool k') s:=by
 subst e;exact⟨.bl k,H,I,rfl,q⟩
theorem cI:OpR X (compareOp .Eq) rEq:=by
 intro pins s σ H x y v u Q I rx ry h;obtain⟨hs,q⟩:=JD h;cases x with
 |non =>
  cases rx;cases y with
  |non=>cases ry;exact PySem.EqNone.eq_none_none (bD I q (by simp))
  |bl j=>cases ry;exact PySem.EqNone.eq_none_bool (bD I q (by simp))
  |int j=>obtain⟨t',rfl⟩:=ry;exact PySem.EqNone.eq_none_int (bD I q (by simp))
  |str j=>obtain⟨t',rfl⟩:=ry;exact PySem.EqNone.eq_none_str (bD I q (by simp))
  |_=>exact Yg (show false=true from hs) YO
 |bl i =>
  cases rx;cases y with
  |non=>cases ry;exact PySem.EqNone.eq_bool_none (bD I q (by simp))
  |bl j=>cases ry;exact eq_bool (bD I q FA)
  |str j=>obtain⟨t',rfl⟩:=ry;exact PySem.EqMixed.eq_bool_str (bD I q (by simp))
  |_=>exact Yg (show false=true from hs) YO
 |int i =>
  obtain⟨t,rfl⟩:=rx;cases y with
  |non=>cases ry;exact PySem.EqNone.eq_int_none (bD I q (by simp))
  |int j=>obtain⟨t',rfl⟩:=ry;exact eq_int (bD I q zV)
  |str j=>obtain⟨t',rfl⟩:=ry;exact PySem.EqMixed.eq_int_str (bD I q (by simp))
  |_=>exact Yg (show false=true from hs) YO
 |str i =>
  obtain⟨t,rfl⟩:=rx;cases y with
  |non=>cases ry;exact PySem.EqNone.eq_str_none (bD I q (by simp))
  |bl j=>cases ry;exact PySem.EqMixed.eq_str_bool (bD I q (by simp))
  |int j=>obtain⟨t',rfl⟩:=ry;exact PySem.EqMixed.eq_str_int (bD I q (by simp))
  |str j=>obtain⟨t',rfl⟩:=ry;exact eq_str (bD I q zU)
  |_=>exact Yg (show false=true from hs) YO
 |byt i =>
  obtain⟨t,rfl⟩:=rx;cases y with
  |byt j=>obtain⟨t',rfl⟩:=ry;exact PySem.W.eq_bytes (bD I q zW)
  |_=>exact Yg (show false=true from hs) YO
 |_=>cases y<;>exact Yg (show false=true from hs) YO
theorem eO:OpR X (compareOp .NotEq) rNe:=by
 intro pins s σ H x y v u Q I rx ry h;obtain⟨hs,q⟩:=JD h;cases x with
 |non =>
  cases rx;cases y with
  |non=>cases ry;exact PySem.EqNone.ne_none_none (bD I q (by simp))
  |bl j=>cases ry;exact PySem.EqNone.ne_none_bool (bD I q (by simp))
  |int j=>obtain⟨t',rfl⟩:=ry;exact PySem.EqNone.ne_none_int (bD I q (by simp))
  |str j=>obtain⟨t',rfl⟩:=ry;exact PySem.EqNone.ne_none_str (bD I q (by simp))
  |_=>exact Yg (show false=true from hs) YO
 |bl i =>
  cases rx;cases y with
  |non=>cases ry;exact PySem.EqNone.ne_bool_none (bD I q (by simp))
  |bl j=>cases ry;exact ne_bool (bD I q (congrArg not FA))
  |str j=>obtain⟨t',rfl⟩:=ry;exact PySem.EqMixed.ne_bool_str (bD I q (by simp))
  |_=>exact Yg (show false=true from hs) YO
 |int i =>
  obtain⟨t,rfl⟩:=rx;cases y with
  |non=>cases ry;exact PySem.EqNone.ne_int_none (bD I q (by simp))
  |int j=>obtain⟨t',rfl⟩:=ry;exact ne_int (bD I q (congrArg not zV))
  |str j=>obtain⟨t',rfl⟩:=ry;exact PySem.EqMixed.ne_int_str (bD I q (by simp))
  |_=>exact Yg (show false=true from hs) YO
 |str i =>
  obtain⟨t,rfl⟩:=rx;cases y with
  |non=>cases ry;exact PySem.EqNone.ne_str_none (bD I q (by simp))
  |bl j=>cases ry;exact PySem.EqMixed.ne_str_bool (bD I q (by simp))
  |int j=>obtain⟨t',rfl⟩:=ry;exact PySem.EqMixed.ne_str_int (bD I q (by simp))
  |str j=>obtain⟨t',rfl⟩:=ry;exact ne_str (bD I q (congrArg not zU))
  |_=>exact Yg (show false=true from hs) YO
 |byt i =>
  obtain⟨t,rfl⟩:=rx;cases y with
  |byt j=>obtain⟨t',rfl⟩:=ry;exact PySem.W.ne_bytes (bD I q (congrArg not zW))
  |_=>exact Yg (show false=true from hs) YO
 |_=>cases y<;>exact Yg (show false=true from hs) YO
theorem r6:OpR X (compareOp .Lt) (rI0 λi j=>.bl (decide (i<j))):=GU λ_ _ _ _ _ _ _ q=>lt_int q
theorem lM:OpR X (compareOp .LtE) (rI0 λi j=>.bl (decide (i<=j))):=GU λ_ _ _ _ _ _ _ q=>le_int q
theorem IU:OpR X (compareOp .Gt) (rI0 λi j=>.bl (decide (j<i))):=GU λ_ _ _ _ _ _ _ q=>gt_int q
theorem NQ:OpR X (compareOp .GtE) (rI0 λi j=>.bl (decide (j<=i))):=GU λ_ _ _ _ _ _ _ q=>ge_int q
theorem DX:OpR X (compareOp .Is) (λx y H Q=>y=.non/\Q (.bl (decide (x=.non))) H):=by
 intro pins s σ H x y v u Q I rx ry h;obtain⟨rfl,q⟩:=h;cases ry;refine is_none_gen (bD I q ?_);cases x<;>first
  |(cases rx;rfl)
  |(obtain⟨t,rfl⟩:=rx;rfl)
theorem GT:OpR X (compareOp .IsNot) (λx y H Q=>y=.non/\Q (.bl (!decide (x=.non))) H):=by
 intro pins s σ H x y v u Q I rx ry h;obtain⟨rfl,q⟩:=h;cases ry;refine isnot_none_gen (bD I q ?_);cases x<;>first
  |(cases rx;rfl)
  |(obtain⟨t,rfl⟩:=rx;rfl)
theorem tP(b:Expr){op:CmpOp}(h:op≠.In:=by decide)(h2:op≠.NotIn:=by decide):behindInMarks op b=false:=by
 have e1:(op==CmpOp.In)=false:=by cases op<;>first | rfl | exact Yg rfl h
 have e2:(op==CmpOp.NotIn)=false:=by cases op<;>first | rfl | exact Yg rfl h2
 cases b<;>simp[behindInMarks,e1,e2]
theorem zA{op:CmpOp}{r:R2}(ho:OpR X (compareOp op) r)(ha:PE X a ta)(hb:PE X b tb)(hm:behindInMarks op b=false):PE X (.Compare a [op] [b] pos) (tOp r ta tb):=by
 intro pins s σ H Q I h;exact wpAny_Compare1 (MF ha hb I h λv u s2 x y H2 I2 rx ry q=>ho pins s2 σ H2 x y v u Q I2 rx ry q) hm
def rP(t:TE):TT:=λσ H Q=>t σ H λx H'=>x.gb λk=>Q k H'
theorem gU{op:CmpOp}{r:R2}(ho:OpR X (compareOp op) r)(ha:PE X a ta)(hb:PE X b tb)(hm:behindInMarks op b=false):PT X (.Compare a [op] [b] pos) (rP (tOp r ta tb)):=by
 intro pins s σ H Q I h;refine wpAny_isTrue_Compare1 (bY (ha pins s σ H _ I h) λv s1 x H1 I1 r1 q1=>bY (hb pins s1 σ H1 _ I1 q1) λu s2 y H2 I2 r2 q2 =>
  bY (ho pins s2 σ H2 x y v u _ I2 r1 r2 q2) λc s3 z H3 I3 r3 zz=>?_) hm
 obtain⟨k,e,q3⟩:=iX zz;subst e;cases r3;exact wpAny_truthy_bool ⟨H3,I3,q3⟩
def pA(r r':R2)(ta tb tc:TE):TE:=λσ H Q=>ta σ H λx H1=>tb σ H1 λy H2=>r x y H2 λz H3=>z.gb λk =>
 If k (tc σ H3 λw' H4=>r' y w' H4 Q) (Q (.bl false) H3)
theorem uY{op op':CmpOp}{r r':R2}(ho:OpR X (compareOp op) r)(ho':OpR X (compareOp op') r')(ha:PE X a ta)(hb:PE X b tb)(hc:PE X c tc)
  (hm:lastMarks [op,op'] [b,c]=false:=by with_unfolding_all rfl):PE X (.Compare a [op,op'] [b,c] pos) (pA r r' ta tb tc):=by
 intro pins s σ H Q I h;refine Compare_chain (bY (ha pins s σ H _ I h) λv s1 x H1 I1 r1 q1=>chain_link (bY (hb pins s1 σ H1 _ I1 q1) λu s2 y H2 I2 r2 q2 =>
  bY (ho pins s2 σ H2 x y v u _ I2 r1 r2 q2) λd s3 z H3 I3 r3 zz=>?_)) hm
 obtain⟨k,e,q3⟩:=iX zz;subst e;cases r3;refine wpAny_truthy_bool ?_;cases k with
 |false=>exact ite_ff ⟨.bl false,H3,I3,rfl,q3.f rfl⟩
 |true=>exact ite_tt (chain_last (thn (hc pins s3 σ H3 _ I3 (q3.t rfl)) λw' s4 ⟨z',H4,I4,r4,q4⟩=>ho' pins s4 σ H4 y z' u w' Q I4 r2 r4 q4))
theorem lD{op op':CmpOp}{r r':R2}(ho:OpR X (compareOp op) r)(ho':OpR X (compareOp op') r')(ha:PE X a ta)(hb:PE X b tb)(hc:PE X c tc)
  (hm:lastMarks [op,op'] [b,c]=false:=by with_unfolding_all rfl):PT X (.Compare a [op,op'] [b,c] pos) (rP (pA r r' ta tb tc)):=by
 intro pins s σ H Q I h;refine isTrue_chain (bY (ha pins s σ H _ I h) λv s1 x H1 I1 r1 q1=>test_link (bY (hb pins s1 σ H1 _ I1 q1) λu s2 y H2 I2 r2 q2 =>
  bY (ho pins s2 σ H2 x y v u _ I2 r1 r2 q2) λd s3 z H3 I3 r3 zz=>?_)) hm
 obtain⟨k,e,q3⟩:=iX zz;subst e;cases r3;refine wpAny_truthy_bool ?_;cases k with
 |false =>
  obtain⟨k',e',z1⟩:=iX (q3.f rfl);have q':=z1;cases e';exact ite_ff ⟨H3,I3,q'⟩
 |true =>
  refine ite_tt (test_last (thn (hc pins s3 σ H3 _ I3 (q3.t rfl)) λw' s4 ⟨z',H4,I4,r4,q4⟩=>thn (ho' pins s4 σ H4 y z' u w' _ I4 r2 r4 q4) λd' s5 ⟨z2,H5,I5,r5,zy⟩=>?_));obtain⟨k2,e2,q5⟩:=iX zy;subst e2;cases r5;exact wpAny_truthy_bool ⟨H5,I5,q5⟩
def OA(x:V)(H:Hp)(k:Bool):Prop :=
 match x with
 |.non=>k=false
 |.bl b=>k=b
 |.int i=>k=(i != 0)
 |.str y=>y.length<=ZW/\k=((y.length:Int) != 0)
 |.byt y=>y.size<=ZW/\k=((y.size:Int) != 0)
 |.ref p=>(∃xs,SqL H p xs/\k=!xs.isEmpty)\/(∃xs,SqT H p xs/\k=!xs.isEmpty)\/∃kvs,H p=some (.dK kvs)/\k=!kvs.isEmpty
 |_=>False
theorem yG{κ:Type}{kvs:List (κ×V)}{vs:List (κ×Value)}(r:KV kvs vs):(!vs.isEmpty)=!kvs.isEmpty:=by
 cases r<;>rfl
theorem qD{xs:List V}{its:List Value}(r:aV xs its):(!its.toArray.isEmpty)=!xs.isEmpty:=by
 cases r<;>simp
theorem fZ:(ZW:Nat)<2 ^ 63:=by rw[sizeLine_eq];decide
theorem JL:PX X (λx H Q=>∃k,OA x H k/\Q k H):=by
 intro pins s σ H x v Q I rx h;obtain⟨k,e,q⟩:=h;have hl:=fZ;have hs:ZW=16777216:=sizeLine_eq;cases x with
 |non =>
  cases rx;have e':k=false:=e;subst e';exact truthy_none ⟨H,I,q⟩
 |bl b =>
  cases rx;have e':k=b:=e;subst e';exact wpAny_truthy_bool ⟨H,I,q⟩
 |int i =>
  obtain⟨t,rfl⟩:=rx;have e':k=(i != 0):=e;subst e';exact PySem.P.truthy_int ⟨H,I,q⟩
 |str y =>
  obtain⟨t,rfl⟩:=rx;obtain⟨hy,e'⟩:y.length<=ZW/\k=((y.length:Int) != 0):=e;subst e';exact PySem.P.truthy_str (by lia) ⟨H,I.tok _,q⟩
 |byt y =>
  obtain⟨t,rfl⟩:=rx;obtain⟨hy,e'⟩:y.size<=ZW/\k=((y.size:Int) != 0):=e;subst e';exact PySem.W.truthy_bytes (by lia) ⟨H,I.tok _,q⟩
 |ref p =>
  cases rx;have e':(∃xs,SqL H p xs/\k=!xs.isEmpty)\/(∃xs,SqT H p xs/\k=!xs.isEmpty)\/∃kvs,H p=some (.dK kvs)/\k=!kvs.isEmpty:=e;rcases e' with⟨xs,hx,e'⟩ | ⟨xs,hx,e'⟩ | ⟨kvs,hx,e'⟩
  ·subst e';obtain⟨its,r,pl,hz⟩:=I.list hx;have hlen:=r.length;exact wpAny_truthy_list pl.isList (by simp only[ZE];lia) ⟨H,I.tok _,by rw[qD r];exact q⟩
  ·subst e';obtain⟨its,r,pl,hz⟩:=I.tuple hx;have hlen:=r.length;exact truthy_tuple pl (by simp only[ZE];lia) ⟨H,I.tok _,by rw[qD r];exact q⟩
  ·subst e';obtain⟨hz,hS,vs,r,m⟩:kvs.length<=ZW/\(p==sysModules)=false/\∃vs,KV kvs vs/\s.heap.DictOf (bT X.prog X.w) p vs:=I.hok p _ hx;have hlen:kvs.length=vs.length:=Paired.length r;exact wpAny_truthy_dict hS m (by lia) ⟨H,I.tok _,by rw[yG r];exact q⟩
 |_=>exact(show False from e).elim
theorem bR(ha:PE X a ta)(he:∀whole,isTrue a X.env whole=(do let v <-whole;standAt a.pos;holding [v] (truthy v))) :
  PT X a (λσ H Q=>ta σ H λx H'=>∃k,OA x H' k/\Q k H'):=by
 intro pins s σ H Q I h;exact isTrue_plain (bY (ha pins s σ H _ I h) λv s1 x H1 I1 r1 q1=>JL pins s1 σ H1 x v Q I1 r1 q1) (he _)
theorem vals1{x:V}{us:List Value}(r:aV [x] us):∃u,us=[u]/\RelV x u:=by
 cases r with
 |cons r1 r2=>cases r2;exact⟨_,rfl,r1⟩
theorem vals2{x y:V}{us:List Value}(r:aV [x,y] us):∃u w',us=[u,w']/\RelV x u/\RelV y w':=by
 cases r with
 |cons r1 r2 =>
  cases r2 with
  |cons r3 r4=>cases r4;exact⟨_,_,rfl,r1,r3⟩
theorem BY(hc:X.calm=true):dE X (.builtin "max") (λxs H Q=>∃i j,xs=[.int i,.int j]/\Q (.int (if j>i then j else i)) H):=by
 intro pins s σ H xs us Q I r h;obtain⟨i,j,rfl,q⟩:=h;obtain⟨u,w',rfl,⟨t,rfl⟩,⟨t',rfl⟩⟩:=vals2 r;refine max_two_ints (I.ok.hd hc) λh' tk k=>⟨_,H,I.kept k,?_,q⟩
 by_cases hj:j>i
 ·rw[Yb hj,Yb hj];exact⟨_,rfl⟩
 ·rw[Ya hj,Ya hj];exact⟨_,rfl⟩
theorem BX(hc:X.calm=true):dE X (.builtin "min") (λxs H Q=>∃i j,xs=[.int i,.int j]/\Q (.int (if j<i then j else i)) H):=by
 intro pins s σ H xs us Q I r h;obtain⟨i,j,rfl,q⟩:=h;obtain⟨u,w',rfl,⟨t,rfl⟩,⟨t',rfl⟩⟩:=vals2 r;refine min_two_ints (I.ok.hd hc) λh' tk k=>⟨_,H,I.kept k,?_,q⟩
 by_cases hj:j<i
 ·rw[Yb hj,Yb hj];exact⟨_,rfl⟩
 ·rw[Ya hj,Ya hj];exact⟨_,rfl⟩
theorem fW:dE X (.type "int") (λxs H Q=>(∃i,xs=[.int i]/\Q (.int i) H)\/∃k,xs=[.bl k]/\Q (.int (if k then 1 else 0)) H):=by
 intro pins s σ H xs us Q I r h;rcases h with⟨i,rfl,q⟩ | ⟨k,rfl,q⟩
 ·obtain⟨u,rfl,t,rfl⟩:=vals1 r;exact call_int_int ⟨.int i,H,I,⟨_,rfl⟩,q⟩
 ·obtain⟨u,rfl,r1⟩:=vals1 r;cases r1;exact call_int_bool ⟨.int (if k then 1 else 0),H,I.tok _,⟨_,rfl⟩,q⟩
end
section
variable{prog:Program}{w:World}{A:Around}{E:Value->Shared->Prop}{s:Shared}{K:PySem.W.Frag}{x dx C f:Addr}{mA:Str->Option Value}{name:Str}{v:Value}
end
theorem mI{v:V}{o:Option Value}(r:uB (some v) o):∃u,o=some u/\RelV v u:=by
 cases o with
 |none=>exact(show False from r).elim
 |some u=>exact⟨u,rfl,r⟩
section
variable{P:Program}{w:World}{H H':Hp}{h h':Heap}{a C dx:Addr}{fs fs':List (Str×V)}
end
section
variable{X:Cx}{pins:List (Addr×Obj)}{σ:St}{H:Hp}{s:Shared}{a C dx:Addr}{fs:List (Str×V)}{f:Str}{v:V}{A:Around}{E:Value->Shared->Prop}
end
section
variable{X:Cx}{o e value:Expr}{f:Str}{pos pos' tpos:Pos}{ta tv:TE}
end
section
variable{X:Cx}{pins:List (Addr×Obj)}{σ:St}{H:Hp}{s:Shared}{A:Around}{E:Value->Shared->Prop}{Q:Value->Shared->Prop}{c:Value}{b:Bool}
end
structure fN(k:Nat)(A:Around):Prop where
 hd:A.handled=none
 dp:A.depth+3*k+5<recursionLimit
 un:A.units+16*k+200<cLine
theorem fN.mono{j k:Nat}{A:Around}(r:fN k A)(h:j<=k):fN j A:=⟨r.hd,by have:=r.dp;lia,by have:=r.un;lia⟩
theorem fN.deeper{k:Nat}{A:Around}(r:fN (k+1) A)(env:Env):fN k (A.deeper env) :=
 ⟨r.hd,by have:=r.dp;show A.depth+1+3*k+5<_;lia,by have:=r.un;show A.units+3+16*k+200<_;lia⟩
theorem fN.depth{k:Nat}{A:Around}(r:fN k A):A.depth<recursionLimit:=by have:=r.dp;lia
theorem fN.units{k:Nat}{A:Around}(r:fN k A):A.units+64<cLine:=by have:=r.un;lia
theorem fN.units0{k:Nat}{A:Around}(r:fN k A):A.units<cLine:=by have:=r.un;lia
def F0:TA:=λ_ H Q=>Q [] H
def oZ(ta:TE)(tr:TA):TA:=λσ H Q=>ta σ H λx H1=>tr σ H1 λxs H2=>Q (x::xs) H2
section
variable{X:Cx}{e:Expr}{es:List Expr}{te:TE}{t:TA}{pos:Pos}
theorem aK:PA X [] F0:=λ_ _ _ _ H Q I h=>Calls.spliced_nil ⟨[],H,I,.nil,h⟩
theorem aE(ha:PE X e te)(hr:PA X es t)(hs:starEach (e::es) X.env=(false,eval e X.env)::starEach es X.env:=by rfl):PA X (e::es) (oZ te t):=by
 intro pos pins s σ H Q I h;rw[hs];show wpAny _ _ (spliced ((false,eval e X.env)::backTo pos (starEach es X.env))) _ _ s;refine Calls.spliced_cons (bY (ha pins s σ H _ I h) λu s1 x H1 I1 r1 q1=>?_);exact oY (hr pos pins s1 σ H1 _ I1 q1) λus s2 xs H2 I2 r2 q2=>⟨x::xs,H2,I2,.cons r1 r2,q2⟩
def JP(t:TA):TE:=λσ H Q=>t σ H λxs H1=>xs.length<=ZW/\∀p,H1 p=none->Q (.ref p) (upd H1 p (.tup xs))
def MT(t:TA):TE:=λσ H Q=>t σ H λxs H1=>xs.length<=ZW/\∀p,H1 p=none->Q (.ref p) (upd H1 p (.lst xs))
theorem dH{x1}(h:PA X es t):PE X (.Tuple es x1 pos) (JP t):=by
 intro pins s σ H Q I hq;refine wpAny_Tuple_spliced (thn (h pos pins s σ H _ I hq) λus s1 ⟨xs,H1,I1,r,z,q⟩=>⟨by rw[<-r.length];exact z,?_⟩);have hf:H1 s1.heap.objs.size=none:=I1.hok.fresh (ZA _);refine⟨.ref s1.heap.objs.size,upd H1 s1.heap.objs.size (.tup xs),I1.laid (t':=s1.toks) (λb u e=>YU _ e) (ZA _) ?_,rfl,q _ hf⟩;exact⟨z,us,r,⟨_,YS _ rfl,rfl,_,rfl⟩⟩
theorem fO(h:PA X es t):PE X (.List es pos) (MT t):=by
 intro pins s σ H Q I hq;refine wpAny_List_spliced (thn (h pos pins s σ H _ I hq) λus s1 ⟨xs,H1,I1,r,z,q⟩=>⟨by rw[<-r.length];exact z,?_⟩);have hf:H1 s1.heap.objs.size=none:=I1.hok.fresh (ZA _);refine⟨.ref s1.heap.objs.size,upd H1 s1.heap.objs.size (.lst xs),I1.laid (t':=s1.toks) (λb u e=>YU _ e) (ZA _) ?_,rfl,q _ hf⟩;exact⟨z,us,0,r,YS _ rfl⟩
end
abbrev Sp:=List V->Hp->VK->XK->Prop
abbrev CXT:=List Env->Hp->Shared->XK->Value->Shared->Prop
structure IC(P:Program)(w:World)(K:PySem.W.Frag)(mg:Str->Option Value)(base:Heap)(A:Around)(outer:List Env)(s:Shared)(H:Hp):Prop where
 frames:A.frames=some outer
 mod:Mod K mg base
 bs:∀b o,base.get? b=some o->s.heap.get? b=some o/\H b=none
 bsz:base.objs.size<=s.heap.objs.size
 funs:s.heap.FunFrames base outer
 frf:∀b∈frs outer,H b=none
 hok:HOk P w H s.heap
 bare:AllBare s.gens
def CE(outer:List Env)(P:Program)(w:World)(H:Hp)(s:Shared)(Q:VK)(u:Value)(s':Shared):Prop :=
 ∃v H',s'.os=s.os/\AllBare s'.gens/\Un (frs outer) [] H H' s.heap s'.heap/\HOk P w H' s'.heap/\RelV v u/\Q v H'
def CR(CX:CXT)(outer:List Env)(P:Program)(w:World)(H:Hp)(s:Shared)(Q:VK)(E:XK)(r:Result)(s':Shared):Prop :=
 match r with
 |.ok (.ret u)=>CE outer P w H s Q u s'
 |.ok _=>False
 |.error e=>CX outer H s E e s'
structure kS(P:Program)(w:World)(K:PySem.W.Frag)(mg:Str->Option Value)(base:Heap)(CX:CXT)(k:Nat)(f:Addr)(fd:FuncData)(ps:List Str)(sp:Sp):Prop where
 len:∀vs H Q E,sp vs H Q E->vs.length=ps.length
 run:∀(A:Around) (outer:List Env) (s:Shared) (H:Hp) (args:Args) (us:List Value) (vs:List V) (Q:VK) (E:XK),fN k A->IC P w K mg base A outer s H->BindsTo s fd args (ps.zip us)->aV vs us->sp vs H Q E ->
  codeAny (model P w) A (.call (.ref f) args) (CR CX outer P w H s Q E) s
theorem kS.mono{P:Program}{w:World}{K:PySem.W.Frag}{mg:Str->Option Value}{base:Heap}{CX:CXT}{j k:Nat}{f:Addr}{fd:FuncData}{ps:List Str}{sp:Sp}(F:kS P w K mg base CX j f fd ps sp)(h:j<=k) :
  kS P w K mg base CX k f fd ps sp:=⟨F.len,λA outer s H args us vs Q E hr=>F.run A outer s H args us vs Q E (hr.mono h)⟩
section
variable{X:Cx}{pins:List (Addr×Obj)}{σ:St}{H:Hp}{s s':Shared}
theorem Inv.env0(I:Inv X pins σ H s):IC X.prog X.w X.K X.mg X.base X.A X.stack s H :=
 ⟨I.ok.frames,I.ok.mod,I.bs,Xz I.ok.bsz I.sz,I.stack,I.stkFree,I.hok,I.bare⟩
theorem Inv.after{Q:VK}{u:Value}(I:Inv X pins σ H s)(h:CE X.stack X.prog X.w H s Q u s'):EP X pins σ Q u s':=by
 obtain⟨v,H',os,bare,un,hok,r,q⟩:=h;obtain⟨hh,g,d,t,os'⟩:=s';obtain rfl:os'=s.os:=os;exact⟨v,H',I.call (h':=hh) (g':=g) (d':=d) (t':=t) (ch:=[]) un hok bare (λb z=>Yg z (by simp)),r,q⟩
end
def IH(sp:Sp)(dvs:List V)(E:XK)(t:TA):TE:=λσ H Q=>t σ H λvs H1=>sp (vs++dvs) H1 Q E
def Binds(K:PySem.W.Frag)(fd:FuncData)(ps:List Str)(ds:List Value):Prop :=
 ∀(s:Shared) (us:List Value),K.In s.heap->(us++ds).length=ps.length->BindsTo s fd ⟨us,[]⟩ (ps.zip (us++ds))
theorem Binds.all{K:PySem.W.Frag}{fd:FuncData}{ps:List Str}(h:∀us:List Value,us.length=ps.length->bindArgs fd ⟨us,[]⟩=pure (ps.zip us)):Binds K fd ps []:=λs us _ hl=>by
 rw[List.append_nil]at hl ⊢;exact .of_eq (h us hl)
def kR(CX:CXT)(X:Cx)(E:XK):Prop:=∀(pins:List (Addr×Obj)) (σ:St) (H:Hp) (s:Shared) (e:Value) (s':Shared),Inv X pins σ H s->CX X.stack H s E e s'->X.xe e s'
section
variable{X:Cx}{CX:CXT}{k:Nat}{f C:Addr}{fd:FuncData}{ps:List Str}{sp:Sp}{dvs:List V}{ds:List Value}{E:XK}{x m:Str}{p pos apos:Pos}{e o:Expr}{es:List Expr}{ta:TE}{t:TA}
theorem KB{pins:List (Addr×Obj)}{σ:St}{H:Hp}{s:Shared}{Q:VK}{us:List Value}{vs:List V}(F:kS X.prog X.w X.K X.mg X.base CX k f fd ps sp)(hr:fN k X.A)(hb:Binds X.K fd ps ds)(hd:aV dvs ds)(hx:kR CX X E)
  (I:Inv X pins σ H s) (r:aV vs us) (h:sp (vs++dvs) H Q E):wpAny (model X.prog X.w) X.A (call (.ref f) us) (EP X pins σ Q) X.xe s:=by
 have r2:aV (vs++dvs) (us++ds):=r.append hd;have hl:(us++ds).length=ps.length:=by rw[<-r2.length];exact F.len _ _ _ _ h
 refine wpAny_call (codeAny_mono (F.run X.A X.stack s H ⟨us,[]⟩ (us++ds) (vs++dvs) Q E hr I.env0 (hb s us I.kIn hl) r2 h) λr s' hq=>?_);cases r with
 |error e=>exact hx pins σ H s e s' I hq
 |ok fl =>
  cases fl with
  |ret u=>exact I.after hq
  |next=>exact False.elim hq
  |brk=>exact False.elim hq
  |cont=>exact False.elim hq
theorem GS(F:kS X.prog X.w X.K X.mg X.base CX k f fd ps sp)(hr:fN k X.A)(hg:Gl X x)(hm:X.mg x=some (.ref f))(hk:PySem.W.keepIn X.K (.ref f)=true)(hb:Binds X.K fd ps ds)(hd:aV dvs ds)(hx:kR CX X E)
  (ha:PA X (e::es) t) (hdb:(x==("__debug__" : Str))=false:=by decide) (he:starEach (e::es) X.env=(false,eval e X.env)::starEach es X.env:=by rfl) (hpl:(backTo pos (starEach es X.env)).any (·.1)=false:=by rfl) :
  PE X (.Call (.Name x p) (e::es) [] pos) (IH sp dvs E t):=by
 intro pins s σ H Q I h;refine wpAny_Call_Name_kw (oO I hg hm ?_ hdb);refine PySem.W.callWith_K (h₀:=X.base) I.ok.mod.kin hk (oY (ha pos pins s σ H _ I h) λus s1 vs H1 I1 r q=>⟨I1.kIn,?_⟩) he hpl;exact KB F hr hb hd hx I1 r q
end
section
variable{X:Cx}{CX:CXT}{k:Nat}{f C:Addr}{fd:FuncData}{ps ks:List Str}{sp:Sp}{E:XK}{x m:Str}{p pos apos kpos:Pos}{e o:Expr}{es:List Expr}{kws:List Keyword}{te ta:TE}{t tk:TA}{nm:Option Str}
variable{g:List Value->List Value->List Value}{gV:List V->List V->List V}
end
structure eE(N P:List Str)(sc:Scope):Prop where
 kind:sc.kind=.function
 co:sc.isCoroutine=false
 gen:sc.isGenerator=false
 nd:N.Nodup
 pre:N.take P.length=P
 par:∀x∈P,sc.names.lookup x=some .local\/sc.names.lookup x=some .cell
 nofree:∀y∈sc.names,y.2≠.free
theorem sM{kindOf:Str->Option NameKind}{x:Str}:∀{binds:List (Str×Value)}{m:Str->Option Value},(∀v,(x,v)∉binds)->bindL kindOf binds m x=m x
 |[],_,_=>rfl
 |(n,v)::r,m,h=>by
  unfold bindL;rw[sM λw hw=>h w (Zw _ hw)];split
  ·have:x≠n:=by rintro rfl;exact h v Zd
   simp[this]
  ·rfl
theorem sO{kindOf:Str->Option NameKind}{x:Str}:∀{binds:List (Str×Value)}{m:Str->Option Value},(∀v,(x,v)∉binds)->bindC kindOf binds m x=m x
 |[],_,_=>rfl
 |(n,v)::r,m,h=>by
  unfold bindC;rw[sO λw hw=>h w (Zw _ hw)];split
  ·rfl
  ·have:x≠n:=by rintro rfl;exact h v Zd
   simp[this]
theorem sN{kindOf:Str->Option NameKind}{x:Str}{v:Value}:∀{P:List Str}{vs:List Value}{i:Nat}{m:Str->Option Value},P.Nodup->P[i]?=some x->vs[i]?=some v->kindOf x=some .local ->
  bindL kindOf (P.zip vs) m x=some v
 |[],_,_,_,_,h,_,_=>by simp at h
 |_::_,[],_,_,_,_,h,_=>by simp at h
 |p::P,w::vs,0,m,nd,h1,h2,hk=>by
  simp at h1 h2;subst h1;subst h2;show bindL kindOf ((p,w)::P.zip vs) m p=_;unfold bindL;rw[sM λv hv=>(List.nodup_cons.mp nd).1 (List.of_mem_zip hv).1,Yb hk];simp
 |p::P,w::vs,i+1,m,nd,h1,h2,hk=>by
  show bindL kindOf ((p,w)::P.zip vs) m x=_;unfold bindL;exact sN (i:=i) (List.nodup_cons.mp nd).2 (by simpa using h1) (by simpa using h2) hk
theorem sP{kindOf:Str->Option NameKind}{x:Str}{v:Value}:∀{P:List Str}{vs:List Value}{i:Nat}{m:Str->Option Value},P.Nodup->P[i]?=some x->vs[i]?=some v->kindOf x≠some .local ->
  bindC kindOf (P.zip vs) m x=some v
 |[],_,_,_,_,h,_,_=>by simp at h
 |_::_,[],_,_,_,_,h,_=>by simp at h
 |p::P,w::vs,0,m,nd,h1,h2,hk=>by
  simp at h1 h2;subst h1;subst h2;show bindC kindOf ((p,w)::P.zip vs) m p=_;unfold bindC;rw[sO λv hv=>(List.nodup_cons.mp nd).1 (List.of_mem_zip hv).1,Ya hk];simp
 |p::P,w::vs,i+1,m,nd,h1,h2,hk=>by
  show bindC kindOf ((p,w)::P.zip vs) m x=_;unfold bindC;exact sP (i:=i) (List.nodup_cons.mp nd).2 (by simpa using h1) (by simpa using h2) hk
def start(N:List Str)(vs:List V):St:=vs.map some++ZF (N.length-vs.length) none
def nZ(CX:CXT)(P:Program)(w:World)(K:PySem.W.Frag)(mg:Str->Option Value)(base:Heap)(N:List Str)(qual:Str)(scope:Scope)(f:Addr)(cd:Value)(A:Around)(outer:List Env)(s:Shared)(H:Hp)(E:XK):Cx where
 prog:=P
 w:=w
 K:=K
 mg:=mg
 base:=base
 A:=A.deeper (envOfC qual scope s.heap.objs.size f cd)
 N:=N
 s₀:=s
 H₀:=H
 env:=envOfC qual scope s.heap.objs.size f cd
 outer:=outer
 stack:=envOfC qual scope s.heap.objs.size f cd::outer
 ex:=[]
 calm:=true
 fn:=λ_=>true
 pn:=[]
 xe:=λe s'=>wpAny (model P w) (A.deeper (envOfC qual scope s.heap.objs.size f cd)) (leaving (envOfC qual scope s.heap.objs.size f cd) e) (λ_ s''=>CX outer H s E e s'') (λe' s''=>CX outer H s E e' s'') s'
theorem vW{sc:Scope}{n:Nat}{x:Str}(h:sc.names.lookup x=some .cell):∃c,(cellsFrom n sc.names []).lookup x=some c:=by
 have q:=PySem.W.cellsFrom_some sc.names n [] (.inl h);exact Option.isSome_iff_exists.mp q
theorem BL{CX:CXT}{P:Program}{w:World}{K:PySem.W.Frag}{mg:Str->Option Value}{base:Heap}{N ps:List Str}{qual:Str}{scope:Scope}{f:Addr}{cd:Value}{A:Around}{outer:List Env}{s s1:Shared}{H:Hp}{E:XK}{us:List Value}{vs:List V}
  (S:eE N ps scope) (hd:A.handled=none) (e0:IC P w K mg base A outer s H) (hl:vs.length=ps.length) (r:aV vs us)
  (x:InCallC s s.heap.objs.size (bindL (envOfC qual scope s.heap.objs.size f cd).kindOf (ps.zip us) λ_=>none) (cellsFrom (s.heap.objs.size+1) scope.names []) (bindC (envOfC qual scope s.heap.objs.size f cd).kindOf (ps.zip us) λ_=>none) s1) :
  Inv (nZ CX P w K mg base N qual scope f cd A outer s H E) [] (start N vs) H s1:=by
 have hpl:ps.length<=N.length:=by have:=congrArg List.length S.pre;rw[Yx]at this;lia
 obtain⟨h1,tk,rfl,hk⟩:=x.done;have noA:∀b:Addr,b∉(nZ CX P w K mg base N qual scope f cd A outer s H E).ex:=λb z=>Yg (show b∈([]:List Addr) from z) (by simp);refine⟨⟨e0.mod,S.kind,rfl,rfl,ZA _,λy z c h1 h2=>?_,λy hy=>?_,λy c _ h=>?_,λ_=>hd,Around.frames_deeper e0.frames,.inr ⟨rfl,rfl⟩,λb z=>Yg z (noA b),e0.bs,e0.bsz,λb _ _=>noA b,λb z=>Yg z (noA b),e0.funs,e0.frf⟩,
  rfl,e0.bare,Un.kept hk,⟨_,x.toInCall.ns,λi y v h1 h2 h3=>?_⟩,λy c h=>⟨_,x.cell y c h⟩,e0.hok.fresh (ZA _),λy c h=>?_,λp hp=>Yg (show p∈([]:List (Addr×Obj)) from hp) (by simp),e0.hok.kept hk,?_⟩
 ·exact name_of_addr x.apart (PySem.mem_of_lookup h1) (PySem.mem_of_lookup h2)
 ·have hy:scope.names.lookup y=some .cell\/scope.names.lookup y=some .free:=hy;rcases hy with hy | hy
  ·exact vW hy
  ·exact Yg rfl (S.nofree _ (PySem.mem_of_lookup hy))
 ·exact Nat.le_of_lt (x.above y c (PySem.mem_of_lookup h))
 ·have hi:i<vs.length:=by
   unfold start at h2;by_cases hi:i<vs.length
   ·exact hi
   ·rw[Zy (by simpa using hi)]at h2;rw[List.getElem?_replicate]at h2;split at h2<;>cases h2
  have ha:vs[i]?=some v:=by
   unfold start at h2;rw[Zx (by simpa using hi),Zk]at h2;cases e:vs[i]? with
   |none=>rw[e]at h2;cases h2
   |some a=>rw[e]at h2;cases h2;rfl
  obtain⟨u,hu,rv⟩:=r.get ha;have hp:ps[i]?=some y:=by
   rw[<-S.pre,List.getElem?_take_of_lt (by lia)];exact h1
  have ndP:ps.Nodup:=by rw[<-S.pre];exact S.nd.sublist (List.take_sublist _ _)
  refine⟨u,rv,?_⟩;rcases S.par y (Zg hp) with k | k
  ·exact .inl ⟨k,sN ndP hp hu k⟩
  ·obtain⟨c,e⟩:=vW (n:=s.heap.objs.size+1) k;refine .inr ⟨.inl k,c,e,?_⟩;have q:=x.cell y c e;rw[sP ndP hp hu (by show scope.names.lookup y≠_;rw[k];decide)]at q;exact q
 ·exact e0.hok.fresh (Nat.le_of_lt (x.above y c (PySem.mem_of_lookup h)))
 ·unfold start;show _=N.length;rw[Zm,Zq,List.length_replicate]
  lia
theorem I0{CX:CXT}{P:Program}{w:World}{K:PySem.W.Frag}{mg:Str->Option Value}{base:Heap}{k:Nat}{f:Addr}{name qual:Str}{params:Arguments}{body:List Stmt}{scope:Scope}{dV kV doc pm cdv ct oc:Value}{an od:Option Addr}
  {osl:Array (Option Value)}{N ps:List Str}{sp:Sp}(lk:K.lookup f=some ⟨oc,od,.func (PySem.W.fnOf name qual params body scope dV kV doc pm an cdv ct),osl⟩) (hcd:PySem.W.codeIn K cdv qual=true) (S:eE N ps scope)
  (len:∀vs H Q E,sp vs H Q E->vs.length=ps.length)
  (hbody:∀(A:Around) (outer:List Env) (s:Shared) (H:Hp) (vs:List V) (Q:VK) (E:XK),fN k (A.deeper (envOfC qual scope s.heap.objs.size f cdv))->sp vs H Q E ->
   ∃t,PSs (nZ CX P w K mg base N qual scope f cdv A outer s H E) body t/\t { nx:=λ_ H'=>Q .non H',rt:=Q } (start N vs) H) :
  kS P w K mg base CX (k+1) f (PySem.W.fnOf name qual params body scope dV kV doc pm an cdv ct) ps sp:=by
 refine⟨len,λA outer s H args us vs Q E hr e0 hb r hsp=>?_⟩;have hl:=len _ _ _ _ hsp;have KX:K.In s.heap:=e0.mod.kin.keeps λb o e=>(e0.bs b o e).1;have lim:s.heap.NoLimit:=e0.mod.nolimit.keeps λb o e=>(e0.bs b o e).1;have hkind:∀y∈ps.zip us,scope.names.lookup y.1=some .local\/(scope.names.lookup y.1=some .cell/\((cellsFrom (s.heap.objs.size+1) scope.names []).lookup y.1).isSome=true):=λ⟨n,v⟩ hy=>by
  rcases S.par n (List.of_mem_zip hy).1 with q | q
  ·exact .inl q
  ·exact .inr ⟨q,PySem.W.cellsFrom_some _ _ _ (.inl q)⟩
 refine codeAny_call_function hr.depth (KX _ _ lk) rfl S.co S.gen rfl (PySem.W.codeRec_of KX hcd) (hb _ _ _ _ ?_);refine wpAny_newFunctionEnv_cells S.kind hkind λenv he s1 x=>?_;subst he;refine⟨lim.keeps x.toInCall.keep,codeAny_func ?_⟩;obtain⟨t,ht,hq⟩:=hbody A outer s H vs Q E (hr.deeper _) hsp;have I:Inv (nZ CX P w K mg base N qual scope f cdv A outer s H E) [] (start N vs) H s1:=BL S hr.hd e0 hl r x;refine ZX (ht [] s1 (start N vs) H _ I hq) (λfl s' hs=>?_) λe s' hs=>hs;have fin:∀{σ':St}{H':Hp}{v:V}{u:Value},Inv (nZ CX P w K mg base N qual scope f cdv A outer s H E) [] σ' H' s'->RelV v u->Q v H'->CE outer P w H s Q u s' :=
  λ{σ' H' v u} J rv q=>⟨v,H',J.os,J.bare,J.base,J.hok,rv,q⟩
 cases fl with
 |ret u =>
  obtain⟨v,σ',H',J,rv,q⟩:=hs;exact fin J rv q
 |next =>
  obtain⟨σ',H',J,q⟩:=hs;exact fin (v:=V.non) (u:=Value.none) J rfl q
 |brk =>
  obtain⟨_,_,_,q⟩:=hs;exact False.elim q
 |cont =>
  obtain⟨_,_,_,q⟩:=hs;exact False.elim q
section
variable{X:Cx}{x:Str}{p pos:Pos}{e:Expr}{es:List Expr}{t:TA}{id T:String}{r:List V->Hp->VK->Prop}
def tCB(r:List V->Hp->VK->Prop)(t:TA):TE:=λσ H Q=>t σ H λvs H1=>r vs H1 Q
theorem aP(hc:dE X (.builtin id) r)(hg:Gl X x)(hm:X.mg x=none)(hv:bootBuiltins x=some (.builtin id))(ha:PA X (e::es) t)(hn:x≠"__name__":=by decide)(hdb:(x==("__debug__" : Str))=false:=by decide)
  (he:starEach (e::es) X.env=(false,eval e X.env)::starEach es X.env:=by rfl) (hpl:(backTo pos (starEach es X.env)).any (·.1)=false:=by rfl):PE X (.Call (.Name x p) (e::es) [] pos) (tCB r t):=by
 intro pins s σ H Q I h;refine wpAny_Call_Name_kw (iU I hg hm hv ?_ hn hdb);exact PyProof.Rows.callWith_builtin1 (oY (ha pos pins s σ H _ I h) λus s1 vs H1 I1 r1 q1=>hc pins s1 σ H1 vs us Q I1 r1 q1) he hpl
theorem a9(hc:dE X (.type T) r)(hg:Gl X x)(hm:X.mg x=none)(hv:bootBuiltins x=some (.type T))(ha:PA X (e::es) t)(hn:x≠"__name__":=by decide)(hdb:(x==("__debug__" : Str))=false:=by decide)
  (he:starEach (e::es) X.env=(false,eval e X.env)::starEach es X.env:=by rfl) (hpl:(backTo pos (starEach es X.env)).any (·.1)=false:=by rfl):PE X (.Call (.Name x p) (e::es) [] pos) (tCB r t):=by
 intro pins s σ H Q I h;refine wpAny_Call_Name_kw (iU I hg hm hv ?_ hn hdb);exact PyProof.Rows.callWith_type1 (oY (ha pos pins s σ H _ I h) λus s1 vs H1 I1 r1 q1=>hc pins s1 σ H1 vs us Q I1 r1 q1) he hpl
end
end L2
namespace HT
open PySem PyProof.Rows
section
open PySem.SeqAt
open PySem.AutoSeq1 (wpAny_loadPart')
open PySem.MeetsSeq PySem.MeetsSeq2 PySem.MeetsSeq3
end
section
variable{prog:Program}{w:World}{A:Around}{E:Value->Shared->Prop}{s:Shared}
def sIx(n d:Nat):Option Int->Nat
 |none=>d
 |some v=>if v<0 then (v+(n:Int)).toNat else min v.toNat n
end
end HT
namespace L2
open PySem PySem.Spec PyProof.Rows
abbrev TO:=St->Hp->(Option Int->Hp->Prop)->Prop
def PO(X:Cx)(e:Option Expr)(t:TO):Prop :=
 ∀(pins:List (Addr×Obj)) (s:Shared) (σ:St) (H:Hp) (Q:Option Int->Hp->Prop),Inv X pins σ H s->t σ H Q ->
  wpAny (model X.prog X.w) X.A (evalPart e X.env) (λu s'=>∃o H',Inv X pins σ H' s'/\IsPart u o/\Q o H') X.xe s
def FZ:TO:=λ_ H Q=>Q none H
def MR(t:TE):TO:=λσ H Q=>t σ H λx H1=>x.gi λi=>Q (some i) H1
theorem intsAre_of{ns:List Int}:∀{us:List Value},aV (ns.map V.int) us->IntsAre us ns:=by
 induction ns with
 |nil=>intro us r;rw[List.map_nil]at r;cases r;exact .nil
 |cons n ns ih =>
  intro us r;rw[ZI]at r;cases r with
  |cons r1 r2 =>
   obtain⟨t,e⟩:=r1;subst e;exact .cons n t (ih r2)
section
variable{X:Cx}{e:Expr}{te:TE}{lo hi:Option Expr}{tl th:TO}{pos p2:Pos}
theorem gX:PO X none FZ:=by
 intro pins s σ H Q I h;rw[evalPart_none];exact ZY ⟨none,H,I,.none,h⟩
theorem iL(h:PE X e te):PO X (some e) (MR te):=by
 intro pins s σ H Q I hw;rw[evalPart_some];refine bY (h pins s σ H _ I hw) λu s1 x H1 I1 r1 q1=>?_;obtain⟨i,rfl,z1⟩:=cQ q1;have q:=z1;obtain⟨t,rfl⟩:=r1;exact⟨some i,H1,I1,.int i t,q⟩
def SlR(X:Cx)(r:V->Option Int->Option Int->Hp->VK->Prop):Prop :=
 ∀(pins:List (Addr×Obj)) (s:Shared) (σ:St) (H:Hp) (x:V) (v vl vu:Value) (lo hi:Option Int) (sl:Addr) (Q:VK),Inv X pins σ H s->RelV x v->s.heap.IsSliceOf sl vl vu .none->IsPart vl lo->IsPart vu hi->r x lo hi H Q ->
  ∃T id,typeLookup (.type T) "__getitem__" = pure (some (.builtin id))/\s.TypeIs v T/\wpAny (model X.prog X.w) X.A (getItem v (.ref sl)) (EP X pins σ Q) X.xe s
def tSl(r:V->Option Int->Option Int->Hp->VK->Prop)(te:TE)(tl th:TO):TE:=λσ H Q=>te σ H λx H1=>tl σ H1 λl H2=>th σ H2 λu H3=>r x l u H3 Q
theorem iA{r:V->Option Int->Option Int->Hp->VK->Prop}(hr:SlR X r)(he:PE X e te)(hl:PO X lo tl)(hu:PO X hi th):PE X (.Subscript e (.Slice lo hi none p2) pos) (tSl r te tl th):=by
 intro pins s σ H Q I h;refine Subscript_ (bY (he pins s σ H _ I h) λv s1 x H1 I1 r1 q1=>?_);refine wpAny_Slice (thn (hl pins s1 σ H1 _ I1 q1) λvl s2 ⟨l,H2,I2,pl,q2⟩=>thn (hu pins s2 σ H2 _ I2 q2) λvu s3 ⟨u,H3,I3,pu,q3⟩=>?_);rw[evalPart_none];refine ZY ?_;have I4:Inv X pins σ H3 { s3 with heap:=s3.heap.push { cls:=.type "slice",data:=.fields #[vl,vu,.none] } }:=I3.kept (t':=s3.toks) λb ob q=>YU _ q;obtain⟨T,id,hT,ht,hg⟩:=hr pins { s3 with heap:=s3.heap.push { cls:=.type "slice",data:=.fields #[vl,vu,.none] } } σ H3 x v vl vu l u s3.heap.objs.size Q I4 r1 (Heap.IsSliceOf.new ..) pl pu q3;show wpAny (model X.prog X.w) X.A (subscriptTail e (.Slice lo hi none p2) v (.ref s3.heap.objs.size)) (EP X pins σ Q) X.xe { s3 with heap:=s3.heap.push { cls:=.type "slice",data:=.fields #[vl,vu,.none] } };exact tail_any (ops:=[.ref s3.heap.objs.size,v]) ht hT hg (by with_unfolding_all rfl)
def gM(xs:List V)(lo hi:Option Int):List V:=(xs.drop (HT.sIx xs.length 0 lo)).take (HT.sIx xs.length xs.length hi-HT.sIx xs.length 0 lo)
theorem nQ(xs:List V)(lo hi:Option Int):(gM xs lo hi).length<=xs.length:=by
 unfold gM;rw[Yx,Yr]
 lia
end
def ixN(n:Nat)(i:Int):Option Nat:=if 0<=i then (if i<n then some i.toNat else none) else if -(n:Int)<=i then some (i+n).toNat else none
def atI{α:Type}(xs:List α)(i:Int):Option α:=(ixN xs.length i).bind λj=>xs[j]?
theorem zO{n:Nat}{i:Int}{j:Nat}(h:ixN n i=some j):seqIndex? i n=some j/\j<n/\-(n:Int)<=i/\i<n:=by
 unfold ixN at h;by_cases h0:0<=i
 ·rw[Yb h0]at h;by_cases h1:i<n
  ·rw[Yb h1]at h;have e:i.toNat=j:=Option.some.inj h;exact⟨by rw[seqIndex_of h0 h1,e],by lia,by lia,h1⟩
  ·rw[Ya h1]at h;cases h
 ·rw[Ya h0]at h;by_cases h1 : -(n:Int)<=i
  ·rw[Yb h1]at h;have e:(i+n).toNat=j:=Option.some.inj h;exact⟨by rw[seqIndex_neg (by lia) h1,e],by lia,h1,by lia⟩
  ·rw[Ya h1]at h;cases h
theorem oQ{α:Type}{xs:List α}{i:Int}{v:α}(h:atI xs i=some v):∃j,seqIndex? i xs.length=some j/\xs[j]?=some v/\j<xs.length/\-(xs.length:Int)<=i/\i<xs.length:=by
 unfold atI at h;cases e:ixN xs.length i with
 |none=>rw[e]at h;cases h
 |some j =>
  rw[e]at h;obtain⟨h1,h2,h3,h4⟩:=zO e;exact⟨j,h1,h,h2,h3,h4⟩
theorem bB{α:Type}{xs:List α}{j:Nat}{v:α}(h:xs[j]?=some v):atI xs (j:Int)=some v:=by
 have hj:j<xs.length:=(Zj.mp h).1;have e:ixN xs.length (j:Int)=some j:=by
  unfold ixN;rw[Yb (by lia),Yb (by lia)];simp
 unfold atI;rw[e];exact h
def AC(b:Expr):Prop:=∀o i,subscripted b false o i=operate [o,i] (getItem o i)
def IxR(X:Cx)(r:R2):Prop :=
 ∀(value slice:Expr) (pins:List (Addr×Obj)) (s:Shared) (σ:St) (H:Hp) (x y:V) (v u:Value) (Q:VK),Inv X pins σ H s->RelV x v->RelV y u->r x y H Q ->
  subscripted slice false v u=operate [v,u] (getItem v u)->wpAny (model X.prog X.w) X.A (subscriptTail value slice v u) (EP X pins σ Q) X.xe s
def MtR(X:Cx)(id:String)(r:V->List V->Hp->VK->Prop):Prop :=
 ∀(pins:List (Addr×Obj)) (s:Shared) (σ:St) (H:Hp) (x:V) (xs:List V) (v:Value) (us:List Value) (Q:VK),Inv X pins σ H s->RelV x v->aV xs us->r x xs H Q ->
  wpAny (model X.prog X.w) X.A (call (.builtin id) (v::us)) (EP X pins σ Q) X.xe s
section
variable{X:Cx}{a b:Expr}{ta tb:TE}{pos:Pos}
theorem IxR.or{r r':R2}(h:IxR X r)(h':IxR X r'):IxR X (λx y H Q=>r x y H Q\/r' x y H Q):=by
 intro value slice pins s σ H x y v u Q I rx ry q hs;rcases q with q | q
 ·exact h value slice pins s σ H x y v u Q I rx ry q hs
 ·exact h' value slice pins s σ H x y v u Q I rx ry q hs
theorem cU{r:R2}(hr:IxR X r)(ha:PE X a ta)(hb:PE X b tb)(hs:AC b):PE X (.Subscript a b pos) (tOp r ta tb):=by
 intro pins s σ H Q I h;exact Subscript_ (MF ha hb I h λv u s2 x y H2 I2 rx ry q=>hr a b pins s2 σ H2 x y v u Q I2 rx ry q (hs _ _))
def NM:R2:=λx y H Q=>x.gr λp=>y.gi λi=>∃xs v,SqL H p xs/\atI xs i=some v/\Q v H
def NK:R2:=λx y H Q=>x.gr λp=>y.gi λi=>∃xs v,SqT H p xs/\atI xs i=some v/\Q v H
def NL:R2:=λx y H Q=>x.gs λz=>y.gi λi=>∃c,z.length<=ZW/\atI z.cps.toList i=some c/\Q (.str ⟨#[c]⟩) H
theorem aG:IxR X (NM):=by
 intro value slice pins s σ H x y v u Q I rx ry h hs;obtain⟨p,rfl,z1⟩:=a8 h;obtain⟨i,rfl,z2⟩:=cQ z1;obtain⟨xs,z,hq,he,q⟩:=z2;cases rx;obtain⟨t,rfl⟩:=ry;obtain⟨its,r,pl,hz⟩:=I.list hq;obtain⟨j,h1,h2,h3,h4,h5⟩:=oQ he;obtain⟨w,ew,rw'⟩:=r.get h2;have hl:=r.length;have hn:=fZ;have fin:EP X pins σ Q w s:=⟨z,H,I,rw',q⟩
 by_cases h0:0<=i
 ·have hj:i.toNat=j:=by
   rw[seqIndex_of h0 h5]at h1;exact Option.some.inj h1
  exact item_listR pl.isList h0 (by lia) (by rw[hj];simpa using ew) fin hs
 ·have hj:(i+(its.toArray.size:Int)).toNat=j:=by
   rw[seqIndex_neg (by lia) h4]at h1;rw[ZE,<-hl];exact Option.some.inj h1
  exact subscriptTail_builtinR (x:=w) pl.isList.typeIs slot_list_getitem.lookup
   (wpAny_getItem_list_neg (Q:=λr s'=>r=w/\EP X pins σ Q r s') pl.isList (by lia) (by rw[ZE]<;>lia) (by lia) (by rw[hj];simpa using ew) ⟨rfl,fin⟩) hs
theorem aL:IxR X (NK):=by
 intro value slice pins s σ H x y v u Q I rx ry h hs;obtain⟨p,rfl,z1⟩:=a8 h;obtain⟨i,rfl,z2⟩:=cQ z1;obtain⟨xs,z,hq,he,q⟩:=z2;cases rx;obtain⟨t,rfl⟩:=ry;obtain⟨its,r,pl,hz⟩:=I.tuple hq;obtain⟨j,h1,h2,h3,h4,h5⟩:=oQ he;obtain⟨w,ew,rw'⟩:=r.get h2;have hl:=r.length;have hn:=fZ;have fin:EP X pins σ Q w s:=⟨z,H,I,rw',q⟩
 exact subscriptTail_builtinR (x:=w) pl.typeIs slot_tuple_getitem.lookup
  (getItem_tuple (j:=j) (Q:=λr s'=>r=w/\EP X pins σ Q r s') pl (by lia) (by lia) (by rw[ZE,<-hl];exact h1) (by simpa using ew) ⟨rfl,fin⟩) hs
theorem LR:IxR X NL:=by
 intro value slice pins s σ H x y v u Q I rx ry h hs;obtain⟨z,rfl,z1⟩:=HY h;obtain⟨i,rfl,z2⟩:=cQ z1;obtain⟨c,hz,he,q⟩:=z2;obtain⟨t,rfl⟩:=rx;obtain⟨t',rfl⟩:=ry;obtain⟨j,h1,h2,h3,h4,h5⟩:=oQ he;have hl:z.cps.toList.length=z.length:=by simp[Str.length]
 rw[hl]at h1 h4 h5;have hn:=fZ;exact tail_any (typeIs_str s z t) slot_str_getitem.lookup (getItem_str (c:=c) (by
  have e1:decide (i < -(2 ^ 63:Int))=false:=Yc (by lia);have e2:decide (i>=2 ^ 63)=false:=Yc (by lia);rw[e1,e2,Bool.or_false]) (by rw[h1];simpa using h2) ⟨.str ⟨#[c]⟩,H,I.tok _,⟨_,rfl⟩,q⟩) hs
def rIx:R2:=λx y H Q=>NM x y H Q\/NK x y H Q\/NL x y H Q
theorem jH:IxR X (rIx):=aG.or (aL.or LR)
theorem yA(its:List Value)(n j:Nat)(u:Value):Obj.mapSeq (·.setIfInBounds j u) { cls:=.type "list",data:=.seq its.toArray n }={ cls:=.type "list",data:=.seq (its.set j u).toArray n }:=by
 simp[Obj.mapSeq]
theorem Inv.lst{pins:List (Addr×Obj)}{σ:St}{H:Hp}{s:Shared}{p:Addr}{xs:List V}(I:Inv X pins σ H s)(h:H p=some (.lst xs)) :
  ∃(its:List Value) (n:Nat),aV xs its/\s.heap.get? p=some { cls:=.type "list",data:=.seq its.toArray n }/\xs.length<=ZW:=by
 obtain⟨z,its,n,r,e⟩:=I.hok p _ h;exact⟨its,n,r,e,z⟩
theorem Inv.lstUpd{pins:List (Addr×Obj)}{σ:St}{H:Hp}{s:Shared}{p:Addr}{xs ys:List V}{its its':List Value}{n n':Nat}{f:Obj->Obj}(I:Inv X pins σ H s)(h:H p=some (.lst xs))
  (ho:s.heap.get? p=some { cls:=.type "list",data:=.seq its.toArray n }) (hf:f { cls:=.type "list",data:=.seq its.toArray n }={ cls:=.type "list",data:=.seq its'.toArray n' }) (r:aV ys its') (hz:ys.length<=ZW) (t:Nat) :
  Inv X pins σ (upd H p (.lst ys)) { s with heap:=s.heap.update p f,toks:=t }:=by
 have e:(s.heap.update p f).get? p=some { cls:=.type "list",data:=.seq its'.toArray n' }:=by
  rw[Heap.get?_update_self f ho (by rw[hf]<;>rfl),hf]
 refine I.write (x:=p) (e:=p) (by rw[h];trivial) (.inl rfl) (λb u hb q=>(YR _ _ (Yh hb)).trans q) ⟨_,e⟩ ?_;exact⟨hz,its',n',r,e⟩
def NJ:V->V->V->Hp->(Hp->Prop)->Prop:=λo i v H Q=>o.gr λp=>i.gi λk=>∃xs j,H p=some (.lst xs)/\ixN xs.length k=some j/\Q (upd H p (.lst (xs.set j v)))
theorem set_list:MJ X NJ:=by
 intro pins s σ H o i v ov iv u Q I ro ri rv h;obtain⟨p,rfl,z1⟩:=a8 h;obtain⟨k,rfl,z2⟩:=cQ z1;obtain⟨xs,j,hp,hj,q⟩:=z2;cases ro;obtain⟨t,rfl⟩:=ri;obtain⟨its,n,r,ho,hz⟩:=I.lst hp;obtain⟨h1,h2,h3,h4⟩:=zO hj;have hl:=r.length;have hn:=fZ;have I':Inv X pins σ (upd H p (.lst (xs.set j v))) { s with heap:=s.heap.update p (Obj.mapSeq (·.setIfInBounds j u)) } :=
  I.lstUpd hp ho (yA its n j u) (r.set rv j) (by rw[ZP];exact hz) s.toks
 by_cases h0:0<=k
 ·have hk:k.toNat=j:=by
   rw[seqIndex_of h0 h4]at h1;exact Option.some.inj h1
  exact PySem.W.ki_setAt ho h0 (by lia) (by rw[ZE,<-hl];exact h4) (by rw[hk];exact⟨_,I',q⟩)
 ·have hk:(k+(its.toArray.size:Int)).toNat=j:=by
   rw[seqIndex_neg (by lia) h3]at h1;rw[ZE,<-hl];exact Option.some.inj h1
  exact PySem.W.ki_setBack ho (by lia) (by rw[ZE,<-hl];exact h3) (by lia) (by rw[hk];exact⟨_,I',q⟩)
theorem sZ(lo hi:Option Int)(n:Nat):(sliceBounds lo hi none n).1=((HT.sIx n 0 lo:Nat):Int)/\(sliceBounds lo hi none n).2.1=((HT.sIx n n hi:Nat):Int)/\(sliceBounds lo hi none n).2.2=1:=by
 refine⟨?_,?_,rfl⟩
 ·cases lo with
  |none=>simp[sliceBounds,HT.sIx]
  |some i =>
   simp only[sliceBounds,HT.sIx,Option.getD_none,show(1:Int)>0 by decide,if_true];by_cases h:i<0
   ·simp only[h,if_true]<;>lia
   ·simp only[h,if_false]<;>lia
 ·cases hi with
  |none=>simp[sliceBounds,HT.sIx]
  |some i =>
   simp only[sliceBounds,HT.sIx,Option.getD_none,show(1:Int)>0 by decide,if_true];by_cases h:i<0
   ·simp only[h,if_true]<;>lia
   ·simp only[h,if_false]<;>lia
theorem qZ(its:List Value)(lo hi:Option Int):slicePick its.toArray lo hi none=((its.drop (HT.sIx its.length 0 lo)).take (HT.sIx its.length its.length hi-HT.sIx its.length 0 lo)).toArray:=by
 obtain⟨h1,h2,h3⟩:=sZ lo hi its.toArray.size;unfold slicePick;rw[h1,h2,h3];simp only[sliceRange_one,pick_run,ZE]<;>rfl
def O1:V->Option Int->Option Int->Hp->VK->Prop:=λx lo hi H Q=>x.gr λa=>∃xs,SqL H a xs/\∀p,H p=none->Q (.ref p) (upd H p (.lst (gM xs lo hi)))
theorem jP:SlR X (O1):=by
 intro pins s σ H x v vl vu lo hi sl Q I rx hs pl pu h;obtain⟨a,rfl,z1⟩:=a8 h;obtain⟨xs,hx,q⟩:=z1;cases rx;obtain⟨its,r,ht,hz⟩:=I.list hx;have hlen:=r.length;refine⟨"list",_,slot_list_getitem.lookup,ht.isList.typeIs,?_⟩;refine wpAny_getItem_list_slice ht.isList hs pl pu .none (by simp) ?_ (by rw[ZE]<;>lia);rw[qZ,<-hlen];refine⟨.ref s.heap.objs.size,_,I.laid (t':=s.toks) (o:=.lst (gM xs lo hi)) (λb ob q=>YU _ q) (ZA _) ?_,rfl,q _ (I.hok.fresh (ZA _))⟩;exact⟨Xz (nQ xs lo hi) hz,_,0,(r.drop (HT.sIx xs.length 0 lo)).take (HT.sIx xs.length xs.length hi-HT.sIx xs.length 0 lo),YS _ rfl⟩
def fL:V->Bool
 |.non=>true
 |.bl _=>true
 |.int _=>true
 |.str _=>true
 |_=>false
def eqV:V->V->Bool
 |.non,.non=>true
 |.bl a,.bl b=>a==b
 |.bl a,.int b=>(if a then 1 else 0)==b
 |.int a,.bl b=>a==(if b then 1 else 0)
 |.int a,.int b=>a==b
 |.str a,.str b=>a==b
 |_,_=>false
theorem L9{A:Around}{s:Shared}{y x:V}{u v:Value}(ry:RelV y u)(rx:RelV x v)(fy:fL y=true)(fx:fL x=true):SeqAt.EqAt A s u v (eqV y x):=by
 cases y with
 |non =>
  cases ry;cases x with
  |non=>cases rx;exact SeqAt.EqAt.same _
  |bl b=>cases rx;exact SeqAt.EqAt.none_bool b
  |int b=>obtain⟨t,rfl⟩:=rx;exact SeqAt.EqAt.none_int b t
  |str b=>obtain⟨t,rfl⟩:=rx;exact SeqAt.EqAt.none_str b t
  |_=>exact Yg (show false=true from fx) YO
 |bl a =>
  cases ry;cases x with
  |non=>cases rx;exact SeqAt.EqAt.bool_none a
  |bl b=>cases rx;exact SeqAt.EqAt.bool_bool a b
  |int b=>obtain⟨t,rfl⟩:=rx;exact SeqAt.EqAt.bool_int a b t
  |str b=>obtain⟨t,rfl⟩:=rx;exact SeqAt.EqAt.bool_str a b t
  |_=>exact Yg (show false=true from fx) YO
 |int a =>
  obtain⟨t',rfl⟩:=ry;cases x with
  |non=>cases rx;exact SeqAt.EqAt.int_none a t'
  |bl b=>cases rx;exact SeqAt.EqAt.int_bool a t' b
  |int b=>obtain⟨t,rfl⟩:=rx;exact SeqAt.EqAt.int_int a t' b t
  |str b=>obtain⟨t,rfl⟩:=rx;exact SeqAt.EqAt.int_str a t' b t
  |_=>exact Yg (show false=true from fx) YO
 |str a =>
  obtain⟨t',rfl⟩:=ry;cases x with
  |non=>cases rx;exact SeqAt.EqAt.str_none a t'
  |bl b=>cases rx;exact SeqAt.EqAt.str_bool a t' b
  |int b=>obtain⟨t,rfl⟩:=rx;exact SeqAt.EqAt.str_int a t' b t
  |str b=>obtain⟨t,rfl⟩:=rx;exact SeqAt.EqAt.str_str a t' b t
  |_=>exact Yg (show false=true from fx) YO
 |_=>exact Yg (show false=true from fy) YO
def eqU(x:V)(u:Value):Bool:=match u with
 |.none=>eqV .non x
 |.bool b=>eqV (.bl b) x
 |.int i _=>eqV (.int i) x
 |.str z _=>eqV (.str z) x
 |_=>false
theorem nF{x y:V}{u:Value}(r:RelV y u)(f:fL y=true):eqU x u=eqV y x:=by
 cases y with
 |non=>cases r;rfl
 |bl b=>cases r;rfl
 |int i=>obtain⟨t,rfl⟩:=r;rfl
 |str z=>obtain⟨t,rfl⟩:=r;rfl
 |_=>exact Yg (show false=true from f) YO
theorem mH{x:V}:∀{xs:List V}{us:List Value},aV xs us->xs.all fL=true->us.any (eqU x)=xs.any λy=>eqV y x
 |_,_,.nil,_=>rfl
 |y::xs,u::us,.cons r t,f=>by
  rw[List.all_cons,Xb]at f;rw[List.any_cons,List.any_cons,nF r f.1,mH t f.2]
theorem dR{A:Around}{s:Shared}{x:V}{v:Value}(rx:RelV x v)(fx:fL x=true):∀{xs:List V}{us:List Value},aV xs us->xs.all fL=true->∀u∈us,SeqAt.EqAt A s u v (eqU x u)
 |_,_,.nil,_=>λu hu=>by cases hu
 |y::xs,u::us,.cons r t,f=>λu' hu=>by
  rw[List.all_cons,Xb]at f;rcases Zn.mp hu with rfl | hu
  ·rw[nF r f.1];exact L9 r rx f.1 fx
  ·exact dR rx fx t f.2 u' hu
def inV(x:V)(xs:List V):Bool:=xs.any λy=>eqV y x
def rIn(neg:Bool):R2:=λx y H Q=>y.gr λp=>∃xs,(SqL H p xs\/SqT H p xs)/\fL x=true/\xs.all fL=true/\Q (.bl (if neg then !inV x xs else inV x xs)) H
theorem r8:OpR X (compareOp .In) (rIn false):=by
 intro pins s σ H x y v u Q I rx ry h;obtain⟨p,rfl,z1⟩:=a8 h;obtain⟨xs,hq,fx,fs,q⟩:=z1;cases ry;rcases hq with hq | hq
 ·obtain⟨its,r,pl,hz⟩:=I.list hq;refine SeqAt.in_listAt (eqU x) pl.isList (λw hw=>dR rx fx r fs w (by simpa using hw)) ⟨.bl _,H,I,rfl,?_⟩;rw[show its.toArray.any (eqU x)=its.any (eqU x) by simp,mH r fs];exact q
 ·obtain⟨its,r,pl,hz⟩:=I.tuple hq;refine SeqAt.in_tupleAt (eqU x) pl (λw hw=>dR rx fx r fs w (by simpa using hw)) ⟨.bl _,H,I,rfl,?_⟩;rw[show its.toArray.any (eqU x)=its.any (eqU x) by simp,mH r fs];exact q
theorem dQ:OpR X (compareOp .NotIn) (rIn true):=by
 intro pins s σ H x y v u Q I rx ry h;obtain⟨p,rfl,z1⟩:=a8 h;obtain⟨xs,hq,fx,fs,q⟩:=z1;cases ry;rcases hq with hq | hq
 ·obtain⟨its,r,pl,hz⟩:=I.list hq;refine SeqAt.notIn_listAt (eqU x) pl.isList (λw hw=>dR rx fx r fs w (by simpa using hw)) ⟨.bl _,H,I,rfl,?_⟩;rw[show its.toArray.any (eqU x)=its.any (eqU x) by simp,mH r fs];exact q
 ·obtain⟨its,r,pl,hz⟩:=I.tuple hq;refine SeqAt.notIn_tupleAt (eqU x) pl (λw hw=>dR rx fx r fs w (by simpa using hw)) ⟨.bl _,H,I,rfl,?_⟩;rw[show its.toArray.any (eqU x)=its.any (eqU x) by simp,mH r fs];exact q
theorem b9:dE X (.builtin "len") (λxs H Q=>∃p ys,xs=[.ref p]/\(SqL H p ys\/SqT H p ys)/\Q (.int ys.length) H):=by
 intro pins s σ H xs us Q I r h;obtain⟨p,ys,rfl,hq,q⟩:=h;obtain⟨u,rfl,rx⟩:=vals1 r;cases rx;have hn:=fZ;rcases hq with hq | hq
 ·obtain⟨its,r',pl,hz⟩:=I.list hq;have hlen:=r'.length;exact Calls.call_len_list pl.isList (by simp only[ZE]<;>lia) ⟨.int ys.length,H,I.tok _,⟨s.toks+1,by rw[ZE,hlen]⟩,q⟩
 ·obtain⟨its,r',pl,hz⟩:=I.tuple hq;have hlen:=r'.length;exact len_tuple pl (by simp only[ZE]<;>lia) ⟨.int ys.length,H,I.tok _,⟨s.toks+1,by rw[ZE,hlen]⟩,q⟩
theorem bO:dE X (.type "list") (λxs H Q=>∃p ys,xs=[.ref p]/\(SqL H p ys\/SqT H p ys)/\∀l,H l=none->Q (.ref l) (upd H l (.lst ys))):=by
 intro pins s σ H xs us Q I r h;obtain⟨p,ys,rfl,hq,q⟩:=h;obtain⟨u,rfl,rx⟩:=vals1 r;cases rx;have fin:∀(its:List Value),aV ys its->ys.length<=ZW->∀(h':Heap) (c':Nat),(∀b o',s.heap.get? b=some o'->h'.get? b=some o') ->
   h'.get? s.heap.objs.size=some { cls:=.type "list",dict:=none,data:=.seq its.toArray c',slots:=#[] }->EP X pins σ Q (.ref s.heap.objs.size) { s with heap:=h' }:=λits r' hz h' c' kp e =>
  ⟨.ref s.heap.objs.size,_,I.laid (t':=s.toks) kp (ZA _) (show bI X.prog X.w _ h' _ (.lst ys) from⟨hz,its,c',r',e⟩),rfl,q _ (I.hok.fresh (ZA _))⟩
 rcases hq with hq | hq
 ·obtain⟨its,r',pl,hz⟩:=I.list hq;have hlen:=r'.length;obtain⟨o,ho,hc,n,hd⟩:=pl.isList;exact call_list_seq p (.inl rfl) ho hc hd (λh' c' kp e=>fin its r' hz h' c' kp e) (by simp only[ZE]<;>lia)
 ·obtain⟨its,r',pl,hz⟩:=I.tuple hq;have hlen:=r'.length;obtain⟨o,ho,hc,n,hd⟩:=pl;exact call_list_seq p (.inr rfl) ho hc hd (λh' c' kp e=>fin its r' hz h' c' kp e) (by simp only[ZE]<;>lia)
def tyV(T:String)(x:V)(H:Hp):Prop:=match x with
 |.str _=>T="str"
 |.int _=>T="int"
 |.ref p=>(T="list"/\∃xs,SqL H p xs) \/       (T="dict"/\((∃kvs,H p=some (.dK kvs))\/∃kvs,H p=some (.dT kvs)))\/(T="set"/\∃S n,H p=some (.set S n))
 |_=>False
theorem CL{pins:List (Addr×Obj)}{σ:St}{H:Hp}{s:Shared}{T:String}{x:V}{v:Value}(I:Inv X pins σ H s)(r:RelV x v)(ty:tyV T x H) :
  s.TypeIs v T/\∀a,v=.ref a->∃ob,s.heap.get? a=some ob/\ob.dict=none:=by
 cases x with
 |str z =>
  obtain⟨t,rfl⟩:=r;cases (show T="str" from ty);exact⟨typeIs_str s z t,λ_ e=>nomatch e⟩
 |int i =>
  obtain⟨t,rfl⟩:=r;cases (show T="int" from ty);exact⟨typeIs_int s i t,λ_ e=>nomatch e⟩
 |ref p =>
  cases r;rcases ty with⟨rfl,xs,hq⟩ | ⟨rfl,hk⟩ | ⟨rfl,S,n,hk⟩
  ·obtain⟨its,_,pl,_⟩:=I.list hq;refine⟨pl.isList.typeIs,λa e=>?_⟩;cases e;obtain⟨o,n,e,c,hd,_⟩:=pl;exact⟨o,e,hd⟩
  ·have z:∃o,s.heap.get? p=some o/\o.ExactDict:=by
    rcases hk with⟨kvs,hk⟩ | ⟨kvs,hk⟩
    ·obtain⟨_,_,_,_,o,_,_,e,ex,_⟩:=I.hok p _ hk;exact⟨o,e,ex⟩
    ·obtain⟨_,_,_,_,o,_,_,e,ex,_⟩:=I.hok p _ hk;exact⟨o,e,ex⟩
   obtain⟨o,e,ex⟩:=z;refine⟨⟨o,e,ex.1⟩,λa e2=>?_⟩;cases e2;exact⟨o,e,ex.2.1⟩
  ·obtain⟨o,_,_,_,e,ex,_⟩:=I.hok p _ hk;refine⟨⟨o,e,ex.1⟩,λa e2=>?_⟩;cases e2;exact⟨o,e,ex.2.1⟩
 |_=>exact False.elim ty
def OP(T:String)(r:V->List V->Hp->VK->Prop)(to:TE):TE:=λσ H Q=>to σ H λx H1=>tyV T x H1/\r x [] H1 Q
def tBM(T:String)(r:V->List V->Hp->VK->Prop)(to:TE)(t:TA):TE:=λσ H Q=>to σ H λx H1=>tyV T x H1/\t σ H1 λxs H2=>r x xs H2 Q
variable{o e:Expr}{es:List Expr}{to:TE}{t:TA}{name:Str}{apos cpos:Pos}{T id:String}{r:V->List V->Hp->VK->Prop}
theorem xP(pa:PlainAttrs T)(slot:Slot T name id)(hty:typeOf (.builtin id)=pure (.type "method_descriptor"))(hm:MtR X id r)(ho:PE X o to)
  (hbase:attributeBase o name X.env (eval o X.env)=eval o X.env:=by rfl) (hline:(apos.endLine==cpos.line)=true:=by rfl):PE X (.Call (.Attribute o name apos) [] [] cpos) (OP T r to):=by
 intro pins s σ H Q I h;refine wpAny_Call_method0_late hbase hline (thn (ho pins s σ H _ I h) λv s1 ⟨x,H1,I1,r1,ty,q1⟩=>?_);obtain⟨h1,h2⟩:=CL I1 r1 ty;exact⟨T,id,pa,slot,hty,h1,h2,Calls.callWith_builtin rfl (PySem.evalArgs_none (hm pins s1 σ H1 x [] v [] Q I1 r1 .nil q1))⟩
theorem fS(pa:PlainAttrs T)(slot:Slot T name id)(hty:typeOf (.builtin id)=pure (.type "method_descriptor"))(hm:MtR X id r)(ho:PE X o to)(ha:PA X (e::es) t)
  (hbase:attributeBase o name X.env (eval o X.env)=eval o X.env:=by rfl)
  (hfew:((backTo cpos (starEach (e::es) X.env)).all (λx=>!x.1)&&(backToKw cpos (keywordEach [] X.env)).all (λx=>x.1.isSome)
   && decide ((e::es).length+([]:List Keyword).length+(if ([]:List Keyword).isEmpty then 0 else 1)<30))=true:=by rfl)
  (hline:(apos.endLine==cpos.line)=true:=by rfl) (hs:starEach (e::es) X.env=(false,eval e X.env)::starEach es X.env:=by rfl) (hplain:(backTo cpos (starEach es X.env)).any (·.1)=false:=by rfl) :
  PE X (.Call (.Attribute o name apos) (e::es) [] cpos) (tBM T r to t):=by
 intro pins s σ H Q I h;refine wpAny_Call_method_late hbase hfew hline rfl (thn (ho pins s σ H _ I h) λv s1 ⟨x,H1,I1,r1,ty,q1⟩=>?_);obtain⟨h1,h2⟩:=CL I1 r1 ty;refine⟨T,id,pa,slot,hty,h1,h2,?_⟩;have hA:=ha cpos pins s1 σ H1 _ I1 q1;rw[hs]at hA ⊢;refine Calls.callWith_builtin (by show(false||(backTo cpos (starEach es X.env)).any (·.1))=false;rw[hplain]<;>rfl) (Calls.evalArgs_plain ?_);exact oY hA λus s2 vs H2 I2 r2 q2=>hm pins s2 σ H2 x vs v us Q I2 r1 r2 q2
end
def MtM(X:Cx)(id:String)(r:V->List V->Hp->VK->Prop):Prop :=
 ∀(pins:List (Addr×Obj)) (s:Shared) (σ:St) (H:Hp) (x:V) (xs:List V) (v:Value) (us:List Value) (Q:VK),Inv X pins σ H s->RelV x v->aV xs us->r x xs H Q ->
  wpAny (model X.prog X.w) X.A (call (.builtin id) (v::us)) (EP X pins σ Q) X.xe s
theorem aV.one:∀{x:V}{us:List Value},aV [x] us->∃u,us=[u]/\RelV x u:=by
 intro x us h;cases h with
 |cons r h=>cases h;exact⟨_,rfl,r⟩
theorem aV.two:∀{x y:V}{us:List Value},aV [x,y] us->∃u v,us=[u,v]/\RelV x u/\RelV y v:=by
 intro x y us h;cases h with
 |cons r h=>cases h with
  |cons q h=>cases h;exact⟨_,_,rfl,r,q⟩
theorem aV.zero:∀{us:List Value},aV [] us->us=[]
 |_,.nil=>rfl
theorem aV.dropLast{xs:List V}{us:List Value}(h:aV xs us):aV xs.dropLast us.dropLast:=by
 induction h with
 |nil=>exact .nil
 |cons r t ih =>
  cases t with
  |nil=>exact .nil
  |cons q t'=>exact .cons r ih
theorem aV.reverse{xs:List V}{us:List Value}(h:aV xs us):aV xs.reverse us.reverse:=by
 induction h with
 |nil=>exact .nil
 |cons r t ih=>rw[List.reverse_cons,List.reverse_cons];exact aV.append ih (.cons r .nil)
theorem yJ{α:Type}(l:List α):l.eraseIdx (l.length-1)=l.dropLast:=by
 induction l with
 |nil=>rfl
 |cons a r ih =>
  cases r with
  |nil=>rfl
  |cons b r =>
   have e:(a::b::r).length-1=((b::r).length-1)+1:=by
    have h1:(a::b::r).length=r.length+2:=rfl;have h2:(b::r).length=r.length+1:=rfl
    lia
   rw[e,List.eraseIdx_cons_succ,ih]
   all_goals rfl
section
variable{X:Cx}{pins:List (Addr×Obj)}{σ:St}{H:Hp}{s:Shared}{l b:Addr}{xs ys zs:List V}
theorem Inv.lset{its its':List Value}{n:Nat}{f:Array Value->Array Value}{t':Nat}(I:Inv X pins σ H s)(hH:H l=some (.lst xs))
  (e:s.heap.get? l=some { cls:=.type "list",data:=.seq its.toArray n }) (hf:f its.toArray=its'.toArray) (hv:aV ys its') (hz:ys.length<=ZW) :
  Inv X pins σ (upd H l (.lst ys)) { s with heap:=s.heap.update l (Obj.mapSeq f),toks:=t' }:=by
 have q:=PySem.IsL.update e f;rw[hf]at q;refine I.write (x:=l) (e:=l) (by rw[hH];exact trivial) (.inl rfl) (λb' u hb hu=>(YR s.heap (Obj.mapSeq f) (Yh hb)).trans hu) ⟨_,q⟩ ?_;exact⟨hz,its',_,hv,q⟩
theorem Inv.lnew{its:List Value}{t':Nat}(I:Inv X pins σ H s)(hv:aV ys its)(hz:ys.length<=ZW) :
  Inv X pins σ (upd H s.heap.objs.size (.lst ys)) { s with heap:=s.heap.push { cls:=.type "list",data:=.seq its.toArray },toks:=t' } :=
 I.laid (λ_ _ q=>YU _ q) (ZA _) ⟨hz,its,0,hv,YS _ rfl⟩
theorem Inv.fresh(I:Inv X pins σ H s):H s.heap.objs.size=none:=I.hok.fresh (ZA _)
theorem Inv.lstM(I:Inv X pins σ H s)(hH:H l=some (.lst xs)):xs.length<=ZW/\∃(its:List Value) (n:Nat),aV xs its/\xs.length=its.length/\s.heap.get? l=some { cls:=.type "list",data:=.seq its.toArray n }:=by
 obtain⟨z,its,n,r,e⟩:=I.hok l _ hH;exact⟨z,its,n,r,r.length,e⟩
theorem EB{n:Nat}(h:n<=ZW):Builtin.List.listTooLong n=false:=by
 unfold Builtin.List.listTooLong;exact Yc (by lia)
end
section
variable{X:Cx}
def GJ:V->List V->Hp->VK->Prop:=λx vs H Q=>x.gr λl=>LC vs λy y_r=>L0 y_r <| ∃xs,H l=some (.lst xs)/\xs.length<ZW/\Q .non (upd H l (.lst (xs++[y])))
theorem eU:MtM X "list.append" GJ:=by
 intro pins s σ H x vs v us Q I rx rv h;obtain⟨l,rfl,z1⟩:=a8 h;obtain⟨y,rfl,z2⟩:=AE z1;obtain⟨xs,hH,hz,q⟩:=z2;cases rx;obtain⟨u,rfl,ru⟩:=rv.one;obtain⟨z,its,n,r,hl,e⟩:=I.lstM hH;refine call_meets F.slot_list_append ⟨_,e,rfl⟩ F.entry_list_append (F.args_list_append_2 _ _) (PySem.list_append l its.toArray n u (by rw[ZE];lia)) ⟨e,?_⟩;refine⟨.non,_,I.lset (its':=its++[u]) hH e (by simp) (r.append (.cons ru .nil)) ?_,rfl,q⟩;rw[Zm,ZQ]
 lia
def GH:V->List V->Hp->VK->Prop:=λx vs H Q=>x.gr λl=>∃b xs zs,vs=[.ref b]/\H l=some (.lst xs)/\H b=some (.lst zs)/\xs.length+zs.length<=ZW/\Q .non (upd H l (.lst (xs++zs)))
theorem m8:MtM X "list.extend" GH:=by
 intro pins s σ H x vs v us Q I rx rv h;obtain⟨l,rfl,z1⟩:=a8 h;obtain⟨b,xs,zs,rfl,hH,hB,hz,q⟩:=z1;cases rx;obtain⟨u,rfl,ru⟩:=rv.one;cases ru;obtain⟨z,its,n,r,hl,e⟩:=I.lstM hH;obtain⟨z2,its2,n2,r2,hl2,e2⟩:=I.lstM hB;have hsz:its.toArray.size+its2.toArray.size<=ZW:=by rw[ZE,ZE];lia
 have hlong:¬(!its.toArray.isEmpty&&Builtin.List.listTooLong (its.toArray.size+its2.toArray.size))=true:=by
  rw[EB hsz,Bool.and_false];exact YO
 refine call_meets F.slot_list_extend ⟨_,e,rfl⟩ F.entry_list_extend (F.args_list_extend_2 _ _)
  (AutoSeq1.list_extend_list_list_0 l its.toArray n b its2.toArray n2 hlong (by rw[ZE];lia) (by lia)) ⟨e,e2,?_⟩
 refine⟨.non,_,I.lset (its':=its++its2) hH e (by simp) (r.append r2) ?_,rfl,q⟩;rw[Zm]
 lia
def O3:V->List V->Hp->VK->Prop:=λx vs H Q=>x.gr λl=>L0 vs <| ∃xs y,H l=some (.lst xs)/\xs[xs.length-1]?=some y/\Q y (upd H l (.lst xs.dropLast))
theorem x9:MtM X "list.pop" O3:=by
 intro pins s σ H x vs v us Q I rx rv h;obtain⟨l,rfl,z1⟩:=a8 h;obtain⟨rfl,z2⟩:=FP z1;obtain⟨xs,y,hH,hy,q⟩:=z2;cases rx;have hus:=rv.zero;subst hus;obtain⟨z,its,n,r,hl,e⟩:=I.lstM hH;obtain⟨u,hu,ru⟩:=r.get hy;have hy':its.toArray[its.toArray.size-1]?=some u:=by
  show its.toArray[its.length-1]?=some u;rw[<-Array.getElem?_toList,<-hl];exact hu
 refine call_meets F.slot_list_pop ⟨_,e,rfl⟩ F.entry_list_pop (F.args_list_pop_1 _) (MeetsSeq.list_pop_last l its.toArray n u hy' (by rw[ZE];lia)) ⟨e,?_⟩;refine⟨y,_,I.lset (its':=its.dropLast) hH e ?_ r.dropLast ?_,ru,q⟩
 ·show its.toArray.eraseIdxIfInBounds (its.toArray.size-1)=its.dropLast.toArray;rw[ZE,List.eraseIdxIfInBounds_toArray,yJ]
 ·rw[List.length_dropLast]
  lia
def O5:R2:=λx y H Q=>x.gr λl=>y.gr λb=>∃xs zs,H l=some (.lst xs)/\H b=some (.lst zs)/\xs.length+zs.length<=ZW/\∀p,H p=none->Q (.ref p) (upd H p (.lst (xs++zs)))
theorem hZ:OpR X (binaryOp .Add) O5:=by
 intro pins s σ H x y v u Q I rx ry h;obtain⟨l,rfl,z1⟩:=a8 h;obtain⟨b,rfl,z2⟩:=a8 z1;obtain⟨xs,zs,hH,hB,hz,q⟩:=z2;cases rx;cases ry;obtain⟨z,its,n,r,hl,e⟩:=I.lstM hH;obtain⟨z2,its2,n2,r2,hl2,e2⟩:=I.lstM hB;refine PySem.P.add_list e e2 ?_ (by rw[ZE,ZE];lia);have ea:its.toArray++its2.toArray=(its++its2).toArray:=by simp
 rw[ea];exact⟨.ref _,_,I.lnew (t':=s.toks) (r.append r2) (by rw[Zm];lia),rfl,q _ I.fresh⟩
end
section
variable{prog:Program}{w:World}{A:Around}{E:Value->Shared->Prop}{s:Shared}
end
section
variable{X:Cx}
end
end L2
namespace Att
open PySem PySem.W PySem.Calls PyProof.Rows
theorem nX{P:Params}{h:Heap}:∀(ns:List Int) (vs:List Value),WellAll P h vs (ns.map WData.int)->IntsAre vs ns:=by
 intro ns;induction ns with
 |nil =>
  intro vs w;rw[List.map_nil]at w;cases w;exact .nil
 |cons n ns ih =>
  intro vs w;rw[ZI]at w;cases w with
  |cons a b =>
   cases a;exact .cons _ _ (ih _ b)
theorem A1{l:OpenLaw}{n:Nat}(hn:l.most=some n){P:Params}{h:Heap}{args:List WData}{vals:List Value}
  (hpre:l.row.toRowW.claim.pre args=true) (hwl:WellAll P h vals args) :
  ∃a vs ns,vals=[Value.ref a]/\args=[WData.list (ns.map WData.int)]/\h.get? a=some { cls:=.type "list",data:=.seq vs.toArray }/\IntsAre vs ns/\ns.length<=n:=by
 have hsh:WShape.hasAll [] args [.list .int]=true:=(pre_splitW hpre).1;have hc:l.pre.holds [] { args:=args }=true:=(pre_splitW hpre).2;obtain⟨d,r,rfl,h1,h2⟩:=hasAllW_cons hsh;obtain rfl:=hasAllW_nil h2;obtain⟨xs,rfl,h3⟩:=hasW_list h1;obtain⟨ns,rfl⟩:=items_int h3;have hlen:ns.length<=n:=by
  unfold OpenLaw.pre at hc;have h4:(WTm.not (.lt (.lit (.int (n:Int))) (.len (.arg 0)))).holds [] { args:=[.list (ns.map .int)] }=true:=by
   have h4:=(holds_andW hc).1;rw[hn]at h4;exact h4
  have h5:=condW_of h4 (w_not (w_lt w_lit (w_len_list (w_arg rfl))));rw[Zq]at h5;refine Nat.le_of_not_lt λq=>?_;have q':(n:Int)<((ns.length:Nat):Int):=by omega
  first
   |(rw[Ye q']at h5;exact Yg h5 (by decide))
   |(simp at h5;omega)
 cases hwl with
 |cons w1 w2 =>
  cases w2;cases w1 with
  |list ho hall=>exact⟨_,_,ns,rfl,rfl,ho,nX ns _ hall,hlen⟩
theorem A2(l:OpenLaw)(args:List WData):l.row.toRowW.claim.post args (.bool true) args=true :=
 postW_of (r:=l.row.toRowW) (X:=(true==true))
  (show WShape.has [] (.bool true) .bool=true by first | rfl | decide | simp[WShape.has,WShape.arms,WShape.armsAll])
  (show(WTm.eq .res (.lit (.bool true))).value [] { args:=args,res:=some (.bool true),after:=args }=some (.bool (true==true)) from w_eq_bool (w_res rfl) w_lit) rfl
theorem v9{l:OpenLaw}{n:Nat}{q:Program}{loose:List Str}{XP:(Str->Option Value)->Heap->Prop}{YP:World->Heap->Prop}{d:DefRec}
  (hn:l.most=some n) (hdf:d.params.defaults=[])
  (call:∀(w:World) (s₀ s₁:Shared) (mg mb:Str->Option Value) (fa:Addr) (o:Obj) (pm cd doc:Value) (a:Addr) (vs:List Value) (ns:List Int),
   Ground q loose [] XP w s₀ mg mb s₁.heap->YP w s₁.heap ->
   s₁.heap.get? fa=some o->o.data=.func (docDef d.name d.params d.body d.scope pm cd doc)->s₁.heap.CodeRec cd d.name->mg d.name=some (.ref fa) ->
   s₁.heap.get? a=some { cls:=.type "list",data:=.seq vs.toArray }->IntsAre vs ns->ns.length<=n->s₁.gens=#[] ->
   codeAny (model l.prog w) callerA (.call (.ref fa) ⟨[.ref a],[]⟩) (λr s'=>r=.ok (.ret (.bool true))/\OldK s₁.heap s'.heap/\s'.os=s₁.os/\AllBare s'.gens) s₁) :
  WalkO q loose XP YP l.row.toRowW d [] (λf vs=>PySem.call f vs):=by
 intro w s₀ s₁ mg mb G Y fa o pm cd doc dV kV ho hd hcd hD hmg hg args vals as hpre hlay hrd hwl hlo;obtain rfl:dV=.none:=Dflts.none hD hdf;obtain rfl:kV=.none:=Dflts.noKw hD;obtain⟨a,vs,ns,rfl,rfl,hobj,hints,hlen⟩:=A1 hn hpre hwl;refine enter_call (codeAny_mono (call w s₀ s₁ mg mb fa o pm cd doc a vs ns G Y ho (fd_plain hd) hcd hmg hobj hints hlen hg) λr s' hq=>?_);obtain⟨rfl,h2,h3,h4⟩:=hq;exact⟨.inl ⟨.bool true,.bool true,[],rfl,λ_=>rfl,.bool true,A2 l _,λ_=>⟨List.Pairwise.nil,λ_ hm=>(nomatch hm)⟩⟩,h2,h3,h4⟩
section
variable{prog:Program}{w:World}{A:Around}{E:Value->Shared->Prop}{s:Shared}{K:Frag}
end
end Att
namespace L2
open PySem PySem.Spec PyProof.Rows
theorem mP:∀{vs:List Value}{ns:List Int},IntsAre vs ns->aV (ns.map V.int) vs
 |_,_,.nil=>.nil
 |_,_,.cons n t h=>.cons ⟨t,rfl⟩ (mP h)
def IA(H:Hp):Prop:=∀b,H b=none\/∃o xs,H b=some (.frz o (.lst xs))
theorem EL{P:Program}{w:World}{K:PySem.W.Frag}{mg mb:Str->Option Value}{CX:CXT}{k:Nat}{fa a:Addr}{fd:FuncData}{x:Str}{sp:Sp}{s₁:Shared}{vs:List Value}{ns:List Int}
  (KX:K.In s₁.heap) (hns:s₁.heap.Ns ZV mg) (hb:s₁.heap.Ns builtinsNs mb) (hbb:∀x:Str,x≠"__name__"->mb x=bootBuiltins x) (hlim:s₁.heap.NoLimit) (hg:s₁.gens=#[])
  (ha:s₁.heap.get? a=some { cls:=.type "list",data:=.seq vs.toArray }) (hi:IntsAre vs ns) (hl:ns.length<=ZW) (hr:fN k callerA)
  (F:∀base:Heap,K.In base->base.Ns ZV mg->kS P w K mg base CX k fa fd [x] sp) (hbind:∀(s:Shared) (u:Value),BindsTo s fd ⟨[u],[]⟩ [(x,u)])
  (hkl:∀o,K.lookup a=some o->o.cls≠.type "list") (hsp:∀H:Hp,IA H->SqL H a (ns.map V.int)->sp [.ref a] H (λv _=>v=.bl true) λ_ _ _=>False)
  (hCX:∀H e s',CX [] H s₁ (λ_ _ _=>False) e s'->False) :
  codeAny (model P w) callerA (.call (.ref fa) ⟨[.ref a],[]⟩) (λr s'=>r=.ok (.ret (.bool true))/\OldK s₁.heap s'.heap/\s'.os=s₁.os/\AllBare s'.gens) s₁:=by
 have rv:=mP hi;have lenV:=hi.length;have core:∀H:Hp,IA H->SqL H a (ns.map V.int)->HOk P w H s₁.heap->(∀b,H b≠none->b=a)->(H a≠none->K.lookup a=none) ->
   codeAny (model P w) callerA (.call (.ref fa) ⟨[.ref a],[]⟩) (λr s'=>r=.ok (.ret (.bool true))/\OldK s₁.heap s'.heap/\s'.os=s₁.os/\AllBare s'.gens) s₁:=by
  intro H hO hS hok hA hK;have base_of:∀{b:Addr}{o:Obj},s₁.heap.get? b=some o->H b=none->(tV s₁.heap H).get? b=some o:=λe n=>EV e n;have noA:∀{b:Addr}{o:Obj}{es:Array DictEntry}{ep:Nat},s₁.heap.get? b=some o->o.data=.dict es ep->H b=none:=λ{b o es ep} e d=>by
   cases q:H b with
   |none=>rfl
   |some u =>
    have e':b=a:=hA b (by rw[q];simp);subst e';rw[ha]at e;cases e;have d':Data.seq vs.toArray _=Data.dict es ep:=d;cases d'
  have nsK:∀{b:Addr}{m:Str->Option Value},s₁.heap.Ns b m->(tV s₁.heap H).Ns b m:=λ{b m} ⟨o,es,ep,e,d,r⟩=>⟨o,es,ep,base_of e (noA e d),d,r⟩
  have hKb:K.In (tV s₁.heap H):=λb o e=>base_of (KX b o e) (by
   cases q:H b with
   |none=>rfl
   |some u =>
    have e':b=a:=hA b (by rw[q];simp);subst e';rw[hK (by rw[q];simp)]at e;cases e)
  have hM:Mod K mg (tV s₁.heap H):=⟨hKb,nsK hns,⟨mb,nsK hb,hbb⟩,let⟨mc,h1,h2⟩:=hlim;⟨mc,nsK h1,h2⟩⟩
  have e0:IC P w K mg (tV s₁.heap H) callerA [] s₁ H:=⟨rfl,hM,λb o e=>G5 e,Nat.le_of_eq (BQ _ _),trivial,λb hb=>Yg (show b∈([]:List Addr) from hb) (by simp),hok,.of_eq hg⟩
  refine codeAny_mono ((F _ hKb (nsK hns)).run callerA [] s₁ H ⟨[.ref a],[]⟩ [.ref a] [.ref a] _ _ hr e0 (hbind s₁ (.ref a)) (.cons rfl .nil) (hsp H hO hS)) λr s' h=>?_;cases r with
  |error e=>exact(hCX H e s' h).elim
  |ok fl =>
   cases fl with
   |next=>exact False.elim h
   |brk=>exact False.elim h
   |cont=>exact False.elim h
   |ret u =>
    obtain⟨v,H',os,bare,un,hok',r',q⟩:=h;have q':v=.bl true:=q;subst q';obtain rfl:u=Value.bool true:=r';refine⟨rfl,OldK.of_keep λb o e=>?_,os,bare⟩;cases q:H b with
    |none=>exact un.keep b o e q (by intro z;exact Yg (show b∈([]:List Addr) from z) (by simp)) (by simp)
    |some u =>
     rcases hO b with z | ⟨ob,xs,z⟩
     ·rw[q]at z;cases z
     ·have z2:=un.frzs b ob _ z;obtain⟨e1,_⟩:=hok b _ z;obtain⟨e2,_⟩:=hok' b _ z2;rw[e]at e1;cases e1;exact e2
 cases hk:K.lookup a with
 |some o =>
  exact Yg (by have e:=KX a o hk;rw[ha]at e;cases e;rfl) (hkl o hk)
 |none =>
  refine core (λb=>if b=a then some (.frz { cls:=.type "list",data:=.seq vs.toArray } (.lst (ns.map V.int))) else none) (λb=>?_) (.inr ⟨{ cls:=.type "list",data:=.seq vs.toArray },Yb rfl⟩) (λb u z=>?_) (λb z=>?_) λ_=>hk
  ·by_cases hb:b=a
   ·exact .inr ⟨_,_,Yb hb⟩
   ·exact .inl (Ya hb)
  ·by_cases hb:b=a
   ·have z':=(Yb hb).symm.trans z;cases z';subst hb;exact⟨ha,by rw[Zq];exact hl,vs,_,rv,ha⟩
   ·have z':=(Ya hb).symm.trans z;cases z'
  ·by_cases hb:b=a
   ·exact hb
   ·exact Yg (Ya hb) z
theorem FU{l:PySem.W.OpenLaw}{n k:Nat}{q:Program}{loose:List Str}{XP:(Str->Option Value)->Heap->Prop}{YP:World->Heap->Prop}{d:DefRec}{K:Params->PySem.W.Frag}{CX:World->CXT}{sp:World->Sp}{x:Str}
  (hn:l.most=some n) (hn2:n<=ZW) (hdf:d.params.defaults=[]) (hr:fN k callerA)
  (hY:∀(w:World) (h:Heap),YP w h->(K w.params).In h)
  (F:∀(w:World) (mg:Str->Option Value) (fa:Addr) (h:Heap),(K w.params).In h->h.Ns ZV mg->mg d.name=some (.ref fa) ->
   ∃fd:FuncData,(∀(s:Shared) (u:Value),BindsTo s fd ⟨[u],[]⟩ [(x,u)]) /\
    ∀base:Heap,(K w.params).In base->base.Ns ZV mg->kS l.prog w (K w.params) mg base (CX w) k fa fd [x] (sp w))
  (hkl:∀(w:World) a o,(K w.params).lookup a=some o->o.cls≠.type "list") (hsp:∀(w:World) (H:Hp) (a:Addr) (ns:List Int),ns.length<=n->IA H->SqL H a (ns.map V.int)->sp w [.ref a] H (λv _=>v=.bl true) λ_ _ _=>False)
  (hCX:∀(w:World) (H:Hp) (s:Shared) (e:Value) (s':Shared),CX w [] H s (λ_ _ _=>False) e s'->False) :
  PySem.W.WalkO q loose XP YP l.row.toRowW d [] (λf vs=>PySem.call f vs):=by
 refine Att.v9 hn hdf λw s₀ s₁ mg mb fa o pm cd doc a vs ns G Y ho hd hcd hmg hobj hints hlen hg=>?_;have KX:=hY w _ Y;obtain⟨fd,hb,hF⟩:=F w mg fa _ KX G.T.g hmg;exact EL KX G.T.g G.T.b G.T.builtins G.T.nolimit hg hobj hints (Xz hlen hn2) hr hF hb (hkl w a) (λH hO hS=>hsp w H a ns hlen hO hS) λH e s'=>hCX w H s₁ e s'
def fD(s:Stmt):Arguments:=match s with
 |.FunctionDef _ a _ _ _ _ _ _ _ _=>a
 |_=>{ posonlyargs:=[],args:=[],vararg:=none,kwonlyargs:=[],kw_defaults:=[],kwarg:=none,defaults:=[] }
def dA(s:Stmt):List Stmt:=match s with
 |.FunctionDef _ _ b _ _ _ _ _ _ _=>b
 |_=>[]
def bC(s:Stmt):Scope:=match s with
 |.FunctionDef _ _ _ _ _ _ sc _ _ _=>sc
 |_=>{ kind:=.function,names:=[],isGenerator:=false,isCoroutine:=false }
abbrev CX0:CXT:=λ_ _ _ _ _ _=>False
abbrev E0:XK:=λ_ _ _=>False
theorem bW{X:Cx}:kR CX0 X E0:=λ_ _ _ _ _ _ _ h=>h.elim
structure Fun(K:PySem.W.Frag)(x qual:Str)(st:Stmt)(f:Addr)(fd:FuncData):Prop where
 ex:∃(oc:Value) (od:Option Addr) (kV doc pm:Value) (an:Option Addr) (cdv ct:Value) (osl:Array (Option Value)),
  fd=PySem.W.fnOf x qual (fD st) (dA st) (bC st) .none kV doc pm an cdv ct/\K.lookup f=some ⟨oc,od,.func fd,osl⟩/\PySem.W.codeIn K cdv qual=true
 kp:PySem.W.keepIn K (.ref f)=true
section
variable{P:Program}{w:World}{K:PySem.W.Frag}{mg:Str->Option Value}{base:Heap}
theorem Fun.ok{x qual:Str}{st:Stmt}{f:Addr}{fd:FuncData}{N ps:List Str}{k:Nat}{sp:Sp}(F:Fun K x qual st f fd)(S:eE N ps (bC st))(len:∀vs H Q E,sp vs H Q E->vs.length=ps.length)
  (hbody:∀(cdv:Value) (A:Around) (outer:List Env) (s:Shared) (H:Hp) (vs:List V) (Q:VK) (E:XK),fN k (A.deeper (envOfC qual (bC st) s.heap.objs.size f cdv))->sp vs H Q E ->
   ∃t,PSs (nZ CX0 P w K mg base N qual (bC st) f cdv A outer s H E).nox (dA st) t/\t { nx:=λ_ H'=>Q .non H',rt:=Q } (start N vs) H):kS P w K mg base CX0 (k+1) f fd ps sp:=by
 obtain⟨oc,od,kV,doc,pm,an,cdv,ct,osl,rfl,lk,hcd⟩:=F.ex;refine I0 lk hcd S len λA outer s H vs Q E hr hsp=>?_;obtain⟨t,h,q⟩:=hbody cdv A outer s H vs Q E hr hsp;exact⟨t,h.nox,q⟩
theorem Fun.binds{x qual:Str}{st:Stmt}{f:Addr}{fd:FuncData}{ps:List Str}(F:Fun K x qual st f fd)
  (h:∀(kV doc pm:Value) (an:Option Addr) (cdv ct:Value) (us:List Value),us.length=ps.length->bindArgs (PySem.W.fnOf x qual (fD st) (dA st) (bC st) .none kV doc pm an cdv ct) ⟨us,[]⟩=pure (ps.zip us)):Binds K fd ps []:=by
 obtain⟨oc,od,kV,doc,pm,an,cdv,ct,osl,rfl,lk,hcd⟩:=F.ex;exact .all (h kV doc pm an cdv ct)
theorem E1{x qual:Str}{st:Stmt}{f:Addr}{oc:Value}{od an:Option Addr}{osl:Array (Option Value)}{kV doc pm cdv ct:Value}(l:K.lookup f=some ⟨oc,od,.func (PySem.W.fnOf x qual (fD st) (dA st) (bC st) .none kV doc pm an cdv ct),osl⟩)
  (c:PySem.W.codeIn K cdv qual=true) (k:PySem.W.keepIn K (.ref f)=true):Fun K x qual st f (PySem.W.fnOf x qual (fD st) (dA st) (bC st) .none kV doc pm an cdv ct):=⟨⟨oc,od,kV,doc,pm,an,cdv,ct,osl,rfl,l,c⟩,k⟩
end
theorem sH{A:Around}{k:Nat}(hr:fN k A):A.units+1<cLine:=Xj (Nat.add_le_add_left (by decide:1<=64) _) hr.units
section
variable{X:Cx}
theorem pv(i:Nat){x:Str}{pos:Pos}(hN:X.N[i]?=some x:=by rfl)(hv:Vis X.env.scope x:=by first | exact Or.inl rfl | exact Or.inr (Or.inl rfl) | exact Or.inr (Or.inr rfl))(hd:(x==("__debug__" : Str))=false:=by decide)
  (hcd:(x==("__classdict__" : Str))=false:=by decide):PE X (.Name x pos) (FY i):=KM hN hv hd hcd
end
theorem i2{c:Bool}{A B:Prop}(h1:c=true->A)(h2:¬c=true->B):If c A B:=⟨h1,λz=>h2 (by rw[z];decide)⟩
theorem iFb{c:Bool}{A B:Prop}(hc:c=false)(h:B):If c A B:=by subst hc;exact iF h
theorem iTb{c:Bool}{A B:Prop}(hc:c=true)(h:A):If c A B:=by subst hc;exact iT h
def aJ(H H':Hp):Prop:=∀b o,H b=some o->H' b=some o
theorem aJ.refl(H:Hp):aJ H H:=λ_ _ h=>h
theorem aJ.trans{H H1 H2:Hp}(a:aJ H H1)(b:aJ H1 H2):aJ H H2:=λc o h=>b c o (a c o h)
theorem aJ.free{H H':Hp}(e:aJ H H'){l:Addr}(h:H' l=Option.none):H l=Option.none:=by
 cases q:H l with
 |none=>rfl
 |some o =>
  rw[e l o q]at h;cases h
theorem aJ.seq{H H':Hp}{a:Addr}{xs:List V}(e:aJ H H')(h:SqL H a xs):SqL H' a xs:=by
 rcases h with h | ⟨o,h⟩
 ·exact .inl (e _ _ h)
 ·exact .inr ⟨o,e _ _ h⟩
end L2
set_option Elab.async false
set_option linter.all false
set_option maxRecDepth 100000
set_option maxHeartbeats 4000000
namespace L2
open PySem PySem.Spec PyProof.Rows
def iC(cells:List (Str×Addr)):List (Str×NameKind)->List (Str×Addr)->List (Str×Addr)
 |[],cs=>cs
 |x::r,cs=>iC cells r (if x.2=.free then ((cells.lookup x.1).map λc=>(x.1,c)).toList++cs else cs)
theorem kA{scope:Scope}{env:Env}(h:∀x∈scope.names,x.2=.free->∃c,env.cells.lookup x.1=some c) :
  closureFor scope env=pure (iC env.cells scope.names []):=by
 have key:∀(l:List (Str×NameKind)) (cs:List (Str×Addr)) (f:Str×NameKind->List (Str×Addr)->Sem (ForInStep (List (Str×Addr)))),
   (∀x∈l,x.2=.free->∃c,env.cells.lookup x.1=some c) ->
   (∀x cs,f x cs=if (x.2==NameKind.free)=true then (cellOf env x.1 >>= λa=>pure (ForInStep.yield ((x.1,a)::cs))) else pure (ForInStep.yield cs)) ->
   forIn l cs f=pure (iC env.cells l cs):=by
  intro l;induction l with
  |nil=>intro cs f _ _;rfl
  |cons x r ih =>
   intro cs f hx hf;rw[List.forIn_cons,hf];by_cases hk:x.2=.free
   ·obtain⟨c,hc⟩:=hx x Zd hk;rw[Yb (by simp[hk])];have e:cellOf env x.1=pure c:=by unfold cellOf;rw[hc]
    rw[e];simp only[pure_bind];rw[ih _ f (λy hy=>hx y (Zw _ hy)) hf];show _=pure (iC env.cells r (if x.2=.free then ((env.cells.lookup x.1).map λc=>(x.1,c)).toList++cs else cs));rw[Yb hk,hc];rfl
   ·rw[Ya (by simp[hk])];simp only[pure_bind];rw[ih _ f (λy hy=>hx y (Zw _ hy)) hf];show _=pure (iC env.cells r (if x.2=.free then ((env.cells.lookup x.1).map λc=>(x.1,c)).toList++cs else cs));rw[Ya hk]
 simp only[closureFor];rw[key scope.names [] _ h (λx cs=>by obtain⟨n,k⟩:=x;rfl)]
 first | rfl | simp only[pure_bind]
theorem tZ{cells:List (Str×Addr)}:∀(l:List (Str×NameKind)) (cs:List (Str×Addr)) {x:Str}{c:Addr},(iC cells l cs).lookup x=some c->cs.lookup x=some c\/cells.lookup x=some c
 |[],_,_,_,h=>.inl h
 |y::r,cs,x,c,h=>by
  have h':(iC cells r (if y.2=.free then ((cells.lookup y.1).map λc=>(y.1,c)).toList++cs else cs)).lookup x=some c:=h;rcases tZ r _ h' with q | q
  ·by_cases hk:y.2=.free
   ·rw[Yb hk]at q;cases hl:cells.lookup y.1 with
    |none=>rw[hl]at q;exact .inl q
    |some d =>
     rw[hl]at q;have q':(((y.1,d)::cs).lookup x)=some c:=q;rw[List.lookup_cons]at q';cases hb:x==y.1 with
     |true =>
      rw[hb]at q';have e:=Yi hb;subst e
      right
      rw[hl];exact q'
     |false=>rw[hb]at q';exact .inl q'
   ·rw[Ya hk]at q;exact .inl q
  ·exact .inr q
theorem vV{cells:List (Str×Addr)}:∀(l:List (Str×NameKind)) (cs:List (Str×Addr)) (x:Str),((x,NameKind.free)∈l/\∃c,cells.lookup x=some c)\/(∃c,cs.lookup x=some c)->∃c,(iC cells l cs).lookup x=some c
 |[],cs,x,h=>by
  rcases h with⟨q,_⟩ | q
  ·cases q
  ·exact q
 |y::r,cs,x,h=>by
  show ∃c,(iC cells r (if y.2=.free then ((cells.lookup y.1).map λc=>(y.1,c)).toList++cs else cs)).lookup x=some c;apply vV r;rcases h with⟨q,c,hc⟩ | ⟨c,hc⟩
  ·rcases Zn.mp q with q | q
   ·right
    subst q;rw[Yb rfl,hc];refine⟨c,?_⟩;show((x,c)::cs).lookup x=some c;rw[List.lookup_cons];simp
   ·exact .inl ⟨q,c,hc⟩
  ·right
   by_cases hk:y.2=.free
   ·rw[Yb hk];cases hl:cells.lookup y.1 with
    |none=>exact⟨c,hc⟩
    |some d =>
     show ∃c,((y.1,d)::cs).lookup x=some c;rw[List.lookup_cons];cases hb:x==y.1 with
     |true=>exact⟨d,rfl⟩
     |false=>exact⟨c,hc⟩
   ·rw[Ya hk];exact⟨c,hc⟩
theorem kF{env:Env}:∀{names:List (Str×NameKind)}{x:Str}{k':NameKind},
  (names.map λ(n,k)=>if (k==NameKind.free&&env.scope.kind==.function&&env.kindOf n==some .cell) then (n,NameKind.cell) else (n,k)).lookup x=some k' ->
  ∃k,(x,k)∈names/\(k=k'\/(k=.free/\k'=.cell))
 |[],_,_,h=>by simp at h
 |(n,k)::r,x,k',h=>by
  have ih:=@kF env r x k';have h':List.lookup x ((if (k==NameKind.free&&env.scope.kind==.function&&env.kindOf n==some .cell)=true then (n,NameKind.cell) else (n,k))::_)=some k':=h;by_cases hc:(k==NameKind.free&&env.scope.kind==.function&&env.kindOf n==some .cell)=true
  ·rw[Yb hc,List.lookup_cons]at h';cases hb:x==n with
   |true =>
    rw[hb]at h';have e:=Yi hb;subst e;cases h';refine⟨k,Zd,.inr ⟨?_,rfl⟩⟩;simp only[Xb]at hc;exact Yi hc.1.1
   |false =>
    rw[hb]at h';obtain⟨k2,q,z⟩:=ih h';exact⟨k2,Zw _ q,z⟩
  ·rw[Ya hc,List.lookup_cons]at h';cases hb:x==n with
   |true =>
    rw[hb]at h';have e:=Yi hb;subst e;cases h';exact⟨k,Zd,.inl rfl⟩
   |false =>
    rw[hb]at h';obtain⟨k2,q,z⟩:=ih h';exact⟨k2,Zw _ q,z⟩
theorem k9{env:Env}:∀{names:List (Str×NameKind)}{x:Str},names.lookup x=some .free ->
  (names.map λ(n,k)=>if (k==NameKind.free&&env.scope.kind==.function&&env.kindOf n==some .cell) then (n,NameKind.cell) else (n,k)).lookup x=some .cell \/
  (names.map λ(n,k)=>if (k==NameKind.free&&env.scope.kind==.function&&env.kindOf n==some .cell) then (n,NameKind.cell) else (n,k)).lookup x=some .free
 |[],_,h=>by simp at h
 |(n,k)::r,x,h=>by
  have ih:=@k9 env r x;show List.lookup x ((if (k==NameKind.free&&env.scope.kind==.function&&env.kindOf n==some .cell)=true then (n,NameKind.cell) else (n,k))::_)=some .cell \/
   List.lookup x ((if (k==NameKind.free&&env.scope.kind==.function&&env.kindOf n==some .cell)=true then (n,NameKind.cell) else (n,k))::_)=some .free
  rw[List.lookup_cons]at h;by_cases hc:(k==NameKind.free&&env.scope.kind==.function&&env.kindOf n==some .cell)=true
  ·rw[Yb hc];simp only[List.lookup_cons];cases hb:x==n with
   |true=>exact .inl rfl
   |false=>rw[hb]at h;exact ih h
  ·rw[Ya hc];simp only[List.lookup_cons];cases hb:x==n with
   |true=>rw[hb]at h;exact .inr h
   |false=>rw[hb]at h;exact ih h
def Cx.comp(X:Cx)(N:List Str)(scope:Scope)(cl:List (Str×Addr))(C:Addr)(fp:List Addr)(s:Shared)(H:Hp):Cx :=
 { prog:=X.prog,w:=X.w,K:=X.K,mg:=X.mg,base:=X.base,A:=X.A,N:=N,s₀:=s,H₀:=H,env:=compEnvC scope cl C X.env,outer:=X.stack,stack:=X.stack,ex:=fp,fn:=λ_=>false,calm:=X.calm,pn:=[],xe:=λ_ _=>False }
def inner(js:List (Option Nat))(σ:St):St:=js.map λo=>match o with
 |none=>none
 |some j=>(σ[j]?).getD none
def tU(N:List Str)(scope:Scope):List Str->List (Option Nat)->Bool
 |[],[]=>true
 |x::r,o::q=>(match o with | none=>true | some j=>N[j]?==some x&&scope.names.lookup x==some .free)&&tU N scope r q
 |_,_=>false
theorem vF{N:List Str}{scope:Scope}:∀{N':List Str}{js:List (Option Nat)},tU N scope N' js=true->js.length=N'.length
 |[],[],_=>rfl
 |_::r,_::q,h=>by
  have h':=(Bool.and_eq_true_iff.mp h).2;rw[Yq,Yq,vF h']
theorem zN{N:List Str}{scope:Scope}:∀{N':List Str}{js:List (Option Nat)}{i:Nat}{x:Str}{j:Nat},tU N scope N' js=true->N'[i]?=some x->js[i]?=some (some j)->N[j]?=some x/\scope.names.lookup x=some .free
 |[],[],_,_,_,_,h,_=>by simp at h
 |y::r,o::q,0,x,j,h,h1,h2=>by
  have h':=(Bool.and_eq_true_iff.mp h).1;simp at h1 h2;subst h1 h2;have h'':=Bool.and_eq_true_iff.mp h';exact⟨Yi h''.1,Yi h''.2⟩
 |y::r,o::q,i+1,x,j,h,h1,h2=>by
  have h':=(Bool.and_eq_true_iff.mp h).2;exact zN (i:=i) h' (by simpa using h1) (by simpa using h2)
theorem EU{js:List (Option Nat)}{σ:St}{i:Nat}{v:V}(h:(inner js σ)[i]?=some (some v)):∃j,js[i]?=some (some j)/\σ[j]?=some (some v):=by
 unfold inner at h;rw[Zk]at h;cases e:js[i]? with
 |none=>rw[e]at h;cases h
 |some o =>
  rw[e]at h;cases o with
  |none=>cases h
  |some j =>
   refine⟨j,rfl,?_⟩;have h':(σ[j]?).getD none=some v:=by simpa using h
   cases q:σ[j]? with
   |none=>rw[q]at h';cases h'
   |some z=>rw[q]at h';simp at h';rw[h']
structure Fills(σ σ':St):Prop where
 len:σ.length=σ'.length
 at_:∀(i:Nat) v,σ[i]?=some (some v)->σ'[i]?=some (some v)
theorem Fills.refl(σ:St):Fills σ σ:=⟨rfl,λ_ _ h=>h⟩
theorem Fills.set{σ σ':St}(f:Fills σ σ'){i:Nat}(x:V)(h:σ[i]?=some none):Fills σ (σ'.set i (some x)):=by
 refine⟨by rw[ZP];exact f.len,λj v q=>?_⟩;by_cases e:i=j
 ·subst e;rw[h]at q;cases q
 ·rw[ZJ e];exact f.at_ j v q
section
variable{X:Cx}{pins:List (Addr×Obj)}{σ:St}{H:Hp}{s:Shared}
theorem FF{N':List Str}{js:List (Option Nat)}{scope:Scope}{fp:List Addr}{m:Str->Option Value}{h1:Heap}{tk:Nat}(I:Inv X pins σ H s)
  (hk:scope.kind=.function) (hcell:∀y∈scope.names,y.2≠.cell) (hfree:∀y∈scope.names,y.2=.free->X.env.kindOf y.1=some .cell\/X.env.kindOf y.1=some .free) (hjs:tU X.N scope N' js=true)
  (fpok:∀b∈fp,oB X pins H b) (fpl:∀b∈fp,b<s.heap.objs.size) (hns:h1.Ns s.heap.objs.size m) (hsb:∀b o,s.heap.get? b=some o->h1.get? b=some o) :
  Inv (X.comp N' scope (iC X.env.cells scope.names []) s.heap.objs.size fp s H) [] (inner js σ) H { s with heap:=h1,toks:=tk }:=by
 have incl:∀{x c},(iC X.env.cells scope.names []).lookup x=some c->X.env.cells.lookup x=some c:=λ{x c} q=>by
  rcases tZ _ _ q with z | z
  ·simp at z
  ·exact z
 have inn:∀{x:Str},(x,NameKind.free)∈scope.names->∃c,(iC X.env.cells scope.names []).lookup x=some c:=λ{x} q=>vV _ _ _ (.inl ⟨q,I.ok.has x (hfree _ q rfl)⟩);have fnot:∀b∈fp,b∉frs X.stack:=λb hb z=>(Zn.mp (I.stkSub b z)).elim (fpok b hb).2.1 (fpok b hb).2.2.1;refine⟨⟨I.ok.mod,?_,I.ok.glob,I.ok.blt,ZA _,?_,?_,?_,I.ok.hd,I.ok.frames,.inl rfl,?_,I.bs,Xz I.ok.bsz I.sz,?_,fnot,I.stack,I.stkFree⟩,rfl,I.bare,Un.kept hsb,⟨m,hns,?_⟩,?_,I.fresh,?_,?_,I.hok.kept hsb,?_⟩
 ·exact hk
 ·intro x y c e1 e2;exact I.ok.inj x y c (incl e1) (incl e2)
 ·intro x h;have q:∃k,(x,k)∈scope.names/\k=.free:=by
   rcases h with h | h
   ·obtain⟨k,q1,q2⟩:=kF (env:=X.env) h;rcases q2 with rfl | ⟨q2,_⟩
    ·exact Yg rfl (hcell _ q1)
    ·exact⟨k,q1,q2⟩
   ·obtain⟨k,q1,q2⟩:=kF (env:=X.env) h;rcases q2 with rfl | ⟨_,q2⟩
    ·exact⟨_,q1,rfl⟩
    ·cases q2
  obtain⟨k,q1,rfl⟩:=q;exact inn q1
 ·intro x c h _;cases h
 ·intro b hb;exact⟨YZ (fpl b hb),λx c e=>(fpok b hb).2.2.2.2.1 x c (incl e)⟩
 ·intro b o e hb;rcases(fpok b hb).2.2.2.1 with z | z
  ·exact I.ok.noex b o e z
  ·exact Yg (Xk (YT e) (Xz I.ok.bsz z)) (YW _)
 ·intro i x v e1 e2 _;obtain⟨j,q1,q2⟩:=EU e2;obtain⟨q3,q4⟩:=zN hjs e1 q1;have q5:(x,NameKind.free)∈scope.names:=by
   have:∀{l:List (Str×NameKind)},l.lookup x=some .free->(x,NameKind.free)∈l:=by
    intro l;induction l with
    |nil=>intro z;simp at z
    |cons y r ih =>
     intro z;obtain⟨n,k⟩:=y;rw[List.lookup_cons]at z;cases hb:x==n with
     |true=>rw[hb]at z;have e:=Yi hb;subst e;cases z;exact Zd
     |false=>rw[hb]at z;exact Zw _ (ih z)
   exact this q4
  have kf:=hfree _ q5 rfl;obtain⟨m0,hn0,hl0⟩:=id I.loc;obtain⟨u,r,lk⟩:=hl0 j x v q3 q2 (kf.elim (λz=>.inr (.inl z)) λz=>.inr (.inr z));refine⟨u,r,?_⟩;rcases lk with⟨z,_⟩ | ⟨_,c,hc,o,ho,hd⟩
  ·rcases kf with k | k
   ·rw[k]at z;cases z
   ·rw[k]at z;cases z
  ·obtain⟨c',hc'⟩:=inn q5;have e:=incl hc';rw[hc]at e;cases e;exact .inr ⟨k9 q4,c,hc',o,hsb _ _ ho,hd⟩
 ·intro x c e;obtain⟨v,o,ho,hd⟩:=I.cell x c (incl e);exact⟨v,o,hsb _ _ ho,hd⟩
 ·intro x c e;exact I.freeC x c (incl e)
 ·intro p hp;cases hp
 ·show(inner js σ).length=N'.length;unfold inner;rw[Zq];exact vF hjs
def PF(X:Cx)(ifs:List Expr)(t:TT):Prop :=
 ∀(pins:List (Addr×Obj)) (s:Shared) (σ:St) (H:Hp) (Q:Bool->Hp->Prop),Inv X pins σ H s->t σ H Q ->
  wpAny (model X.prog X.w) X.A (forIn ifs true λc r=>if r=true then do let ok <-isTrue c X.env (eval c X.env);pure (ForInStep.yield ok) else pure (ForInStep.yield r)) (TP X pins σ Q) X.xe s
def nN:TT:=λ_ H Q=>Q true H
theorem mW:PF X [] nN:=λ_ _ _ H _ I h=>wpAny_tests_nil ⟨H,I,h⟩
theorem pQ{c:Expr}{t:TT}(h:PT X c t):PF X [c] t:=λpins s σ H Q I hw=>wpAny_tests_one (h pins s σ H Q I hw)
end
section
variable{prog:Program}{w:World}{A:Around}{E:Value->Shared->Prop}{R:Result->Shared->Prop}{s:Shared}
theorem vU{elt target iter:Expr}{ifs:List Expr}{scope:Scope}{pos:Pos}{it acc:Value}{env:Env}(I:Nat->Shared->Prop)
  (turn:∀n s,I n s->wpAny (model prog w) A (pyNext it) (λr s₁=>match r with
   |none=>R (.ok .next) s₁
   |some v=>wpAny (model prog w) A (letOwnedTupleGo target it v) (λ_ s₀=>wpAny (model prog w) A (assign target env v) (λ_ s₂ =>
     wpAny (model prog w) A (forIn ifs true λc r=>if r=true then do let ok <-isTrue c env (eval c env);pure (ForInStep.yield ok) else pure (ForInStep.yield r)) (λok s₃ =>
      if ok=true then wpAny (model prog w) A (eval elt env) (λx s₄ =>
       wpAny (model prog w) A (call (.builtin "list.append") [acc,x]) (λ_ s₅=>∃m,m<n/\I m s₅) (λ_ _=>False) s₄) (λ_ _=>False) s₃
      else ∃m,m<n/\I m s₃) (λ_ _=>False) s₂) (λ_ _=>False) s₀) (λ_ _=>False) s₁) (λ_ _=>False) s)
  (n:Nat) (h:I n s) :
  codeAny (model prog w) A (.compLoop (.ListComp elt [⟨target,iter,ifs,0⟩] scope pos) 0 it acc env) R s:=by
 refine codeAny_loop rfl I (λn s hI=>?_) n h;show wpAny _ A ((compTurn (.ListComp elt [⟨target,iter,ifs,0⟩] scope pos) 0 it acc env).onRaise (λx=>do noteFrame x env;theTreesLotGoes x)) _ _ s;refine wpAny_noted ?_;rw[compTurn_list];refine ZZ (wpAny_standAt (ZZ (ZX (turn n s hI) (λr s₁ h₁=>?_) λ_ _ h'=>h'.elim)));cases r with
 |none=>exact ZY h₁
 |some v =>
  refine ZZ (ZX h₁ (λ_ s₀ h₀=>?_) λ_ _ h'=>h'.elim);refine ZZ (ZX h₀ (λ_ s₂ h₂=>ZZ (ZX h₂ (λok s₃ h₃=>?_) λ_ _ h'=>h'.elim)) λ_ _ h'=>h'.elim);cases ok with
  |false=>exact ZY ⟨rfl,h₃⟩
  |true =>
   exact ZZ (ZZ (ZX h₃ (λx s₄ h₄=>ZZ (ZX h₄ (λ_ s₅ h₅=>ZY (ZY ⟨rfl,h₅⟩)) λ_ _ h'=>h'.elim)) λ_ _ h'=>h'.elim))
end
section
variable{X:Cx}
def yS(js:List (Option Nat))(wi:TI)(g:TG)(tc:TT)(te:TE):TE:=λσ H Q=>wi σ H λJ H1=>∀D,H1 D=none->∃W:Nat->Nat->List V->Hp->Prop,(∃m,W 0 m [] (upd H1 D (.lst []))) /\
 ∀i m ys H,W i m ys H->(J.stop i H/\Q (.ref D) H)\/(J.go i H/\∃N:List V->Hp->Prop,(∀ys' H',N ys' H'->∃m',m' < m/\W (i+1) m' ys' H')/\∀x H',J.yld i H x H'->g x (inner js σ) H' λσ2 H2=>Fills (inner js σ) σ2/\tc σ2 H2 λb H3 =>
  If b (te σ2 H3 λy H4=>H4 D=some (.lst ys)/\ys.length<ZW/\N (ys++[y]) (upd H4 D (.lst (ys++[y])))) (N ys H3))
theorem qL{N':List Str}{js:List (Option Nat)}{scope:Scope}{target iter elt:Expr}{ifs:List Expr}{pos:Pos}{g:TG}{tc:TT}{te:TE}{pins:List (Addr×Obj)}{σ:St}{H:Hp}{s:Shared}{Q:VK}{E:Value->Shared->Prop}
  {RR:Value->Addr->Result->Shared->Prop}{it:Addr}{fp:List Addr}{tn:Nat->Heap->Prop}{J:It}(I:Inv X pins σ H s) (T:Turn X.prog X.w X.K target J fp it tn) (st:tn 0 s.heap) (f:∀b∈fp,oB X pins H b) (hc:X.calm=true)
  (q:∀D,H D=none->∃W:Nat->Nat->List V->Hp->Prop,(∃m,W 0 m [] (upd H D (.lst []))) /\
   ∀i m ys H,W i m ys H->(J.stop i H/\Q (.ref D) H)\/(J.go i H/\∃N:List V->Hp->Prop,(∀ys' H',N ys' H'->∃m',m' < m/\W (i+1) m' ys' H')/\∀x H',J.yld i H x H'->g x (inner js σ) H' λσ2 H2=>Fills (inner js σ) σ2/\tc σ2 H2 λb H3 =>
  If b (te σ2 H3 λy H4=>H4 D=some (.lst ys)/\ys.length<ZW/\N (ys++[y]) (upd H4 D (.lst (ys++[y])))) (N ys H3)))
  (hg:∀cl C fp s H,PG (X.comp N' scope cl C fp s H) target g) (hf:∀cl C fp s H,PF (X.comp N' scope cl C fp s H) ifs tc) (he:∀cl C fp s H,PE (X.comp N' scope cl C fp s H) elt te)
  (hk:scope.kind=.function) (hcell:∀y∈scope.names,y.2≠.cell) (hfree:∀y∈scope.names,y.2=.free->X.env.kindOf y.1=some .cell\/X.env.kindOf y.1=some .free) (hjs:tU X.N scope N' js=true)
  (hRR:∀D C H' s',Inv X pins σ H' s'->Q (.ref D) H'->(∃m,s'.heap.Ns C m)->H' C=none->C≠X.env.locals->X.s₀.heap.objs.size<=C->C∉X.fs->(∀x c,X.env.cells.lookup x=some c->c≠C)->(∀p∈X.pn++pins,p.1≠C) ->
   RR (.ref D) C (.ok .next) s') :
  wpAny (model X.prog X.w) X.A (newList []) (λacc s₃=>wpAny (model X.prog X.w) X.A (newFunctionEnv scope X.env.globals (iC X.env.cells scope.names []) [] X.env.qual none .none (some X.env)) (λcenv s₄ =>
   codeAny (model X.prog X.w) X.A (.compStart (.ListComp elt [⟨target,iter,ifs,0⟩] scope pos) 0 (.ref it) acc { cenv with scope:=relabel scope X.env }) (RR acc cenv.locals) s₄) E s₃) E s:=by
 refine wpAny_newObj_type (wpAny_newFunctionEnv hcell (by intro y hy;simp at hy) (λh₁ hns₁ hsb₁=>?_) hk);dsimp only at hns₁ hsb₁ ⊢;have I3:Inv X pins σ (upd H s.heap.objs.size (.lst [])) { s with heap:=s.heap.push { cls:=.type "list",dict:=none,data:=.seq ([]:List Value).toArray } }:=I.lnew (its:=[]) (ys:=[]) (t':=s.toks) .nil (YX _);obtain⟨W,⟨m0,w0⟩,turn⟩:=q s.heap.objs.size I.fresh;generalize hD:s.heap.objs.size=D at I3 turn w0 ⊢;have hsz:(s.heap.push { cls:=.type "list",dict:=none,data:=.seq ([]:List Value).toArray }).objs.size=D+1:=by rw[Heap.size_push,hD]
 have fpl:∀b∈fp,b<D:=λb hb=>by
  obtain⟨o,e,_⟩:=T.obj _ _ st b hb;rw[<-hD];exact YT e
 generalize hs3:({ s with heap:=s.heap.push { cls:=.type "list",dict:=none,data:=.seq ([]:List Value).toArray } }:Shared)=s3 at I3;have eh:s.heap.push { cls:=.type "list",dict:=none,data:=.seq ([]:List Value).toArray }=s3.heap:=by rw[<-hs3]
 rw[eh]at hns₁ hsb₁ hsz ⊢;have f3:∀b∈fp,oB X pins (upd H D (.lst [])) b:=λb hb=>⟨by rw[aF (YZ (fpl b hb))];exact(f b hb).1,(f b hb).2⟩
 have keep1:∀b o,s3.heap.get? b=some o->h₁.get? b=some o:=λb o e=>hsb₁.extBut b o (YZ (YT e)) (YU _ e);have I4:=FF (N':=N') (js:=js) (tk:=s.toks+([]:List (Str×Value)).length) I3 hk hcell hfree hjs f3 (λb hb=>by rw[hsz];exact Xv (fpl b hb)) hns₁ keep1;have es:({ s with heap:=h₁,toks:=s.toks+([]:List (Str×Value)).length }:Shared)={ s3 with heap:=h₁,toks:=s.toks+([]:List (Str×Value)).length }:=by rw[<-hs3]
 rw[show({ s with heap:=h₁,toks:=s.toks+([]:List (Str×Value)).length }:Shared)={ s3 with heap:=h₁,toks:=s.toks+([]:List (Str×Value)).length } from es];have st4:tn 0 h₁:=T.keep _ _ _ st λb hb o e=>keep1 b o (eh▸YU _ e);have hCne:s3.heap.objs.size≠X.env.locals:=Nat.ne_of_gt I3.lt;have loop:∀s4:Shared,tn 0 s4.heap->Inv (X.comp N' scope (iC X.env.cells scope.names []) s3.heap.objs.size fp s3 (upd H D (.lst []))) [] (inner js σ) (upd H D (.lst [])) s4 ->
   codeAny (model X.prog X.w) X.A (.compLoop (.ListComp elt [⟨target,iter,ifs,0⟩] scope pos) 0 (.ref it) (.ref D) (compEnvC scope (iC X.env.cells scope.names []) s3.heap.objs.size X.env)) (RR (.ref D) s3.heap.objs.size) s4:=by
  intro s4 st4 I4;generalize hX:X.comp N' scope (iC X.env.cells scope.names []) s3.heap.objs.size fp s3 (upd H D (.lst []))=X' at I4;have xprog:X'.prog=X.prog:=by rw[<-hX];rfl
  have stat:∀{H':Hp},(∀b∈fp,H' b=none)->∀b∈fp,oB X' [] H' b:=λhn b hb=>by
   rw[<-hX];refine⟨hn b hb,?_,?_,.inl hb,?_,λp hp=>nomatch hp⟩
   ·exact YZ (by show b<s3.heap.objs.size;rw[hsz];exact Xv (fpl b hb))
   ·exact λz=>(Zn.mp (I3.stkSub b z)).elim (f3 b hb).2.1 (f3 b hb).2.2.1
   ·intro x c e;rcases tZ _ _ e with z | z
    ·simp at z
    ·exact(f3 b hb).2.2.2.2.1 x c z
  have hg':=hg (iC X.env.cells scope.names []) s3.heap.objs.size fp s3 (upd H D (.lst []));have hf':=hf (iC X.env.cells scope.names []) s3.heap.objs.size fp s3 (upd H D (.lst []));have he':=he (iC X.env.cells scope.names []) s3.heap.objs.size fp s3 (upd H D (.lst []));rw[hX]at hg' hf' he';have xA:X'.A=X.A:=by rw[<-hX];rfl
  have xw:X'.w=X.w:=by rw[<-hX];rfl
  have xK:X'.K=X.K:=by rw[<-hX];rfl
  have xc:X'.calm=true:=by rw[<-hX];exact hc
  have xe:X'.env=compEnvC scope (iC X.env.cells scope.names []) s3.heap.objs.size X.env:=by rw[<-hX];rfl
  have xx:X'.xe=λ_ _=>False:=by rw[<-hX];rfl
  have T':Turn X'.prog X'.w X'.K target J fp it tn:=by rw[xprog,xw,xK];exact T
  rw[<-xA,<-xw,<-xprog,<-xe];refine vU (λn s'=>∃i ys H',Inv X' [] (inner js σ) H' s'/\tn i s'.heap/\(∀b∈fp,H' b=none)/\W i n ys H') ?_ m0 ⟨0,[],_,I4,st4,λb hb=>(f3 b hb).1,w0⟩;rintro n s5 ⟨i,ys,H5,I5,st5,fr5,w5⟩;rcases turn i n ys H5 w5 with⟨stop,q⟩ | ⟨go,N,hN,step⟩
  ·refine thn (T'.done X' rfl rfl rfl xc i [] s5 _ H5 _ I5 (stat fr5) st5 stop) λr s6 ⟨hr,I6⟩=>?_;subst hr;subst hX;have I7:Inv X pins σ H5 s6:=I3.call' (s':=s6) I6.os I6.base I6.hok I6.bare λb hb=>⟨(f3 b hb).2.2.2.1,(f3 b hb).2.1,(f3 b hb).2.2.2.2.1,(f3 b hb).2.2.2.2.2⟩
   obtain⟨m6,hn6,_⟩:=I6.loc;refine hRR D s3.heap.objs.size H5 s6 I7 q ⟨m6,hn6⟩ I6.free hCne I3.sz (I3.nofs (ZA _)) (λx c e z=>?_) (λp hp z=>?_)
   ·obtain⟨v,y⟩:=I3.cell x c e;exact Yg (Xk y.lt (by rw[z];exact ZA _)) (YW _)
   ·exact Yg (Xk (YT (I3.pin p hp).1) (by rw[z];exact ZA _)) (YW _)
  ·refine thn (T'.item X' rfl rfl rfl xc i [] s5 _ H5 _ I5 (stat fr5) st5 go) λr s6 ⟨u,hr,h6⟩=>?_;subst hr;refine thn h6 λ_ s7 ⟨x,H7,I7,r7,y7,st7,fr7⟩=>?_;have I7':=I7.pinned (stat fr7) (T.obj _ _ st7);refine ZX (hg' _ s7 _ H7 x u _ I7' r7 (step x H7 y7)) (λ_ s8 ⟨σ8,H8,I8,fill8,q8⟩=>?_) (λ_ _ z=>by rw[xx]at z;exact z);refine ZX (hf' _ s8 σ8 H8 _ I8 q8) (λb s9 ⟨H9,I9,q9⟩=>?_) (λ_ _ z=>by rw[xx]at z;exact z);have again:∀{H':Hp}{s':Shared}{ys':List V},Inv X' ([]++pP fp s7.heap) σ8 H' s'->N ys' H'->∃m,m<n/\∃i ys H',Inv X' [] (inner js σ) H' s'/\tn i s'.heap/\(∀b∈fp,H' b=none)/\W i m ys H':=λ{H' s' ys'} I' n'=>by
    obtain⟨m',hm,w'⟩:=hN ys' H' n';refine⟨m',hm,i+1,ys',H',I'.unpinned.weak fill8.len fill8.at_,T.keep _ _ _ st7 λb hb o e=>(I'.pin (b,o) (ZN _ (ZN _ (iR hb e)))).1,λb hb=>?_,w'⟩;obtain⟨o,e,d⟩:=T.obj _ _ st7 b hb;exact(I'.pin (b,o) (ZN _ (ZN _ (iR hb e)))).2.1
   cases b with
   |false=>exact again I9 (q9.f rfl)
   |true =>
    refine ZX (he' _ s9 σ8 H9 _ I9 (q9.t rfl)) (λyv s10 ⟨y,H10,I10,ry,hD10,hz,q10⟩=>?_) (λ_ _ z=>by rw[xx]at z;exact z);refine ZX (eU (X:=X') _ s10 σ8 H10 (.ref D) [y] (.ref D) [yv] (λ_ H'=>H'=upd H10 D (.lst (ys++[y]))) I10 rfl (.cons ry .nil) ⟨ys,hD10,hz,rfl⟩) (λ_ s11 ⟨_,H11,I11,_,e11⟩=>?_) (λ_ _ z=>by rw[xx]at z;exact z);subst e11;exact again I11 q10
 have l4:=loop { s3 with heap:=h₁,toks:=s.toks+([]:List (Str×Value)).length } st4 I4;exact codeAny_compStart_list l4 (T.self _ 0 _ _ _ st4 l4)
theorem lK{N':List Str}{js:List (Option Nat)}{scope:Scope}{target iter elt:Expr}{ifs:List Expr}{pos:Pos}{wi:TI}{g:TG}{tc:TT}{te:TE}(hc:X.calm=true)(hi:PI X target iter wi)
  (hg:∀cl C fp s H,PG (X.comp N' scope cl C fp s H) target g) (hf:∀cl C fp s H,PF (X.comp N' scope cl C fp s H) ifs tc) (he:∀cl C fp s H,PE (X.comp N' scope cl C fp s H) elt te)
  (hk:scope.kind=.function:=by rfl) (hcell:(scope.names.all λy=>y.2 != .cell)=true:=by rfl) (hfree:(scope.names.all λy=>y.2 != .free||(X.env.kindOf y.1==some .cell||X.env.kindOf y.1==some .free))=true:=by rfl)
  (hnames:(scope.names.all λy=>y.2 != .local||scope.names.lookup y.1==some .local)=true:=by rfl) (hjs:tU X.N scope N' js=true:=by rfl) (hs:∀x,foldedSetIterable iter X.env x=pure x:=by intro _;rfl) :
  PE X (.ListComp elt [⟨target,iter,ifs,0⟩] scope pos) (yS js wi g tc te):=by
 have hcell':∀y∈scope.names,y.2≠.cell:=λy hy z=>by have:=List.all_eq_true.mp hcell y hy;simp[z]at this
 have hfree':∀y∈scope.names,y.2=.free->X.env.kindOf y.1=some .cell\/X.env.kindOf y.1=some .free:=λy hy z=>by have:=List.all_eq_true.mp hfree y hy;simpa[z] using this
 have hnames':∀y∈scope.names,y.2=.local->scope.names.lookup y.1=some .local:=λy hy z=>by have:=List.all_eq_true.mp hnames y hy;simpa[z] using this
 intro pins s σ H Q I h;rw[eval_ListComp];refine wpAny_comprehension_free (use:=none) rfl hs (kA λx hx z=>I.ok.has x.1 (hfree' x hx z)) hk hnames' ?_;refine thn (hi pins s σ H _ I h) λv s1 h1=>thn h1 λitv s2 h2=>?_;obtain⟨it,fp,tn,J,H2,e,I2,T,st2,f2,q2⟩:=h2;subst e;refine qL (RR:=λacc C=>compPost (model X.prog X.w) X.A X.xe none (EP X pins σ Q) acc C) I2 T st2 f2 hc q2 hg hf he hk hcell' hfree' hjs ?_;intro D C H' s' I' q ⟨m,hn⟩ c0 c1 c2 c3 c4 c5;exact⟨m,hn,λh' hs'=>⟨.ref D,H',I'.turned (t':=s'.toks) (λb o hb e=>(hs'.2 b hb).trans e) c0 c1 (.inr c2) c4 c5,rfl,q⟩⟩
theorem kG{N':List Str}{js:List (Option Nat)}{scope:Scope}{target iter elt:Expr}{ifs:List Expr}{pos pos' spos:Pos}{x:Str}{i:Nat}{wi:TI}{g:TG}{tc:TT}{te:TE}(hN:X.N.Nodup)(hi':X.N[i]?=some x)(hx:Loc X.env.scope x)(hc:X.calm=true)(hi:PI X target iter wi)
  (hg:∀cl C fp s H,PG (X.comp N' scope cl C fp s H) target g) (hf:∀cl C fp s H,PF (X.comp N' scope cl C fp s H) ifs tc) (he:∀cl C fp s H,PE (X.comp N' scope cl C fp s H) elt te)
  (hsw:swapsWith (.ListComp elt [⟨target,iter,ifs,0⟩] scope pos) (some (.Name x pos')) spos.line X.env=pure true:=by rfl)
  (hk:scope.kind=.function:=by rfl) (hcell:(scope.names.all λy=>y.2 != .cell)=true:=by rfl) (hfree:(scope.names.all λy=>y.2 != .free||(X.env.kindOf y.1==some .cell||X.env.kindOf y.1==some .free))=true:=by rfl)
  (hnames:(scope.names.all λy=>y.2 != .local||scope.names.lookup y.1==some .local)=true:=by rfl) (hjs:tU X.N scope N' js=true:=by rfl) (hs:∀x,foldedSetIterable iter X.env x=pure x:=by intro _;rfl)
  (hfn:X.fn x=true\/X.env.scope.names.lookup x=some .local:=by first | exact .inl rfl | exact .inr rfl | assumption) :
  PS X (.Assign [.Name x pos'] (.ListComp elt [⟨target,iter,ifs,0⟩] scope pos) spos) (AU (yS js wi g tc te) (cJ i)):=by
 have hcell':∀y∈scope.names,y.2≠.cell:=λy hy z=>by have:=List.all_eq_true.mp hcell y hy;simp[z]at this
 have hfree':∀y∈scope.names,y.2=.free->X.env.kindOf y.1=some .cell\/X.env.kindOf y.1=some .free:=λy hy z=>by have:=List.all_eq_true.mp hfree y hy;simpa[z] using this
 have hnames':∀y∈scope.names,y.2=.local->scope.names.lookup y.1=some .local:=λy hy z=>by have:=List.all_eq_true.mp hnames y hy;simpa[z] using this
 intro pins s σ H D I h;rw[exec_Assign_Name_used _ _ _ _ hsw];refine ZZ (wpAny_standAt (ZZ ?_));show wpAny _ X.A (do let _ <-comprehension (.ListComp elt [⟨target,iter,ifs,0⟩] scope pos) scope X.env _ (newList []) false (eval iter X.env) (some (assign (.Name x pos') X.env))) _ _ s;refine ZZ (ZX (wpAny_comprehension_free (use:=some (assign (.Name x pos') X.env)) (Q:=λ_ s'=>SP X pins D .next s') rfl hs (kA λx hx z=>I.ok.has x.1 (hfree' x hx z)) hk hnames' ?_) (λ_ s' hq=>ZY (ZY hq)) λ_ _ e=>e);refine thn (hi pins s σ H _ I h) λv s1 h1=>thn h1 λitv s2 h2=>?_;obtain⟨it,fp,tn,J,H2,e,I2,T,st2,f2,q2⟩:=h2;subst e;refine qL (Q:=λx H1=>cJ i x σ H1 D.nx) (RR:=λacc C=>compPost (model X.prog X.w) X.A X.xe (some (assign (.Name x pos') X.env)) (λ_ s'=>SP X pins D .next s') acc C) I2 T st2 f2 hc q2 hg hf he hk hcell' hfree' hjs ?_;intro D' C H' s' I' q ⟨m,hn⟩ c0 c1 c2 c3 c4 c5;obtain⟨oC,es,ep,hoC,hdC,rC⟩:=id hn;have I'':Inv X (pins++[(C,oC)]) σ H' s':=I'.pins_of λp hp=>(Zf.mp hp).elim (λz=>I'.pin p (ZN _ z)) λz=>by
  have e:=Zb.mp z;subst e;exact⟨hoC,c0,c1,c3,λv z=>by rw[hdC]at z;cases z⟩
 show wpAny _ X.A (assign (.Name x pos') X.env (.ref D')) _ _ _;refine wpAny_assign_Name (dD I'' hN hi' hx (v:=.ref D') rfl (λs3 I3=>?_) hfn);have hC3:=I3.pin (C,oC) (ZN _ (ZN _ (Zb.mpr rfl)));refine⟨m,⟨oC,es,ep,hC3.1,hdC,rC⟩,λh' hs'=>?_⟩;exact⟨_,H',I3.unpinned.turned (t':=s3.toks) (λb o hb e=>(hs'.2 b hb).trans e) c0 c1 (.inr c2) c4 c5,q⟩
end
theorem oP{J:It}{js:List (Option Nat)}{σ:St}{H1:Hp}{R:Hp->Prop}{D:Addr}{g:TG}{tc:TT}{te:TE}(n:Nat)(Pv:Nat->List V->Hp->Prop)(h0:Pv 0 [] (upd H1 D (.lst [])))
  (hs:∀i ys H,i<n->Pv i ys H->J.go i H/\∀x H',J.yld i H x H'->g x (inner js σ) H' λσ2 H2=>Fills (inner js σ) σ2/\tc σ2 H2 λb H3 =>
   If b (te σ2 H3 λy H4=>H4 D=some (.lst ys)/\ys.length<ZW/\Pv (i+1) (ys++[y]) (upd H4 D (.lst (ys++[y])))) (Pv (i+1) ys H3))
  (hd:∀ys H,Pv n ys H->J.stop n H/\R H) :
  ∃W:Nat->Nat->List V->Hp->Prop,(∃m,W 0 m [] (upd H1 D (.lst []))) /\
   ∀i m ys H,W i m ys H->(J.stop i H/\R H)\/(J.go i H/\∃N:List V->Hp->Prop,(∀ys' H',N ys' H'->∃m',m' < m/\W (i+1) m' ys' H')/\∀x H',J.yld i H x H'->g x (inner js σ) H' λσ2 H2=>Fills (inner js σ) σ2/\tc σ2 H2 λb H3 =>
    If b (te σ2 H3 λy H4=>H4 D=some (.lst ys)/\ys.length<ZW/\N (ys++[y]) (upd H4 D (.lst (ys++[y])))) (N ys H3)):=by
 refine⟨λi m ys H=>m=n-i/\i<=n/\Pv i ys H,⟨n,by simp,YX _,h0⟩,?_⟩;rintro i m ys H ⟨rfl,hi,p⟩;by_cases hlt:i<n
 ·obtain⟨go,step⟩:=hs i ys H hlt p;exact .inr ⟨go,Pv (i+1),λys' H' p'=>⟨n-(i+1),by omega,rfl,hlt,p'⟩,step⟩
 ·have e:i=n:=by lia
  subst e;exact .inl (hd ys H p)
theorem PY{A B:Prop}:If true A B=A:=propext ⟨λh=>h.t rfl,iT⟩
theorem comp_map{J:It}{js:List (Option Nat)}{σ:St}{H1:Hp}{R:Hp->Prop}{D:Addr}{g:TG}{te:TE}(n:Nat)(Pv:Nat->List V->Hp->Prop)(h0:Pv 0 [] (upd H1 D (.lst [])))
  (hs:∀i ys H,i<n->Pv i ys H->J.go i H/\∀x H',J.yld i H x H'->g x (inner js σ) H' λσ2 H2=>Fills (inner js σ) σ2/\te σ2 H2 λy H4=>H4 D=some (.lst ys)/\ys.length<ZW/\Pv (i+1) (ys++[y]) (upd H4 D (.lst (ys++[y]))))
  (hd:∀ys H,Pv n ys H->J.stop n H/\R H) :
  ∃W:Nat->Nat->List V->Hp->Prop,(∃m,W 0 m [] (upd H1 D (.lst []))) /\
   ∀i m ys H,W i m ys H->(J.stop i H/\R H)\/(J.go i H/\∃N:List V->Hp->Prop,(∀ys' H',N ys' H'->∃m',m' < m/\W (i+1) m' ys' H')/\∀x H',J.yld i H x H'->g x (inner js σ) H' λσ2 H2=>Fills (inner js σ) σ2/\nN σ2 H2 λb H3 =>
    If b (te σ2 H3 λy H4=>H4 D=some (.lst ys)/\ys.length<ZW/\N (ys++[y]) (upd H4 D (.lst (ys++[y])))) (N ys H3)):=by
 refine oP n Pv h0 ?_ hd;simp only[nN,PY];exact hs
end L2
set_option Elab.async false
set_option linter.all false
set_option maxRecDepth 100000
set_option maxHeartbeats 4000000
namespace L2
open PySem PySem.Spec PyProof.Rows
section
variable{X:Cx}{tg:Expr}
end
section
variable{X:Cx}{pins:List (Addr×Obj)}{σ:St}{H:Hp}{s:Shared}{h':Heap}
theorem Inv.turnedNew{t':Nat}{ch:List Addr}{T:Addr}{o:HO}(I:Inv X pins σ H s)(k:∀b u,b∉ch->s.heap.get? b=some u->h'.get? b=some u)(there:∀b u,s.heap.get? b=some u->∃u',h'.get? b=some u')(hT:s.heap.objs.size<=T)
  (hf:∀b∈ch,oB X pins H b) (new:bI X.prog X.w (upd H T o) h' T o):Inv X pins σ (upd H T o) { s with heap:=h',toks:=t' }:=by
 have hn:=I.hok.fresh hT;have nit:∀b u,H b=some u->b∉ch:=λb u e z=>by rw[(hf b z).1]at e;cases e
 refine I.step (g':=s.gens) (d':=s.drawn) (ch:=ch) (λb hb=>?_) (λb o _ _ hc e _=>k b o hc e) (λb o _ _ hc e _=>⟨o.slots,k b o hc e⟩) (λb u hc e n=>?_) (λb u hc e=>there b u e)
  (λb xs e=>?_) (λb ob u e=>?_) (λb ps e=>⟨#[],?_⟩) (λm hm=>?_) (λb u e=>?_) I.bare
 ·exact⟨(hf b hb).2.2.2.1,(hf b hb).2.1,(hf b hb).2.2.2.2.1,(hf b hb).2.2.2.2.2⟩
 ·rw[aF (YZ (Xk (YT e) hT))];exact n
 ·rw[aF (aI e hn)];exact e
 ·rw[aF (aI e hn)];exact e
 ·rw[aF (aI e hn),e];simp
 ·obtain⟨ob,es,ep,ho,r⟩:=hm;exact⟨ob,es,ep,k _ ob (λz=>(hf _ z).2.1 rfl) ho,r⟩
 ·by_cases hb:b=T
  ·subst hb;rw[aA]at e;cases e;exact new
  ·rw[aF hb]at e;refine(I.hok b u e).stay (λc v hc q=>k c v ?_ q) (λc q=>by rw[aF (aI q hn)];exact q) λc xs q=>by rw[aF (aI q hn)];exact q
   rcases hc with z | z
   ·rw[z];exact nit b u e
   ·exact nit c _ z
end
def Ite(a:Addr):It :=
 ⟨λi H=>∃xs x,SqL H a xs/\xs[i]?=some x,λi H v H'=>∃T x,v=.ref T/\H T=none/\H'=upd H T (.tup [.int i,x])/\∀xs,SqL H a xs->xs[i]?=some x,λi H=>∃xs,SqL H a xs/\xs.length<=i⟩
theorem AS{P:Program}{w:World}{K:PySem.W.Frag}{elts:List Expr}{k:Nat}{pos:Pos}(a e it:Addr)(hei:e≠it):Turn P w K (.Tuple elts k pos) (Ite a) [e,it] e (λi h=>(∃old,IsEnum h e it i old)/\h.IsListIter it a i) where
 mem:=by simp
 obj:=λi h st b hb=>by
  obtain⟨⟨old,he⟩,o,ho,hc,hd⟩:=st;rcases Zn.mp hb with rfl | hb
  ·exact⟨_,he,λv z=>by
    have z':Data.fields _=Data.cell v:=z;cases z'⟩
  ·have e':=Zb.mp hb;subst e';exact⟨o,ho,λv z=>by rw[hd]at z;cases z⟩
 keep:=λi h h' st k=>by
  obtain⟨⟨old,he⟩,hit⟩:=st;exact⟨⟨old,k e (by simp) _ he⟩,hit.at λo x=>k it (by simp) o x⟩
 item:=by
  intro X hP hw hK hc i pins s σ H E I hf st hg;subst hP hw hK;obtain⟨⟨old,he⟩,hit⟩:=st;obtain⟨xs,x,hq,hx⟩:=hg;obtain⟨its,rv,pl,hz⟩:=I.list hq;obtain⟨u,hu,ru⟩:=rv.get hx;have hux:its.toArray[i]?=some u:=by simpa using hu
  refine wpAny_pyNext_enum_item he hit pl.isList hux hei λh' ho hit' hT hsz hk=>?_;refine⟨_,rfl,?_⟩;have kk:∀b v,b∉[e,it]->s.heap.get? b=some v->h'.get? b=some v:=λb v hb q=>hk b v (λz=>hb (by simp[z])) (λz=>hb (by simp[z])) q;have th:∀b v,s.heap.get? b=some v->∃v',h'.get? b=some v':=λb v q=>by
   by_cases h1:b=e
   ·subst h1;exact⟨_,ho⟩
   ·by_cases h2:b=it
    ·subst h2;obtain⟨o,q1,_⟩:=hit';exact⟨_,q1⟩
    ·exact⟨v,hk b v h1 h2 q⟩
  have I1:Inv X pins σ (upd H s.heap.objs.size (.tup [.int i,x])) { s with heap:=h',toks:=s.toks+1 } :=
   I.turnedNew (ch:=[e,it]) kk th (ZA _) hf ⟨by show 2<=ZW;decide,[.int i s.toks,u],.cons ⟨_,rfl⟩ (.cons ru .nil),⟨_,hT,rfl,_,rfl⟩⟩
  refine wpAny_letOwnedTupleGo_enum ho λh2 he2 hs2=>?_;have fe:=hf e (by simp);have fi:=hf it (by simp);have hTe:e≠s.heap.objs.size:=YZ (YT he);have hTi:it≠s.heap.objs.size:=by obtain⟨o,q1,_⟩:=hit;exact YZ (YT q1)
  have I2:Inv X pins σ (upd H s.heap.objs.size (.tup [.int i,x])) { s with heap:=h2,toks:=s.toks+1 } :=
   Inv.turned (s:={ s with heap:=h',toks:=s.toks+1 }) (h':=h2) (t':=s.toks+1) (it:=e) I1 (λb o hb q=>(hs2.2 b hb).trans q) (by rw[aF hTe];exact fe.1) fe.2.1 fe.2.2.2.1 fe.2.2.2.2.1 fe.2.2.2.2.2
  refine⟨.ref s.heap.objs.size,_,I2,rfl,⟨s.heap.objs.size,x,rfl,I.fresh,rfl,λys hys=>by rw[I.list_inj hys hq];exact hx⟩,⟨⟨_,by simpa using he2⟩,hit'.at λo q=>(hs2.2 it hei.symm).trans q⟩,λb hb=>?_⟩;rcases Zn.mp hb with rfl | hb
  ·rw[aF hTe];exact fe.1
  ·have e':=Zb.mp hb;subst e';rw[aF hTi];exact fi.1
 done:=by
  intro X hP hw hK hc i pins s σ H E I hf st hg;subst hP hw hK;obtain⟨⟨old,he⟩,hit⟩:=st;obtain⟨xs,hq,hl⟩:=hg;obtain⟨its,rv,pl,hz⟩:=I.list hq;have hlen:=rv.length;obtain⟨f0,f1,f2,f3,f4,f5⟩:=hf it (by simp);refine wpAny_pyNext_enum_end (I.ok.hd hc) he hit pl.isList (by simp;lia) λh' eb=>⟨rfl,?_⟩
  exact I.turned (t':=s.toks) (λb o hb q=>eb b o hb q) f0 f1 f3 f4 f5
 self:=λ_ _ _ _ _ st h=>by
  obtain⟨⟨old,he⟩,_⟩:=st;exact wpAny_pyIter_enum he h
section
variable{X:Cx}
def N2(ta:TA):TI:=λσ H R=>ta σ H λvs H1=>∃a,vs=[.ref a]/\(∃xs,SqL H1 a xs)/\R (Ite a) H1
theorem iM{a:Expr}{ta:TA}{p pos:Pos}{elts:List Expr}{k:Nat}{tpos:Pos}(hg:Gl X "enumerate")(hm:X.mg "enumerate" = none)(ha:PA X [a] ta)(hs:starEach [a] X.env=[(false,eval a X.env)]:=by rfl) :
  PI X (.Tuple elts k tpos) (.Call (.Name "enumerate" p) [a] [] pos) (N2 ta):=by
 intro pins s σ H R I h;refine Call_ (iU I hg hm (show bootBuiltins "enumerate" = some (.type "enumerate") by decide +kernel) (PyProof.Rows.callWith_type1 (oY (ha pos pins s σ H _ I h) λus s1 vs H1 I1 r1 q1=>?_) hs rfl));obtain⟨l,e,⟨xs,hq⟩,q⟩:=q1;subst e;cases r1 with
 |cons r rr =>
  cases rr;cases r;obtain⟨its,rv,pl,hz⟩:=I1.list hq;refine call_enumerate_list pl.isList λh' he hit hsz hk=>?_;refine wpAny_pyIter_enum he ?_;have I2:Inv X pins σ H1 { s1 with heap:=h' }:=I1.kept (t':=s1.toks) hk;refine⟨s1.heap.objs.size+1,[s1.heap.objs.size+1,s1.heap.objs.size],_,_,H1,rfl,I2,AS l _ _ (Nat.succ_ne_self _),⟨⟨_,by simpa using he⟩,hit⟩,λb hb=>?_,q⟩;rcases Zn.mp hb with rfl | hb
  ·exact I1.fpOk (Nat.le_succ _) (I1.hok.fresh (Nat.le_succ _))
  ·have e':=Zb.mp hb;subst e';exact I1.fpOk (ZA _) (I1.hok.fresh (ZA _))
end
mutual
inductive Bd(H:Hp):V->PyData->Prop
 |int (i:Int):Bd H (.int i) (.int i)
 |non:Bd H .non .none
 |bl (b:Bool):Bd H (.bl b) (.bool b)
 |lst {a:Addr}{xs:List V}{ds:List PyData}:SqL H a xs->Bds H xs ds->Bd H (.ref a) (.list ds)
 |tup {a:Addr}{xs:List V}{ds:List PyData}:SqT H a xs->Bds H xs ds->Bd H (.ref a) (.tuple ds)
inductive Bds(H:Hp):List V->List PyData->Prop
 |nil:Bds H [] []
 |cons {x:V}{xs:List V}{d:PyData}{ds:List PyData}:Bd H x d->Bds H xs ds->Bds H (x::xs) (d::ds)
end
theorem mJ{H:Hp}:∀ns:List Int,Bds H (ns.map V.int) (ns.map PyData.int)
 |[]=>.nil
 |n::ns=>.cons (.int n) (mJ ns)
section
variable{X:Cx}{pins:List (Addr×Obj)}{σ:St}{H:Hp}{s:Shared}
mutual
theorem Bd.reads(I:Inv X pins σ H s):∀{x:V}{d:PyData}{u:Value},Bd H x d->RelV x u->∃as,Reads s.heap u d as
 |_,_,u,.int i,r=>by obtain⟨t,rfl⟩:=r;exact⟨_,.int i t⟩
 |_,_,u,.non,r=>by cases r;exact⟨_,.none⟩
 |_,_,u,.bl b,r=>by cases r;exact⟨_,.bool b⟩
 |_,_,u,.lst hq b,r=>by
  cases r;obtain⟨its,rv,⟨o,n,e,hc,_,hd⟩,hz⟩:=I.list hq;obtain⟨as,h⟩:=Bds.reads I b rv;exact⟨_,.list e hc hd (by simpa using h)⟩
 |_,_,u,.tup hq b,r=>by
  cases r;obtain⟨its,rv,⟨o,e,hc,n,hd⟩,hz⟩:=I.tuple hq;obtain⟨as,h⟩:=Bds.reads I b rv;exact⟨_,.tuple e hc hd (by simpa using h)⟩
theorem Bds.reads(I:Inv X pins σ H s):∀{xs:List V}{ds:List PyData}{us:List Value},Bds H xs ds->aV xs us->∃as,ReadsAll s.heap us ds as
 |_,_,_,.nil,r=>by cases r;exact⟨_,.nil⟩
 |_,_,_,.cons b bs,r=>by
  cases r with
  |cons r rr =>
   obtain⟨as,h⟩:=Bd.reads I b r;obtain⟨bs',h'⟩:=Bds.reads I bs rr;exact⟨_,.cons h h'⟩
end
end
section
variable{X:Cx}
def NO(neg:Bool):R2:=λx y H Q=>∃dx dy,Bd H x dx/\Bd H y dy/\SeqAt.shaped dx=true/\SeqAt.shaped dy=true/\Q (.bl (PyData.eqv dx dy ^^ neg)) H
theorem xT(hu:X.A.units+64<cLine):OpR X (compareOp .Eq) (NO false):=by
 intro pins s σ H x y v u Q I rx ry h;obtain⟨dx,dy,bx,b_y,sx,sy,q⟩:=h;obtain⟨as,r1⟩:=bx.reads I rx;obtain⟨bs,r2⟩:=b_y.reads I ry;exact eq_dataH r1 r2 sx sy hu ⟨.bl _,H,I,rfl,by simpa using q⟩
theorem kI(hu:X.A.units+64<cLine):OpR X (compareOp .NotEq) (NO true):=by
 intro pins s σ H x y v u Q I rx ry h;obtain⟨dx,dy,bx,b_y,sx,sy,q⟩:=h;obtain⟨as,r1⟩:=bx.reads I rx;obtain⟨bs,r2⟩:=b_y.reads I ry;exact ne_dataH r1 r2 sx sy hu ⟨.bl _,H,I,rfl,by simpa using q⟩
end
section
variable{X:Cx}
end
end L2
namespace L2
open PySem PySem.Spec PyProof.Rows
theorem aC{H:Hp}{p:Addr}(h:H p=none)(o:HO):aJ H (upd H p o):=λb u q=>by rw[aF (aI q h)];exact q
def cL(r:Addr)(H H':Hp):Prop:=∀b o,b≠r->H b=some o->H' b=some o
section
variable{X:Cx}{K:PySem.W.Frag}
theorem OH{es:List Expr}{k:Nat}{t:TGs}{n:Nat}{pos:Pos}(e:X.K=K)(hc:X.calm=true)(h:PGs X es t)
  (hn:(assignEach es X.env).length=n:=by rfl) (hst:(assignEach es X.env).findIdx? (·.1)=none:=by rfl):PG X (.Tuple es k pos) (LY n t):=by subst e;exact DN hc h hn hst
end
end L2
namespace MM
def oth(e:Nat):Nat:=if e%2=0 then e+1 else e-1
theorem bF{n e:Nat}(h:e<2*n):oth e<2*n:=by unfold oth;split<;>omega
theorem pR(e:Nat):oth e / 2=e / 2:=by unfold oth;split<;>lia
theorem tJ(e:Nat):oth e%2=1-e%2:=by unfold oth;split<;>lia
theorem EW{a b:Nat}(h1:a / 2=b / 2)(h2:a%2=b%2):a=b:=by rw[<-Nat.div_add_mod a 2,<-Nat.div_add_mod b 2,h1,h2]
theorem dF(e:Nat):oth (oth e)=e:=EW (by rw[pR,pR]) (by rw[tJ,tJ];exact Nat.sub_sub_self (Nat.le_of_lt_succ (Nat.mod_lt e (Nat.zero_lt_succ 1))))
theorem iO{a b:Nat}(h:oth a=oth b):a=b:=by rw[<-dF a,<-dF b,h]
theorem bE:∀(N:Nat) (l:List Nat),l.Nodup->(∀x∈l,x<N)->l.length<=N
 |0,[],_,_=>ZA _
 |0,x::_,_,h=>Yg (h x Zd) (Nat.not_lt_zero _)
 |N+1,l,nd,h=>by
  have ih:=bE N (l.erase N) (nd.erase N) (λx hx=>by
   have h1:=(nd.mem_erase_iff).mp hx;have h2:=h x h1.2
   lia)
  have hl:=List.length_erase (a:=N) (l:=l);split at hl<;>lia
def iter(f:Nat->Nat):Nat->Nat->Nat
 |0,e=>e
 |n+1,e=>f (iter f n e)
structure fQ(f:Nat->Nat)(N:Nat):Prop where
 lt:∀e,e<N->f e<N
 inj:∀a b,a<N->b<N->f a=f b->a=b
theorem cZ{f:Nat->Nat}{N:Nat}(m:fQ f N){e:Nat}(h:e<N):∀k,iter f k e<N
 |0=>h
 |k+1=>m.lt _ (cZ m h k)
theorem bG(f:Nat->Nat)(e:Nat)(i:Nat):∀k,iter f (i+k) e=iter f k (iter f i e)
 |0=>rfl
 |k+1=>by show f (iter f (i+k) e)=f (iter f k (iter f i e));rw[bG f e i k]
theorem vH{f:Nat->Nat}{N:Nat}(m:fQ f N){a b:Nat}(ha:a<N)(hb:b<N):∀k,iter f k a=iter f k b->a=b
 |0,h=>h
 |k+1,h=>vH m ha hb k (m.inj _ _ (cZ m ha k) (cZ m hb k) h)
def path(f:Nat->Nat)(e k:Nat):List Nat:=(ZR k).map λi=>iter f i e
theorem jE(f:Nat->Nat)(e k:Nat):(path f e k).length=k:=by unfold path;simp
theorem jS(f:Nat->Nat)(e k:Nat):path f e (k+1)=path f e k++[iter f k e]:=by unfold path;rw[ZH,Zt];rfl
theorem pY{f:Nat->Nat}{e k x:Nat}:x∈path f e k↔∃i,i<k/\iter f i e=x:=by
 unfold path;simp[Zh,Zs]
theorem kH{f:Nat->Nat}{N:Nat}(m:fQ f N){e:Nat}(he:e<N):∀k,(∀j,0<j->j<k->iter f j e≠e)->(path f e k).Nodup
 |0,_=>List.nodup_nil
 |k+1,h=>by
  rw[jS];have ih:=kH m he k (λj h0 h1=>h j h0 (by lia));rw[List.nodup_append];refine⟨ih,by simp,?_⟩;intro a ha b hb e1;have hb':b=iter f k e:=by simpa using hb
  obtain⟨i,hi,rfl⟩:=pY.mp ha;have q:iter f i e=iter f k e:=e1.trans hb';have hk:k=(k-i)+i:=by lia
  have q2:iter f i e=iter f i (iter f (k-i) e):=by
   rw[<-bG,Nat.sub_add_cancel (Nat.le_of_lt hi)];exact q
  have q3:=vH m he (cZ m he _) i q2;exact h (k-i) (by lia) (by lia) q3.symm
theorem zD{f:Nat->Nat}{N:Nat}(m:fQ f N){e:Nat}(he:e<N)(k:Nat):∀x∈path f e k,x<N:=λx hx=>by
 obtain⟨i,_,rfl⟩:=pY.mp hx;exact cZ m he i
theorem nR{f:Nat->Nat}{N:Nat}(m:fQ f N){e:Nat}(he:e<N):∃k,0<k/\k<=N/\iter f k e=e:=by
 refine ZS λh=>?_;have no:∀j,0<j->j<N+1->iter f j e≠e:=λj h0 h1 q=>h ⟨j,h0,by lia,q⟩;have nd:=kH m he (N+1) no;have b:=bE N _ nd (zD m he _);rw[jE]at b
 lia
def kC(f:Nat->Nat)(e k:Nat):Prop:=0<k/\iter f k e=e/\∀j,0<j->j<k->iter f j e≠e
theorem C9{f:Nat->Nat}{N:Nat}(m:fQ f N){e:Nat}(he:e<N):∃k,kC f e k/\k<=N:=by
 obtain⟨k,h0,h1,h2⟩:=nR m he;have:∀n k,k<=n->0<k->iter f k e=e->∃k',kC f e k'/\k'<=k:=by
  intro n;induction n with
  |zero=>intro k h1 h2;lia
  |succ n ih =>
   intro k h1 h2 h3;by_cases q:∃j,0<j/\j<k/\iter f j e=e
   ·obtain⟨j,j0,j1,j2⟩:=q;obtain⟨k',r,l⟩:=ih j (by lia) j0 j2;exact⟨k',r,by lia⟩
   ·exact⟨k,⟨h2,h3,λj j0 j1 j2=>q ⟨j,j0,j1,j2⟩⟩,ZA _⟩
 obtain⟨k',r,l⟩:=this k k (ZA _) h0 h2;exact⟨k',r,by lia⟩
theorem pF{f:Nat->Nat}{e k k':Nat}(a:kC f e k)(b:kC f e k'):k=k':=by
 rcases Nat.lt_trichotomy k k' with h | h | h
 ·exact Yg a.2.1 (b.2.2 k a.1 h)
 ·exact h
 ·exact Yg b.2.1 (a.2.2 k' b.1 h)
theorem pG{f:Nat->Nat}{e k j:Nat}(r:kC f e k)(h0:0<j)(hj:j<=k)(h:iter f j e≠e):j<k:=by
 rcases Xw j k with q | q
 ·exact q
 ·have:j=k:=by lia
  subst this;exact Yg r.2.1 h
abbrev aR:=List (Nat×Nat)
abbrev aT:=List (List Nat)
def place(ts:aR)(e:Nat):Nat:=if e%2=0 then (ts.getD (e / 2) (0,0)).1 else (ts.getD (e / 2) (0,0)).2
def row(os:aT)(p:Nat):List Nat:=os.getD p []
structure OG(pl:Nat->Nat)(M:Nat)(os:aT):Prop where
 ends:∀p e,e∈row os p->e<M/\pl e=p
 has:∀e,e<M->pl e<os.length/\e∈row os (pl e)
 nd:∀p,(row os p).Nodup
 full:∀p,p<os.length->row os p≠[]
 four:∀p,(row os p).length<=4
structure Good(ts:aR)(os:aT):Prop where
 g:OG (place ts) (2*ts.length) os
 one:1<=ts.length
def aY(l:List Nat)(x:Nat):Nat:=l.getD ((l.idxOf x+l.length-1)%l.length) 0
theorem pN{l:List Nat}{x:Nat}(h:x∈l):aY l x∈l:=by
 have h1:=ZM h;have h2:(l.idxOf x+l.length-1)%l.length<l.length:=Nat.mod_lt _ (by lia);unfold aY;simp only[List.getD,Zz h2,YM];exact Zp h2
theorem GM{i j n:Nat}(hi:i<n)(hj:j<n)(h:(i+n-1)%n=(j+n-1)%n):i=j:=by
 have f:∀k,k<n->(((k+n-1)%n)+1)%n=k:=λk hk=>by
  rw[Nat.mod_add_mod,Nat.sub_add_cancel (Xz (Nat.succ_le_of_lt (Xj (YX k) hk)) (Nat.le_add_left n k)),Nat.add_mod_right,Nat.mod_eq_of_lt hk]
 rw[<-f i hi,<-f j hj,h]
theorem xJ{l:List Nat}(nd:l.Nodup){x y:Nat}(hx:x∈l)(hy:y∈l)(h:aY l x=aY l y):x=y:=by
 have h1:=ZM hx;have h2:=ZM hy;have m1:(l.idxOf x+l.length-1)%l.length<l.length:=Nat.mod_lt _ (by lia);have m2:(l.idxOf y+l.length-1)%l.length<l.length:=Nat.mod_lt _ (by lia);unfold aY at h;simp only[List.getD,Zz m1,Zz m2,YM]at h;have e:=(List.getElem_inj nd).mp h;have e':=GM h1 h2 e;have g1:l[l.idxOf x]=x:=List.getElem_idxOf h1;have g2:l[l.idxOf y]=y:=List.getElem_idxOf h2;rw[<-g1,<-g2];simp only[e']
def behind(ts:aR)(os:aT)(e:Nat):Nat:=aY (row os (place ts (oth e))) (oth e)
theorem Good.behind{ts:aR}{os:aT}(g:Good ts os){e:Nat}(he:e<2*ts.length):behind ts os e<2*ts.length/\place ts (behind ts os e)=place ts (oth e):=by
 have h:=g.g.has (oth e) (bF he);exact g.g.ends _ _ (pN h.2)
theorem Good.maps{ts:aR}{os:aT}(g:Good ts os):fQ (MM.behind ts os) (2*ts.length) where
 lt:=λe he=>(g.behind he).1
 inj:=λa b ha hb h=>by
  have pa:=(g.behind ha).2;have pb:=(g.behind hb).2;rw[h,pb]at pa;have ma:=(g.g.has (oth a) (bF ha)).2;have mb:=(g.g.has (oth b) (bF hb)).2;unfold MM.behind at h;rw[<-pa]at h ma;exact iO (xJ (g.g.nd _) ma mb h)
open Classical in
noncomputable def per(f:Nat->Nat)(e:Nat):Nat:=if h:∃k,kC f e k then Classical.choose h else 1
noncomputable def aO(f:Nat->Nat)(e:Nat):List Nat:=path f e (per f e)
theorem KL{f:Nat->Nat}{e k:Nat}(r:kC f e k):per f e=k:=by
 unfold per;rw[dif_pos ⟨k,r⟩];exact pF (Classical.choose_spec (⟨k,r⟩:∃k,kC f e k)) r
theorem dM{f:Nat->Nat}{N:Nat}(m:fQ f N){e:Nat}(he:e<N):kC f e (per f e)/\per f e<=N:=by
 obtain⟨k,r,l⟩:=C9 m he;rw[KL r];exact⟨r,l⟩
theorem l5{f:Nat->Nat}{e k:Nat}(h:iter f k e=e):∀n,iter f (k*n) e=e
 |0=>rfl
 |n+1=>by rw[Nat.mul_succ,Nat.add_comm,bG,h];exact l5 h n
theorem ES{f:Nat->Nat}{e k:Nat}(h:iter f k e=e)(j:Nat):iter f j e=iter f (j%k) e:=by
 have e1:j=k*(j / k)+j%k:=(Nat.div_add_mod j k).symm;have e2:iter f j e=iter f (k*(j / k)+j%k) e:=congrArg (λz=>iter f z e) e1;rw[e2,bG,l5 h]
theorem fJ{f:Nat->Nat}{N:Nat}(m:fQ f N){x y:Nat}(hx:x<N):y∈aO f x↔∃k,iter f k x=y:=by
 obtain⟨r,_⟩:=dM m hx;unfold aO;rw[pY];constructor
 ·rintro⟨i,_,h⟩;exact⟨i,h⟩
 ·rintro⟨k,h⟩;exact⟨k%per f x,Nat.mod_lt _ r.1,by rw[<-ES r.2.1];exact h⟩
theorem mS{f:Nat->Nat}{N:Nat}(m:fQ f N){x:Nat}(hx:x<N):x∈aO f x:=(fJ m hx).mpr ⟨0,rfl⟩
theorem jW{f:Nat->Nat}{N:Nat}(m:fQ f N){x:Nat}(hx:x<N):∀y∈aO f x,y<N:=zD m hx _
theorem iV{f:Nat->Nat}{N:Nat}(m:fQ f N){x:Nat}(hx:x<N):(aO f x).Nodup:=kH m hx _ (dM m hx).1.2.2
theorem EM{f:Nat->Nat}{N:Nat}(m:fQ f N){x:Nat}(hx:x<N):0<(aO f x).length/\(aO f x).length<=N:=by
 unfold aO;rw[jE];exact⟨(dM m hx).1.1,(dM m hx).2⟩
theorem nC{f:Nat->Nat}{N:Nat}(m:fQ f N){x y:Nat}(hx:x<N)(h:y∈aO f x):x∈aO f y:=by
 have hy:=jW m hx y h;obtain⟨k,rfl⟩:=(fJ m hx).mp h;obtain⟨r,_⟩:=dM m hx;refine(fJ m hy).mpr ⟨per f x*(k+1)-k,?_⟩;have hk:k<=per f x*(k+1):=by
  have:=Nat.le_mul_of_pos_left (k+1) r.1
  lia
 rw[<-bG,Nat.add_sub_cancel' hk];exact l5 r.2.1 _
theorem gG{f:Nat->Nat}{N:Nat}(m:fQ f N){x y z:Nat}(hx:x<N)(h1:y∈aO f x)(h2:z∈aO f y):z∈aO f x:=by
 have hy:=jW m hx y h1;obtain⟨k,rfl⟩:=(fJ m hx).mp h1;obtain⟨j,rfl⟩:=(fJ m hy).mp h2;exact(fJ m hx).mpr ⟨k+j,bG f x k j⟩
noncomputable def dN(f:Nat->Nat):Nat->List Nat->List (List Nat)
 |0,_=>[]
 |_,[]=>[]
 |n+1,e::r=>aO f e::dN f n ((e::r).filter λx=>decide (x∉aO f e))
theorem fC(f:Nat->Nat)(n:Nat):dN f n []=[]:=by cases n<;>rfl
theorem cK{f:Nat->Nat}{N:Nat}(m:fQ f N){e:Nat}(he:e<N)(r:List Nat):((e::r).filter λx=>decide (x∉aO f e)).length<=r.length:=by
 rw[List.filter_cons,Ya (by simp[mS m he])];exact List.length_filter_le _ _
theorem jF{f:Nat->Nat}{N:Nat}(m:fQ f N):∀(n:Nat) (k:Nat) (l:List Nat),(∀x∈l,x<N)->l.length<=n->l.length<=k->dN f n l=dN f k l
 |0,k,l,_,h,_=>by
  have e:l=[]:=Ym.mp (by lia);subst e;rw[fC,fC]
 |n+1,k,[],_,_,_=>by rw[fC,fC]
 |n+1,0,e::r,_,_,h=>by simp at h
 |n+1,k+1,e::r,hl,h1,h2=>by
  have he:=hl e Zd;have s:=cK m he r;simp only[Yq]at h1 h2;show aO f e::dN f n _=aO f e::dN f k _;rw[jF m n k _ (λx hx=>hl x (Yz.mp hx).1) (by lia) (by lia)]
noncomputable def lf(f:Nat->Nat)(l:List Nat):List (List Nat):=dN f l.length l
theorem EK(f:Nat->Nat):lf f []=[]:=rfl
theorem lW{f:Nat->Nat}{N:Nat}(m:fQ f N){e:Nat}{r:List Nat}(hl:∀x∈e::r,x<N):lf f (e::r)=aO f e::lf f ((e::r).filter λx=>decide (x∉aO f e)):=by
 unfold lf;show aO f e::dN f r.length _=_;rw[jF m r.length _ _ (λx hx=>hl x (Yz.mp hx).1) (cK m (hl e Zd) r) (ZA _)]
noncomputable def cD(f:Nat->Nat)(N:Nat):List (List Nat):=lf f (ZR N)
theorem qA{f:Nat->Nat}{N:Nat}(m:fQ f N):∀(n:Nat) (l:List Nat),l.length<=n->(∀x∈l,x<N)->∀d∈lf f l,∃e∈l,d=aO f e
 |0,l,h,_,d,hd=>by
  have e:l=[]:=Ym.mp (by lia);subst e;cases hd
 |n+1,[],_,_,d,hd=>by cases hd
 |n+1,e::r,h,hl,d,hd=>by
  rw[lW m hl]at hd;rcases Zn.mp hd with rfl | hd
  ·exact⟨e,Zd,rfl⟩
  ·have s:=cK m (hl e Zd) r;simp only[Yq]at h;obtain⟨x,hx,q⟩:=qA m n _ (by lia) (λx hx=>hl x (Yz.mp hx).1) d hd;exact⟨x,(Yz.mp hx).1,q⟩
theorem tR{f:Nat->Nat}{N:Nat}(m:fQ f N):∀(n:Nat) (l:List Nat),l.length<=n->(∀x∈l,x<N)->(lf f l).length<=l.length
 |0,l,h,_=>by
  have e:l=[]:=Ym.mp (by lia);subst e;exact ZA _
 |n+1,[],_,_=>ZA _
 |n+1,e::r,h,hl=>by
  rw[lW m hl];have s:=cK m (hl e Zd) r;simp only[Yq]at h ⊢;have ih:=tR m n _ (Xz s (by lia)) (λx hx=>hl x (Yz.mp hx).1)
  lia
theorem tQ{f:Nat->Nat}{N:Nat}(m:fQ f N):∀(n:Nat) (l:List Nat),l.length<=n->(∀x∈l,x<N)->∀x∈l,∃(k:Nat) (d:List Nat),(lf f l)[k]?=some d/\x∈d/\∀(j:Nat) (d':List Nat),(lf f l)[j]?=some d'->x∈d'->j=k
 |0,l,h,_,x,hx=>by
  have e:l=[]:=Ym.mp (by lia);subst e;cases hx
 |n+1,[],_,_,x,hx=>by cases hx
 |n+1,e::r,h,hl,x,hx=>by
  have he:=hl e Zd;have hxN:=hl x hx;have s:=cK m he r;simp only[Yq]at h;rw[lW m hl];by_cases q:x∈aO f e
  ·refine⟨0,_,rfl,q,λj d' hj hd=>?_⟩;cases j with
   |zero=>rfl
   |succ j =>
    rw[List.getElem?_cons_succ]at hj;obtain⟨y,hy,rfl⟩:=qA m _ _ (ZA _) (λz hz=>hl z (Yz.mp hz).1) d' (Zg hj);obtain⟨hy1,hy2⟩:=Yz.mp hy;have hy2':y∉aO f e:=by simpa using hy2
    exact Yg (gG m he q (nC m (hl y hy1) hd)) hy2'
  ·have hx':x∈(e::r).filter λz=>decide (z∉aO f e):=Yz.mpr ⟨hx,by simpa using q⟩;obtain⟨k,d,h1,h2,h3⟩:=tQ m n _ (by lia) (λz hz=>hl z (Yz.mp hz).1) x hx';refine⟨k+1,d,by rw[List.getElem?_cons_succ];exact h1,h2,λj d' hj hd=>?_⟩;cases j with
   |zero =>
    rw[List.getElem?_cons_zero]at hj;cases hj;exact Yg hd q
   |succ j =>
    rw[List.getElem?_cons_succ]at hj;rw[h3 j d' hj hd]
end MM
set_option Elab.async false
set_option linter.all false
set_option maxRecDepth 100000
set_option maxHeartbeats 4000000
namespace L2
open PySem PySem.Spec PyProof.Rows
abbrev vn(n:Nat):V:=.int (n:Int)
abbrev vns(l:List Nat):List V:=l.map vn
theorem uG(l:List Nat):vns l=(l.map λn:Nat=>(n:Int)).map V.int:=by rw[Yn];rfl
section
variable{X:Cx}
def KC:V->List V->Hp->VK->Prop:=λx vs H Q=>x.gr λl=>∃(ns:List Nat) (v:Nat),vs=[vn v]/\H l=some (.lst (vns ns))/\v∈ns/\Q (vn (ns.idxOf v)) H
theorem lQ:MtM X "list.index" KC:=by
 intro pins s σ H x vs v us Q I rx rv h;obtain⟨l,rfl,z1⟩:=a8 h;obtain⟨ns,k,rfl,hH,hm,q⟩:=z1;cases rx;obtain⟨u,rfl,t,rfl⟩:=rv.one;obtain⟨z,its,n,r,hl,e⟩:=I.lstM hH;have hlen:its.length=ns.length:=by rw[<-hl];simp
 have hj:ns.idxOf k<ns.length:=ZM hm;have item:∀(m:Nat) (hm:m<its.toArray.size),eqU (vn k) its.toArray[m]=(ns[m]'(by simpa[hlen] using hm)==k):=λm hm'=>by
  have hm2:m<ns.length:=by simpa[hlen] using hm'
  have hx:(vns ns)[m]?=some (vn ns[m]):=by rw[Zk,Zz hm2];rfl
  obtain⟨u',hu',ru'⟩:=r.get hx;have e1:its.toArray[m]=u':=by
   have:its[m]?=some its.toArray[m]:=by simp at hm' ⊢
   rw[this]at hu';exact Option.some.inj hu'
  rw[e1,nF ru' rfl];show((ns[m]:Int)==(k:Int))=(ns[m]==k)
  rw[Xd];simp only[beq_iff_eq]
  lia
 have hsm:((ns.idxOf k:Nat):Int)<2 ^ 63-1:=by
  have h1:=fZ;have h2:(vns ns).length=ns.length:=by simp
  lia
 refine call_meets F.slot_list_index ⟨_,e,rfl⟩ F.entry_list_index (F.args_list_index_2 _ _) (SeqAt.list_indexAt l its.toArray n none #[] (.int k t) (eqU (vn k)) (ns.idxOf k) (by simpa[hlen] using hj) hsm ?_ ?_) ⟨e,λy hy=>?_,?_⟩
 ·rw[item];simp
 ·intro m hm' hlt;rw[item];have:=List.not_of_lt_findIdx (p:=(·==k)) (xs:=ns) (i:=m) hlt;simpa using this
 ·have fl:(vns ns).all fL=true:=by rw[ZD];intro y hy;obtain⟨n,_,rfl⟩:=Zh.mp hy;rfl
  exact dR (x:=vn k) ⟨t,rfl⟩ rfl r fl y (by simpa using hy)
 ·exact⟨vn (ns.idxOf k),H,I.tok _,⟨_,rfl⟩,q⟩
def fT{α:Type}(l:List α)(i:Nat)(x:α):List α:=l.take i++x::l.drop i
def GE:V->List V->Hp->VK->Prop:=λx vs H Q=>x.gr λl=>∃(xs:List V) (i:Nat) (y:V),vs=[vn i,y]/\H l=some (.lst xs)/\i<=xs.length/\xs.length<ZW/\Q .non (upd H l (.lst (fT xs i y)))
theorem BF:MtM X "list.insert" GE:=by
 intro pins s σ H x vs v us Q I rx rv h;obtain⟨l,rfl,z1⟩:=a8 h;obtain⟨xs,i,y,rfl,hH,hi,hz,q⟩:=z1;cases rx;obtain⟨u1,u2,rfl,⟨t,rfl⟩,r2⟩:=rv.two;obtain⟨z,its,n,r,hl,e⟩:=I.lstM hH;have hfit:Builtin.List.listFitsIndex (i:Int)=true:=by
  unfold Builtin.List.listFitsIndex;have:=fZ;simp only[Xb,decide_eq_true_eq]
  lia
 have hc0:¬(!Builtin.List.listFitsIndex (i:Int))=true:=by rw[hfit];exact YO
 have hz1:its.toArray.size<=ZW:=by rw[ZE];lia
 obtain⟨w,hw⟩:∃w:Int,w=(i:Int):=⟨_,rfl⟩
 rw[<-hw]at hc0;have mm:=PySem.AutoSeq1.list_insert_list_int_val_1 l its.toArray n w t u2 hc0 hz1;rw[<-hw];refine call_meets F.slot_list_insert ⟨_,e,rfl⟩ F.entry_list_insert (F.args_list_insert_3 _ _ _) mm ⟨e,?_⟩;refine⟨.non,_,I.lset (its':=fT its i u2) (ys:=fT xs i y) (t':=s.toks) hH e ?_ ?_ ?_,rfl,q⟩
 ·have hk:(if w<0 then (w+(its.toArray.size:Int)).toNat else min w.toNat its.toArray.size)=i:=by
   rw[Ya (by lia),ZE]
   lia
  show(its.toArray.extract 0 (if w<0 then (w+(its.toArray.size:Int)).toNat else min w.toNat its.toArray.size)).push u2++its.toArray.extract (if w<0 then (w+(its.toArray.size:Int)).toNat else min w.toNat its.toArray.size)=_;rw[hk];unfold fT;simp;exact List.take_of_length_le (by simp)
 ·unfold fT;exact aV.append (r.take _) (.cons r2 (r.drop _))
 ·unfold fT;rw[Zm,Yq,Yx,Yr]
  lia
theorem oH:∀{xs:List V}{us:List Value},xs.length=us.length->(∀(j:Nat) x u,xs[j]?=some x->us[j]?=some u->RelV x u)->aV xs us
 |[],[],_,_=>.nil
 |x::xs,u::us,hl,h=>.cons (h 0 x u rfl rfl) (oH (by simpa using hl) λj y v h1 h2=>h (j+1) y v (by simpa using h1) (by simpa using h2))
theorem vZ:dE X (.type "range") (λxs H Q=>∃j:Int,xs=[.int j]/\∀p,H p=none->Q (.ref p) (upd H p (.rng 0 j))):=by
 intro pins s σ H xs us Q I r h;obtain⟨j,rfl,q⟩:=h;obtain⟨u,rfl,t,rfl⟩:=vals1 r;refine call_range_1 ?_;refine⟨.ref s.heap.objs.size,_,I.laid (o:=.rng 0 j) (λb o e=>YU _ e) (ZA _) ⟨_,_,_,YS _ rfl⟩,rfl,q _ I.fresh⟩
theorem rH(hc:X.calm=true):dE X (.type "list") (λxs H Q=>∃(p:Addr) (n:Nat),xs=[.ref p]/\H p=some (.rng 0 n)/\n<=10000/\∀l,H l=none->Q (.ref l) (upd H l (.lst (vns (ZR n))))):=by
 intro pins s σ H xs us Q I r h;obtain⟨p,n,rfl,hp,hn,q⟩:=h;obtain⟨u,rfl,rx⟩:=vals1 r;cases rx;obtain⟨t,u,v,e⟩:=(show bI X.prog X.w H s.heap p (.rng 0 n) from I.hok p _ hp)
 have hsz:Builtin.Range.rangeSize 0 (n:Int) 1=n:=by rw[rangeSize_one];split<;>lia
 refine call_list_range (I.ok.hd hc) (show IsRange s.heap p 0 n 1 t u v from e) (small_one (by lia) (by lia) (by lia) (by lia)) hsz (by lia) λh' tk acc c' k e' it=>?_;have hv:aV (vns (ZR n)) acc.toList:=by
  refine oH (by simp[it.1]) λj x u hx hu=>?_;rw[Zk]at hx;obtain⟨m,hm,rfl⟩:=Xx.mp hx;obtain⟨hj,rfl⟩:=Zj.mp hm;obtain⟨t,rfl⟩:=it.2 j u (by simpa using hu);exact⟨t,by simp⟩
 exact⟨.ref s.heap.objs.size,_,I.laid (t':=tk) k (ZA _) (show bI X.prog X.w _ h' _ (.lst (vns (ZR n))) from⟨by simp;exact Xz hn (by decide),acc.toList,c',hv,by rw[e']⟩),rfl,q _ I.fresh⟩
end
def nJ(H:Hp)(a:Addr)(ts:MM.aR):Prop:=∃tr:List Addr,H a=some (.lst (tr.map V.ref))/\tr.length=ts.length/\∀(i:Nat) t,ts[i]?=some t->∃r,tr[i]?=some r/\H r=some (.tup [vn t.1,vn t.2])
def qT(H:Hp)(a:Addr)(os:MM.aT):Prop:=∃rr:List Addr,H a=some (.lst (rr.map V.ref))/\rr.length=os.length/\∀(i:Nat) l,os[i]?=some l->∃r,rr[i]?=some r/\H r=some (.lst (vns l))
theorem aJ.ts{H H':Hp}(g:aJ H H'){a:Addr}{ts:MM.aR}(h:nJ H a ts):nJ H' a ts:=by
 obtain⟨tr,h1,h2,h3⟩:=h;exact⟨tr,g _ _ h1,h2,λi t ht=>by obtain⟨r,q1,q2⟩:=h3 i t ht;exact⟨r,q1,g _ _ q2⟩⟩
theorem aJ.os{H H':Hp}(g:aJ H H'){a:Addr}{os:MM.aT}(h:qT H a os):qT H' a os:=by
 obtain⟨tr,h1,h2,h3⟩:=h;exact⟨tr,g _ _ h1,h2,λi t ht=>by obtain⟨r,q1,q2⟩:=h3 i t ht;exact⟨r,q1,g _ _ q2⟩⟩
theorem nJ.item{H:Hp}{a:Addr}{ts:MM.aR}(h:nJ H a ts){i:Nat}(hi:i<ts.length):∃xs r,H a=some (.lst xs)/\xs.length=ts.length/\atI xs (i:Int)=some (.ref r)/\H r=some (.tup [vn (ts.getD i (0,0)).1,vn (ts.getD i (0,0)).2]):=by
 obtain⟨tr,h1,h2,h3⟩:=h;obtain⟨r,q1,q2⟩:=h3 i ts[i] (Zz hi);refine⟨_,r,h1,by rw[Zq];exact h2,bB (by rw[Zk,q1];rfl),?_⟩;simp only[List.getD,Zz hi,YM];exact q2
theorem qT.item{H:Hp}{a:Addr}{os:MM.aT}(h:qT H a os){i:Nat}(hi:i<os.length):∃xs r,H a=some (.lst xs)/\xs.length=os.length/\atI xs (i:Int)=some (.ref r)/\H r=some (.lst (vns (MM.row os i))):=by
 obtain⟨tr,h1,h2,h3⟩:=h;obtain⟨r,q1,q2⟩:=h3 i os[i] (Zz hi);refine⟨_,r,h1,by rw[Zq];exact h2,bB (by rw[Zk,q1];rfl),?_⟩;unfold MM.row;simp only[List.getD,Zz hi,YM];exact q2
theorem jI{l:List Nat}{j:Nat}(h:j<l.length){k:Int}(hk:k=(j:Int)):atI (vns l) k=some (vn (l.getD j 0)):=by
 subst hk;exact bB (by rw[Zk,Zz h];simp[List.getD,h])
theorem z8{l:List Nat}{x:Nat}(h:x∈l):atI (vns l) ((l.idxOf x:Nat)-1:Int)=some (vn (MM.aY l x)):=by
 have h1:=ZM h;unfold MM.aY;rcases Nat.eq_zero_or_pos (l.idxOf x) with q | q
 ·have e:(l.idxOf x+l.length-1)%l.length=l.length-1:=by rw[q,Nat.zero_add];exact Nat.mod_eq_of_lt (by omega)
  rw[e];unfold atI ixN;rw[Ya (by lia),Yb (by simp;lia)];have e2:((l.idxOf x:Nat)-1+((vns l).length:Int)).toNat=l.length-1:=by simp;omega
  show(vns l)[((l.idxOf x:Nat)-1+((vns l).length:Int)).toNat]?=_;rw[e2,Zk,Zz (by lia)];have:l.length-1<l.length:=by lia
  simp[List.getD,this]
 ·have e:(l.idxOf x+l.length-1)%l.length=l.idxOf x-1:=by
   have:l.idxOf x+l.length-1=(l.idxOf x-1)+l.length:=by lia
   rw[this,Nat.add_mod_right];exact Nat.mod_eq_of_lt (by omega)
  rw[e];exact jI (by omega) (by omega)
end L2
set_option linter.all false
set_option maxRecDepth 100000
set_option maxHeartbeats 4000000
namespace L2
open PySem PySem.Spec PyProof.Rows
theorem FE{J:It}{js:List (Option Nat)}{σ:St}{H1:Hp}{R:Hp->Prop}{D:Addr}{g:TG}{te:TE}(n:Nat)(Pe:Nat->V->Prop)(hD:H1 D=none)(hn:n<=100000)
  (go:∀i H',i<n->aJ H1 H'->J.go i H') (stop:∀H',aJ H1 H'->J.stop n H')
  (hs:∀i H' x H'' (k:V->Hp->Prop),i<n->aJ H1 H'->J.yld i H' x H''->(∀v H4,Pe i v->aJ H' H4->k v H4)->g x (inner js σ) H'' λσ2 H2=>Fills (inner js σ) σ2/\te σ2 H2 k)
  (hd:∀vs H',vs.length=n->(∀(i:Nat) v,vs[i]?=some v->Pe i v)->aJ H1 H'->H' D=some (.lst vs)->R H') :
  ∃W:Nat->Nat->List V->Hp->Prop,(∃m,W 0 m [] (upd H1 D (.lst []))) /\
   ∀i m ys H,W i m ys H->(J.stop i H/\R H)\/(J.go i H/\∃N:List V->Hp->Prop,(∀ys' H',N ys' H'->∃m',m' < m/\W (i+1) m' ys' H')/\∀x H',J.yld i H x H'->g x (inner js σ) H' λσ2 H2=>Fills (inner js σ) σ2/\nN σ2 H2 λb H3 =>
    If b (te σ2 H3 λy H4=>H4 D=some (.lst ys)/\ys.length<ZW/\N (ys++[y]) (upd H4 D (.lst (ys++[y])))) (N ys H3)):=by
 refine comp_map n (λi ys H'=>ys.length=i/\(∀(j:Nat) v,ys[j]?=some v->Pe j v)/\aJ H1 H'/\H' D=some (.lst ys)) ⟨rfl,λj v h=>by simp at h,aC hD _,aA⟩ ?_ ?_
 ·rintro i ys H' hi ⟨hl,hp,g1,hD'⟩;refine⟨go i H' hi g1,λx H'' hy=>hs i H' x H'' _ hi g1 hy λv H4 hv g4=>⟨g4 _ _ hD',?_,?_,?_,?_,aA⟩⟩
  ·rw[hl];exact Xk hi (Xz hn (by decide))
  ·rw[Zm,hl];rfl
  ·intro j v' h;by_cases hj:j<ys.length
   ·rw[Zx hj]at h;exact hp j v' h
   ·rw[Zy (by lia)]at h;have hj2:j-ys.length=0:=by
     have:=(Zj.mp h).1;simp at this;lia
    rw[hj2]at h;simp at h;subst h;have:j=i:=by lia
    subst this;exact hv
  ·exact λb o h=>by rw[aF (aI h hD)];exact g4 _ _ (g1 _ _ h)
 ·rintro ys H' ⟨hl,hp,g1,hD'⟩;exact⟨stop H' g1,hd ys H' hl hp g1 hD'⟩
theorem GD{vs:List V}{n:Nat}{fs:Nat->V}(hl:vs.length=n)(h:∀(i:Nat) v,vs[i]?=some v->v=fs i):vs=(ZR n).map fs:=by
 apply YQ;intro i;by_cases hi:i<n
 ·rw[Zk,Yv hi];obtain⟨v,hv⟩:∃v,vs[i]?=some v:=⟨vs[i],Zz (by lia)⟩
  rw[hv,h i v hv];rfl
 ·rw[Zr (by lia),Zr (by simp;lia)]
theorem bH{J:It}{js:List (Option Nat)}{σ:St}{H1:Hp}{R:Hp->Prop}{D:Addr}{g:TG}{te:TE}(n:Nat)(fs:Nat->V)(hD:H1 D=none)(hn:n<=100000)
  (go:∀i H',i<n->aJ H1 H'->J.go i H') (stop:∀H',aJ H1 H'->J.stop n H')
  (hs:∀i H' x H'' (k:V->Hp->Prop),i<n->aJ H1 H'->J.yld i H' x H''->(∀H4,aJ H' H4->k (fs i) H4)->g x (inner js σ) H'' λσ2 H2=>Fills (inner js σ) σ2/\te σ2 H2 k)
  (hd:∀H',aJ H1 H'->H' D=some (.lst ((ZR n).map fs))->R H') :
  ∃W:Nat->Nat->List V->Hp->Prop,(∃m,W 0 m [] (upd H1 D (.lst []))) /\
   ∀i m ys H,W i m ys H->(J.stop i H/\R H)\/(J.go i H/\∃N:List V->Hp->Prop,(∀ys' H',N ys' H'->∃m',m' < m/\W (i+1) m' ys' H')/\∀x H',J.yld i H x H'->g x (inner js σ) H' λσ2 H2=>Fills (inner js σ) σ2/\nN σ2 H2 λb H3 =>
    If b (te σ2 H3 λy H4=>H4 D=some (.lst ys)/\ys.length<ZW/\N (ys++[y]) (upd H4 D (.lst (ys++[y])))) (N ys H3)) :=
 FE n (λi v=>v=fs i) hD hn go stop (λi H' x H'' k hi g1 hy hk=>hs i H' x H'' k hi g1 hy λH4 g4=>hk _ _ rfl g4)
  λvs H' hl hp g1 e=>hd H' g1 (by rw[e,GD hl hp])
def at0(ls:List Int)(j:Nat):Int:=ls.getD j 0
theorem iW{ls:List Int}{j:Nat}(h:j<ls.length):(ls.map V.int)[j]?=some (.int (at0 ls j)):=by
 unfold at0;rw[Zk,Zz h];simp[List.getD,h]
theorem AA{ls:List Int}{j:Nat}(h:j<ls.length):at0 ls j∈ls:=by
 unfold at0;simp[List.getD,h]
theorem aS{ls:List Int}{j:Nat}(h:j<ls.length){k:Int}(hk:k=(j:Int)):atI (ls.map V.int) k=some (.int (at0 ls j)):=by
 subst hk;exact bB (iW h)
theorem dC{n j:Nat}{k:Int}(h:j<n)(hk:k=(j:Int)):ixN n k=some j:=by
 subst hk;unfold ixN;rw[Yb (by lia),Yb (by lia)];simp
theorem dZ{H:Hp}{a:Addr}{ns:List Int}(h:H a=some (.lst (ns.map V.int))):Bd H (.ref a) (.list (ns.map PyData.int)):=.lst (aB h) (mJ ns)
theorem lY{ds:List PyData}(n:Nat)(h:∀d∈ds,d.canLay0=true/\d.depth<=n):PyData.canLayAll0 ds=true/\PyData.depthAll ds<=n:=by
 induction ds with
 |nil=>exact⟨rfl,YX _⟩
 |cons d ds ih =>
  have h1:=h d Zd;have h2:=ih λx hx=>h x (Zw _ hx);refine⟨by rw[PyData.canLayAll0,h1.1,h2.1];rfl,?_⟩;rw[PyData.depthAll];exact Nat.max_le.mpr ⟨h1.2,h2.2⟩
theorem lay_ints(ns:List Int):PyData.canLayAll0 (ns.map PyData.int)=true/\PyData.depthAll (ns.map PyData.int)<=2:=lY 2 λd hd=>by
 obtain⟨n,_,rfl⟩:=Zh.mp hd;exact⟨rfl,by simp[PyData.depth]⟩
theorem via{tt r:TS}{D:Ends}{σ:St}{H:Hp}(I:St->Hp->Prop)(ht:(∀σ' H',I σ' H'->r D σ' H')->tt { D with nx:=r D } σ H)(hr:∀σ' H',I σ' H'->r D σ' H'):wY tt r D σ H:=ht hr
theorem shaped_ints(ns:List Int):SeqAt.shaped (.list (ns.map PyData.int))=true:=by
 have h:=lay_ints ns;unfold SeqAt.shaped;rw[Xb];refine⟨h.1,Ye ?_⟩;rw[PyData.depth]
 lia
theorem gJ{a:Addr}{xs:List V}{g:TG}{tb:TS}{D:Ends}{σ:St}{H:Hp}(Pv:Nat->St->Hp->Prop)(h0:Pv 0 σ H)(hl:∀i σ H,i<=xs.length->Pv i σ H->SqL H a xs)
  (hs:∀(i:Nat) x σ H T,xs[i]?=some x->Pv i σ H->H T=none->g (.ref T) σ (upd H T (.tup [vn i,x])) λσ2 H2=>tb { D with nx:=Pv (i+1),ct:=Pv (i+1),bk:=D.nx } σ2 H2) (hd:∀σ H,Pv xs.length σ H->D.nx σ H) :
  ∃W:Nat->Nat->St->Hp->Prop,(∃m,W 0 m σ H)/\∀i m σ H,W i m σ H ->
   ((Ite a).stop i H/\D.nx σ H)\/((Ite a).go i H/\∃N:St->Hp->Prop,(∀σ' H',N σ' H'->∃m',m' < m/\W (i+1) m' σ' H')/\∀x H',(Ite a).yld i H x H'->g x σ H' λσ2 H2=>tb { D with nx:=N,ct:=N,bk:=D.nx } σ2 H2):=by
 refine⟨λi m σ H=>m=xs.length-i/\i<=xs.length/\Pv i σ H,⟨xs.length,by simp,YX _,h0⟩,?_⟩;rintro i m σ H ⟨rfl,hi,p⟩;have q:=hl i σ H hi p;by_cases hlt:i<xs.length
 ·refine .inr ⟨⟨xs,xs[i],q,by simp[hlt]⟩,Pv (i+1),λσ' H' p'=>⟨xs.length-(i+1),by omega,rfl,hlt,p'⟩,λx H' y=>?_⟩;obtain⟨T,x',rfl,hT,rfl,y⟩:=y;exact hs i x' σ _ T (y xs q) p hT
 ·have e:i=xs.length:=by lia
  subst e;exact .inl ⟨⟨xs,q,ZA _⟩,hd σ H p⟩
theorem pO(ns:List Int):∀k,k<=ns.length->PySem.preSum (at0 ns) k=(ns.take k).sum
 |0,_=>by simp[PySem.preSum]
 |k+1,h=>by
  rw[PySem.preSum,pO ns k (by lia),List.take_succ,List.sum_append];have hk:k<ns.length:=by lia
  unfold at0;simp[List.getD,hk]
section
variable{X:Cx}{pins:List (Addr×Obj)}{σ:St}{H:Hp}{s:Shared}
theorem gY{p:Addr}{its:List Value}(pl:PlainL s.heap p its.toArray) :
  (s.heap.push { cls:=.type "list_iterator",data:=.fields #[.ref p,.int 0 0] }).IsListIter s.heap.objs.size p 0/\(s.heap.push { cls:=.type "list_iterator",data:=.fields #[.ref p,.int 0 0] }).IsList p its.toArray:=by
 obtain⟨o,n,e,hc,hd,hs⟩:=pl;exact⟨⟨_,YS _ rfl,rfl,rfl⟩,o,YU _ e,hc,n,hs⟩
theorem lE{p:Addr}{its:List Value}(pl:PlainL s.heap p its.toArray):p<s.heap.objs.size:=by
 obtain⟨o,n,e,_⟩:=pl;exact YT e
theorem j3(hc:X.calm=true):dE X (.builtin "sum") (λxs H Q=>∃(p:Addr) (ns:List Int),xs=[.ref p]/\SqL H p (ns.map V.int)/\Q (.int ns.sum) H):=by
 intro pins s σ H xs us Q I r h;obtain⟨p,ns,rfl,hq,q⟩:=h;obtain⟨u,rfl,rx⟩:=vals1 r;cases rx;obtain⟨its,rv,pl,hz⟩:=I.list hq;have hl:=rv.length;rw[Zq]at hl;have hp:=lE pl;refine call_sum_walkG (wpAny_pyIter_list pl.isList ?_);refine⟨s.heap.objs.size,[s.heap.objs.size,p],[s.heap.objs.size],its.toArray.size,_,_,at0 ns,rfl,Walks.list (show X.A.in1.handled=none from I.ok.hd hc) _ p (YZ hp) its.toArray,gY pl,λb hb=>?_,λi v hv=>?_,λh' tk t' hk=>?_⟩
 ·have:=YT (YS s.heap (o:={ cls:=.type "list_iterator",data:=.fields #[.ref p,.int 0 0] }) rfl);simp only[Zn,ZL,or_false]at hb;rcases hb with rfl | rfl
  ·exact this
  ·exact Nat.lt_trans hp this
 ·have hi:its[i]?=some v:=by simpa using hv
  have hi2:i<ns.length:=by rw[hl];exact(Zj.mp hi).1
  obtain⟨u',hu,ru⟩:=rv.get (iW hi2);rw[hi]at hu;cases hu;exact ru
 ·refine⟨.int ns.sum,H,I.kept (h':=h') (t':=tk) λb o e=>?_,⟨t',?_⟩,q⟩
  ·refine hk b o ?_ (YU _ e);simp only[Zn,ZL,or_false];exact YZ (YT e)
  ·rw[ZE,<-hl,pO ns _ (ZA _),Yw]
end
theorem all_range(bs:List Bool):(ZR bs.length).all (λi=>bs.getD i true)=bs.all id:=by
 rw[Xd,ZD,ZD];constructor
 ·intro h b hb;obtain⟨i,hi,rfl⟩:=List.getElem_of_mem hb;have:=h i (by simpa using hi);simpa[List.getD,hi] using this
 ·intro h i hi;have hi':i<bs.length:=by simpa using hi
  have:=h bs[i] (Zp hi');simpa[List.getD,hi'] using this
section
variable{X:Cx}
theorem nI(hc:X.calm=true):dE X (.builtin "all") (λxs H Q=>∃(p:Addr) (bs:List Bool),xs=[.ref p]/\SqL H p (bs.map V.bl)/\Q (.bl (bs.all id)) H):=by
 intro pins s σ H xs us Q I r h;obtain⟨p,bs,rfl,hq,q⟩:=h;obtain⟨u,rfl,rx⟩:=vals1 r;cases rx;obtain⟨its,rv,pl,hz⟩:=I.list hq;have hl:=rv.length;rw[Zq]at hl;have hp:=lE pl;refine call_all_walk (wpAny_pyIter_list pl.isList ?_);refine⟨s.heap.objs.size,[s.heap.objs.size,p],[s.heap.objs.size],its.toArray.size,_,_,λi=>bs.getD i true,rfl,Walks.list (show X.A.in1.handled=none from I.ok.hd hc) _ p (YZ hp) its.toArray,gY pl,λi v s' Q' E' hv hQ=>?_,λh' tk hk=>?_⟩
 ·have hi:its[i]?=some v:=by simpa using hv
  have hi2:i<bs.length:=by rw[hl];exact(Zj.mp hi).1
  obtain⟨u',hu,ru⟩:=rv.get (show(bs.map V.bl)[i]?=some (.bl (bs.getD i true)) by rw[Zk,Zz hi2];simp[List.getD,hi2]);rw[hi]at hu;cases hu;cases ru;exact wpAny_truthy_bool hQ
 ·refine⟨.bl (bs.all id),H,I.kept (h':=h') (t':=tk) λb o e=>?_,?_,q⟩
  ·refine hk b o ?_ (YU _ e);simp only[Zn,ZL,or_false];exact YZ (YT e)
  ·show Value.bool _=Value.bool _;rw[ZE,<-hl,all_range]
end
section
variable{X:Cx}
theorem j4(hc:X.calm=true):dE X (.builtin "min") (λxs H Q=>∃(p:Addr) (ns:List Int),xs=[.ref p]/\SqL H p (ns.map V.int)/\0<ns.length/\∀m:Int,m∈ns->(∀x∈ns,m<=x)->Q (.int m) H):=by
 intro pins s σ H xs us Q I r h;obtain⟨p,ns,rfl,hq,h0,q⟩:=h;obtain⟨u,rfl,rx⟩:=vals1 r;cases rx;obtain⟨its,rv,pl,hz⟩:=I.list hq;have hl:=rv.length;rw[Zq]at hl;have hp:=lE pl;have hv:∀(i:Nat) (v:Value),its.toArray[i]?=some v->∃t,v=Value.int (at0 ns i) t:=λi v hv=>by
  have hi:its[i]?=some v:=by simpa using hv
  have hi2:i<ns.length:=by rw[hl];exact(Zj.mp hi).1
  obtain⟨u',hu,ru⟩:=rv.get (iW hi2);rw[hi]at hu;cases hu;exact ru
 have hb:=argBest_lt (at0 ns) (its.toArray.size-1);refine call_min_walk (wpAny_pyIter_list pl.isList ?_);refine⟨s.heap.objs.size,[s.heap.objs.size,p],[s.heap.objs.size],its.toArray.size,_,_,_,rfl,Walks.list (show X.A.in1.handled=none from I.ok.hd hc) _ p (YZ hp) its.toArray,gY pl,λb hb=>?_,by simp;lia,CmpOf.ints_lt (at0 ns) hv,λv h' tk hP hk=>?_⟩
 ·have:=YT (YS s.heap (o:={ cls:=.type "list_iterator",data:=.fields #[.ref p,.int 0 0] }) rfl);simp only[Zn,ZL,or_false]at hb;rcases hb with rfl | rfl
  ·exact this
  ·exact Nat.lt_trans hp this
 ·obtain⟨t,rfl⟩:=hv _ _ hP;have hsz:its.toArray.size=ns.length:=by simp[hl]
  refine⟨.int _,H,I.kept (h':=h') (t':=tk) λb o e=>?_,⟨t,rfl⟩,q _ (AA (by omega)) λx hx=>?_⟩
  ·refine hk b o ?_ (YU _ e);simp only[Zn,ZL,or_false];exact YZ (YT e)
  ·obtain⟨i,hi,rfl⟩:=List.getElem_of_mem hx;have:=hb.2 i (by lia);have e:at0 ns i=ns[i]:=by unfold at0;simp[List.getD,hi]
   rw[<-e];exact this
theorem nH(hc:X.calm=true):dE X (.builtin "max") (λxs H Q=>∃(p:Addr) (ns:List Int),xs=[.ref p]/\SqL H p (ns.map V.int)/\0<ns.length/\∀m:Int,m∈ns->(∀x∈ns,x<=m)->Q (.int m) H):=by
 intro pins s σ H xs us Q I r h;obtain⟨p,ns,rfl,hq,h0,q⟩:=h;obtain⟨u,rfl,rx⟩:=vals1 r;cases rx;obtain⟨its,rv,pl,hz⟩:=I.list hq;have hl:=rv.length;rw[Zq]at hl;have hp:=lE pl;have hv:∀(i:Nat) (v:Value),its.toArray[i]?=some v->∃t,v=Value.int (at0 ns i) t:=λi v hv=>by
  have hi:its[i]?=some v:=by simpa using hv
  have hi2:i<ns.length:=by rw[hl];exact(Zj.mp hi).1
  obtain⟨u',hu,ru⟩:=rv.get (iW hi2);rw[hi]at hu;cases hu;exact ru
 have hb:=argBest_gt (at0 ns) (its.toArray.size-1);refine call_max_walk (wpAny_pyIter_list pl.isList ?_);refine⟨s.heap.objs.size,[s.heap.objs.size,p],[s.heap.objs.size],its.toArray.size,_,_,_,rfl,Walks.list (show X.A.in1.handled=none from I.ok.hd hc) _ p (YZ hp) its.toArray,gY pl,λb hb=>?_,by simp;lia,CmpOf.ints_gt (at0 ns) hv,λv h' tk hP hk=>?_⟩
 ·have:=YT (YS s.heap (o:={ cls:=.type "list_iterator",data:=.fields #[.ref p,.int 0 0] }) rfl);simp only[Zn,ZL,or_false]at hb;rcases hb with rfl | rfl
  ·exact this
  ·exact Nat.lt_trans hp this
 ·obtain⟨t,rfl⟩:=hv _ _ hP;have hsz:its.toArray.size=ns.length:=by simp[hl]
  refine⟨.int _,H,I.kept (h':=h') (t':=tk) λb o e=>?_,⟨t,rfl⟩,q _ (AA (by omega)) λx hx=>?_⟩
  ·refine hk b o ?_ (YU _ e);simp only[Zn,ZL,or_false];exact YZ (YT e)
  ·obtain⟨i,hi,rfl⟩:=List.getElem_of_mem hx;have:=hb.2 i (by lia);have e:at0 ns i=ns[i]:=by unfold at0;simp[List.getD,hi]
   rw[<-e];exact this
end
section
variable{X:Cx}
theorem mD:dE X (.builtin "sorted") (λxs H Q=>∃p ns,xs=[.ref p]/\SqL H p (ns.map V.int)/\ns.length<64/\∀(l:Addr) (ns':List Int),H l=none->ns'.Perm ns->ns'.Pairwise (·<=·)->Q (.ref l) (upd H l (.lst (ns'.map V.int)))):=by
 intro pins s σ H xs us Q I r h;obtain⟨p,ns,rfl,hq,h64,q⟩:=h;obtain⟨u,rfl,rx⟩:=vals1 r;cases rx;obtain⟨its,r',pl,hz⟩:=I.list hq;have hlen:=r'.length;rw[Zq]at hlen;refine sorted_ints (ns:=ns) (vs:=its) pl.isList (intsAre_of r') (by lia) λout ns' a1 a2 a3=>?_;obtain⟨e,he⟩:=sortedAll_at s.heap its out;have rv:=mP a1;refine⟨.ref (s.heap.objs.size+1),_,I.laid (t':=s.toks) (λ_ _=>sortedAll_old) (Nat.le_succ _) (show bI X.prog X.w _ _ _ (.lst (ns'.map V.int)) from⟨?_,out.toList,e,rv,he⟩),rfl,q _ ns' (I.hok.fresh (Nat.le_succ _)) a2 a3⟩;rw[Zq,a2.length_eq];exact Xz (by lia:ns.length<=64) (by decide)
end
section
variable{κ:Type}[DecidableEq κ]
def bJ(kvs:List (κ×V))(k:κ):Option V:=(kvs.find? λkv=>decide (kv.1=k)).map (·.2)
def putK(kvs:List (κ×V))(k:κ)(v:V):List (κ×V) :=
 if (kvs.any λkv=>decide (kv.1=k))=true then kvs.map (λkv=>if kv.1=k then (kv.1,v) else kv) else kvs++[(k,v)]
theorem cF{p:κ×V}{r:List (κ×V)}{k:κ}(e:p.1=k):bJ (p::r) k=some p.2:=by simp[bJ,List.find?_cons,e]
theorem cG{p:κ×V}{r:List (κ×V)}{k:κ}(e:¬p.1=k):bJ (p::r) k=bJ r k:=by simp[bJ,List.find?_cons,e]
theorem kY(k:κ):∀kvs:List (κ×V),(kvs.any λkv=>decide (kv.1=k))=(bJ kvs k).isSome
 |[]=>rfl
 |p::r=>by
  rw[List.any_cons];by_cases e:p.1=k
  ·simp only[cF e,Ye e,Bool.true_or,Option.isSome_some]
  ·rw[cG e,Yc e,Bool.false_or];exact kY k r
theorem uI(k j:κ)(y:V):∀kvs:List (κ×V),bJ (kvs.map λkv=>if kv.1=k then (kv.1,y) else kv) j=(bJ kvs j).map λx=>if j=k then y else x
 |[]=>rfl
 |p::r=>by
  have ih:=uI k j y r;rw[ZI];by_cases h:p.1=k
  ·rw[Yb h];by_cases e:p.1=j
   ·rw[cF (p:=(p.1,y)) e,cF e,Option.map_some,Yb (e.symm.trans h)]
   ·rw[cG (p:=(p.1,y)) e,cG e,ih]
  ·rw[Ya h];by_cases e:p.1=j
   ·rw[cF (p:=p) e,cF e,Option.map_some,Ya (λz=>h (e.trans z))]
   ·rw[cG (p:=p) e,cG e,ih]
theorem rN(k j:κ)(y:V):∀kvs:List (κ×V),bJ kvs k=none->bJ (kvs++[(k,y)]) j=if j=k then some y else bJ kvs j
 |[],_=>by
  by_cases e:k=j
  ·rw[Yb e.symm];exact cF (p:=(k,y)) e
  ·rw[Ya (λz=>e z.symm)];exact cG (p:=(k,y)) e
 |p::r,hn=>by
  rw[List.cons_append];have hk:¬p.1=k:=λz=>by rw[cF z]at hn;cases hn
  rw[cG hk]at hn;have ih:=rN k j y r hn;by_cases e:p.1=j
  ·rw[cF e,cF e,Ya (λz=>hk (e.trans z))]
  ·rw[cG e,cG e,ih]
theorem cE(kvs:List (κ×V))(k j:κ)(y:V):bJ (putK kvs k y) j=if j=k then some y else bJ kvs j:=by
 unfold putK;by_cases a:(kvs.any λkv=>decide (kv.1=k))=true
 ·rw[Yb a,uI];rw[kY]at a;by_cases e:j=k
  ·obtain⟨x,hx⟩:=Option.isSome_iff_exists.mp a;rw[Yb e,e,hx,Option.map_some,Yb rfl]
  ·rw[Ya e];cases bJ kvs j with
   |none=>rfl
   |some x=>rw[Option.map_some,Ya e]
 ·rw[Ya a];refine rN k j y kvs ?_;rw[kY]at a;cases q:bJ kvs k with
  |none=>rfl
  |some x=>rw[q]at a;exact(a rfl).elim
theorem aX(kvs:List (κ×V))(k:κ)(v:V):(putK kvs k v).length<=kvs.length+1:=by
 unfold putK;split
 ·rw[Zq];lia
 ·rw[Zm,Yq,List.length_nil];lia
theorem uB.isSome_eq{o:Option V}{u:Option Value}(r:uB o u):o.isSome=u.isSome:=by
 cases o with
 |none=>cases u with
  |none=>rfl
  |some _=>exact(show False from r).elim
 |some _=>cases u with
  |none=>exact(show False from r).elim
  |some _=>rfl
theorem uB.getD{o:Option V}{u:Option Value}{d:V}{d':Value}(r:uB o u)(rd:RelV d d'):RelV (o.getD d) (u.getD d'):=by
 cases o with
 |none=>cases u with
  |none=>exact rd
  |some _=>exact(show False from r).elim
 |some _=>cases u with
  |none=>exact(show False from r).elim
  |some _=>exact r
theorem KV.val{kvs:List (κ×V)}{vs:List (κ×Value)}(r:KV kvs vs)(k:κ):uB (bJ kvs k) (valueAt vs k):=by
 unfold KV at r;induction r with
 |nil=>exact True.intro
 |@cons p q ps qs h t ih =>
  obtain⟨h1,h2⟩:=h;by_cases e:p.1=k
  ·have e':q.1=k:=h1.symm.trans e;have b:valueAt (q::qs) k=some q.2:=by simp[valueAt,List.find?_cons,e']
   rw[cF e,b];exact h2
  ·have e':¬q.1=k:=λz=>e (h1.trans z);have b:valueAt (q::qs) k=valueAt qs k:=by simp[valueAt,List.find?_cons,e']
   rw[cG e,b];exact ih
theorem KV.any{kvs:List (κ×V)}{vs:List (κ×Value)}(r:KV kvs vs)(k:κ):(kvs.any λkv=>decide (kv.1=k))=vs.any λkv=>decide (kv.1=k):=by
 unfold KV at r;induction r with
 |nil=>rfl
 |cons h t ih=>rw[List.any_cons,List.any_cons,ih,h.1]
theorem KV.repl{kvs:List (κ×V)}{vs:List (κ×Value)}(r:KV kvs vs)(k:κ){y:V}{u:Value}(ry:RelV y u) :
  KV (kvs.map λkv=>if kv.1=k then (kv.1,y) else kv) (vs.map λkv=>if kv.1=k then (kv.1,u) else kv):=by
 unfold KV at r ⊢;induction r with
 |nil=>exact .nil
 |@cons p q ps qs h t ih =>
  rw[ZI,ZI];refine .cons ?_ ih;obtain⟨h1,h2⟩:=h;by_cases e:p.1=k
  ·rw[Yb e,Yb (h1.symm.trans e)];exact⟨h1,ry⟩
  ·rw[Ya e,Ya (λz=>e (h1.trans z))];exact⟨h1,h2⟩
theorem KV.put{kvs:List (κ×V)}{vs:List (κ×Value)}(r:KV kvs vs)(k:κ){y:V}{u:Value}(ry:RelV y u):KV (putK kvs k y) (stored vs k u):=by
 unfold putK stored;rw[r.any k];by_cases e:(vs.any λkv=>decide (kv.1=k))=true
 ·rw[Yb e,Yb e];exact r.repl k ry
 ·rw[Ya e,Ya e];exact Paired.snoc r ⟨rfl,ry⟩
theorem KV.length{kvs:List (κ×V)}{vs:List (κ×Value)}(r:KV kvs vs):kvs.length=vs.length:=Paired.length r
end
theorem qC{P:Program}{w:World}{k:Key}{u:Value}(r:RelV (kV k) u):(bT P w).is k u=true:=by
 cases k with
 |inl i=>obtain⟨t,e⟩:=(show ∃t,u=Value.int i t from r);subst e;exact vA P w i t
 |inr x=>obtain⟨t,e⟩:=(show ∃t,u=Value.str x t from r);subst e;exact u9 P w x t
theorem sG{P:Program}{w:World}:∀{ks:List Key}{us:List Value},aV (ks.map kV) us->ItemsAre (bT P w) ks us
 |[],_,r=>by rw[List.map_nil]at r;cases r;exact .nil
 |k::ks,_,r=>by
  rw[ZI]at r;cases r with
  |cons h t=>exact .cons (qC h) (sG t)
abbrev KT(H:Hp):List (List Key×V)->List (List Key×Addr×Value)->Prop:=Paired λp q=>p.1=q.1/\H q.2.1=some (.tup (p.1.map kV))/\RelV p.2 q.2.2
theorem KT.val{H:Hp}{kvs:List (List Key×V)}{xs:List (List Key×Addr×Value)}(r:KT H kvs xs)(k:List Key):uB (bJ kvs k) ((atKey xs k).map (·.2)):=by
 induction r with
 |nil=>exact True.intro
 |@cons p q ps qs h t ih =>
  obtain⟨h1,_,h2⟩:=h;by_cases e:p.1=k
  ·have e':q.1=k:=h1.symm.trans e;have b:atKey (q::qs) k=some q.2:=by simp[atKey,List.find?_cons,e']
   rw[cF e,b];exact h2
  ·have e':¬q.1=k:=λz=>e (h1.trans z);have b:atKey (q::qs) k=atKey qs k:=by simp[atKey,List.find?_cons,e']
   rw[cG e,b];exact ih
theorem KT.repl{H:Hp}{kvs:List (List Key×V)}{xs:List (List Key×Addr×Value)}(r:KT H kvs xs)(k:List Key){y:V}{u:Value}(ry:RelV y u) :
  KT H (kvs.map λkv=>if kv.1=k then (kv.1,y) else kv) (xs.map (putAt k u)):=by
 induction r with
 |nil=>exact .nil
 |@cons p q ps qs h t ih =>
  rw[ZI,ZI];refine .cons ?_ ih;obtain⟨h1,h2,h3⟩:=h;unfold putAt;by_cases e:p.1=k
  ·rw[Yb e,Yb (h1.symm.trans e)];exact⟨h1,h2,ry⟩
  ·rw[Ya e,Ya (λz=>e (h1.trans z))];exact⟨h1,h2,h3⟩
theorem KT.put{H:Hp}{kvs:List (List Key×V)}{xs:List (List Key×Addr×Value)}(r:KT H kvs xs)(k:List Key){b:Addr}{y:V}{u:Value}(hb:H b=some (.tup (k.map kV)))(ry:RelV y u) :
  KT H (putK kvs k y) (storedH xs k b u):=by
 have e:(kvs.any λkv=>decide (kv.1=k))=(atKey xs k).isSome:=by
  rw[kY,(r.val k).isSome_eq,Option.isSome_map]
 unfold putK storedH;rw[e];by_cases q:(atKey xs k).isSome=true
 ·rw[Yb q,Yb q];exact r.repl k ry
 ·rw[Ya q,Ya q];exact Paired.snoc r ⟨rfl,hb,ry⟩
theorem KT.keeps{H H':Hp}{kvs:List (List Key×V)}{xs:List (List Key×Addr×Value)}(r:KT H kvs xs)(ht:∀b ys,H b=some (.tup ys)->H' b=some (.tup ys)):KT H' kvs xs :=
 jK r λ_ _ z=>⟨z.1,ht _ _ z.2.1,z.2.2⟩
section
variable{P:Program}{w:World}{H:Hp}{h:Heap}{a:Addr}
theorem IP{u:HO}(ok:HOk P w H h)(e:Rd H a u):bI P w H h a u:=e.ok ok
theorem qI{kvs:List (Key×V)}(ok:HOk P w H h)(e:Rd H a (.dK kvs)):kvs.length<=ZW/\(a==sysModules)=false/\∃vs,KV kvs vs/\h.DictOf (bT P w) a vs :=
 show bI P w H h a (.dK kvs) from IP ok e
theorem JB{kvs:List (Key×V)}(ok:HOk P w H h)(e:H a=some (.dK kvs)):kvs.length<=ZW/\(a==sysModules)=false/\∃vs,KV kvs vs/\h.DictOf (bT P w) a vs:=qI ok (.inl e)
theorem nE{ks:List Key}(ok:HOk P w H h)(e:H a=some (.tup (ks.map kV))):(tupleKind (bT P w)).is h ks a:=by
 obtain⟨_,its,r,o,h1,h2,n,h3⟩:=(show bI P w H h a (.tup (ks.map kV)) from ok a _ e)
 exact⟨o,its.toArray,n,h1,h2,h3,by simpa using sG r⟩
theorem j9{kvs:List (List Key×V)}(ok:HOk P w H h)(e:Rd H a (.dT kvs)):kvs.length<=ZW/\(a==sysModules)=false /\
  ∃xs,KT H kvs xs/\h.DictOfH (tupleKind (bT P w)) a xs:=by
 obtain⟨z,y,xs,r,o,es,ep,h1,h2,h3,h4,h5⟩:=(show bI P w H h a (.dT kvs) from IP ok e)
 refine⟨z,y,xs,r,o,es,ep,h1,h2,h3,h4,λx hx=>?_,h5⟩;have all:∀{l:List (List Key×V)}{m:List (List Key×Addr×Value)},KT H l m->∀x∈m,(tupleKind (bT P w)).is h x.1 x.2.1:=by
  intro l m q;induction q with
  |nil=>intro x hx;exact nomatch hx
  |@cons p q ps qs hq t ih =>
   intro x hx;rcases Zn.mp hx with e | hx
   ·subst e;exact nE ok (by rw[<-hq.1];exact hq.2.1)
   ·exact ih x hx
 exact all r x hx
theorem E6{kvs:List (List Key×V)}(ok:HOk P w H h)(e:H a=some (.dT kvs)):kvs.length<=ZW/\(a==sysModules)=false /\
  ∃xs,KT H kvs xs/\h.DictOfH (tupleKind (bT P w)) a xs:=j9 ok (.inl e)
end
def eX(H:Hp)(a:Addr)(y:V)(r:Option V):Prop :=
 (∃kvs k,Rd H a (.dK kvs)/\y=kV k/\r=bJ kvs k)\/∃kvs k b,Rd H a (.dT kvs)/\y=.ref b/\H b=some (.tup (k.map kV))/\r=bJ kvs k
def j6(H:Hp)(a:Addr)(y v:V)(H':Hp):Prop :=
 (∃kvs k,H a=some (.dK kvs)/\y=kV k/\kvs.length<ZW/\H'=upd H a (.dK (putK kvs k v))) \/
 ∃kvs k b,H a=some (.dT kvs)/\y=.ref b/\H b=some (.tup (k.map kV))/\kvs.length<ZW/\H'=upd H a (.dT (putK kvs k v))
theorem eX.k{H:Hp}{a:Addr}{kvs:List (Key×V)}{k:Key}(e:H a=some (.dK kvs)):eX H a (kV k) (bJ kvs k):=.inl ⟨kvs,k,.inl e,rfl,rfl⟩
theorem eX.t{H:Hp}{a b:Addr}{kvs:List (List Key×V)}{k:List Key}(e:H a=some (.dT kvs))(eb:H b=some (.tup (k.map kV))):eX H a (.ref b) (bJ kvs k):=.inr ⟨kvs,k,b,.inl e,rfl,eb,rfl⟩
theorem j6.k{H:Hp}{a:Addr}{kvs:List (Key×V)}{k:Key}{v:V}(e:H a=some (.dK kvs))(hl:kvs.length<ZW):j6 H a (kV k) v (upd H a (.dK (putK kvs k v))):=.inl ⟨kvs,k,e,rfl,hl,rfl⟩
theorem j6.t{H:Hp}{a b:Addr}{kvs:List (List Key×V)}{k:List Key}{v:V}(e:H a=some (.dT kvs))(eb:H b=some (.tup (k.map kV)))(hl:kvs.length<ZW) :
  j6 H a (.ref b) v (upd H a (.dT (putK kvs k v))):=.inr ⟨kvs,k,b,e,rfl,eb,hl,rfl⟩
section
variable{X:Cx}{pins:List (Addr×Obj)}{σ:St}{H:Hp}{s:Shared}{a:Addr}{y v:V}{u r:Value}{o:Option V}{A:Around}{E:Value->Shared->Prop}
theorem Inv.big(I:Inv X pins σ H s):sysModules<s.heap.objs.size:=by
 have h:ZV<s.heap.objs.size:=(I.mod.glob.keeps I.bk).lt;exact Nat.lt_trans (by decide) h
theorem BV{Q:Value->Shared->Prop}(hu:A.units+1<cLine)(I:Inv X pins σ H s)(g:eX H a y (some v))(ry:RelV y u)(h:∀w' s',Inv X pins σ H s'->RelV v w'->Q w' s') :
  wpAny (model X.prog X.w) A (getItem (.ref a) u) Q E s:=by
 rcases g with⟨kvs,k,e,ey,l⟩ | ⟨kvs,k,b,e,ey,eb,l⟩
 ·subst ey;obtain⟨z,hd,vs,rel,dd⟩:=qI I.hok e;obtain⟨w',hw,rw'⟩:=mI (v:=v) (o:=valueAt vs k) (by rw[l];exact rel.val k);exact wpAny_getItem_of (qC ry) dd.mapOf hw (h w' _ (I.tok _) rw')
 ·subst ey;cases (show u=Value.ref b from ry);obtain⟨z,hd,xs,rel,dd⟩:=j9 I.hok e;obtain⟨w',hw,rw'⟩:=mI (v:=v) (o:=(atKey xs k).map (·.2)) (by rw[l];exact rel.val k);obtain⟨p,hp,hp2⟩:=Xx.mp hw;refine wpAny_getItem_heap (tupleKind_room_in1 hu) (nE I.hok eb) dd hp ?_;rw[hp2];exact h w' _ (I.tok _) rw'
theorem PU{Q:Value->Shared->Prop}(hu:A.units+1<cLine)(I:Inv X pins σ H s)(g:eX H a y o)(ry:RelV y u)(h:∀s',Inv X pins σ H s'->Q (.bool o.isSome) s') :
  wpAny (model X.prog X.w) A (compareOp .In u (.ref a)) Q E s:=by
 rcases g with⟨kvs,k,e,ey,l⟩ | ⟨kvs,k,b,e,ey,eb,l⟩
 ·subst ey;obtain⟨z,hd,vs,rel,dd⟩:=qI I.hok e;refine wpAny_in_of (qC ry) hd dd.mapOf ?_;rw[<-(rel.val k).isSome_eq,<-l];exact h _ (I.tok _)
 ·subst ey;cases (show u=Value.ref b from ry);obtain⟨z,hd,xs,rel,dd⟩:=j9 I.hok e;refine wpAny_in_heap (tupleKind_room_in1 hu) (nE I.hok eb) hd dd ?_;have q:=(rel.val k).isSome_eq;rw[Option.isSome_map]at q;rw[<-q,<-l];exact h _ (I.tok _)
theorem HS{Q:Value->Shared->Prop}(hu:A.units+1<cLine)(I:Inv X pins σ H s)(g:eX H a y o)(ry:RelV y u)(h:∀s',Inv X pins σ H s'->Q (.bool (!o.isSome)) s') :
  wpAny (model X.prog X.w) A (compareOp .NotIn u (.ref a)) Q E s:=by
 rcases g with⟨kvs,k,e,ey,l⟩ | ⟨kvs,k,b,e,ey,eb,l⟩
 ·subst ey;obtain⟨z,hd,vs,rel,dd⟩:=qI I.hok e;refine wpAny_notIn_of (qC ry) hd dd.mapOf ?_;rw[<-(rel.val k).isSome_eq,<-l];exact h _ (I.tok _)
 ·subst ey;cases (show u=Value.ref b from ry);obtain⟨z,hd,xs,rel,dd⟩:=j9 I.hok e;refine wpAny_notIn_heap (tupleKind_room_in1 hu) (nE I.hok eb) hd dd ?_;have q:=(rel.val k).isSome_eq;rw[Option.isSome_map]at q;rw[<-q,<-l];exact h _ (I.tok _)
theorem tY{h':Heap}{t':Nat}{ob:HO}(I:Inv X pins σ H s)(mu:Mut (H a))(hs:Heap.SameBut a s.heap h')(he:∃q,h'.get? a=some q)(new:bI X.prog X.w (upd H a ob) h' a ob) :
  Inv X pins σ (upd H a ob) { s with heap:=h',toks:=t' } :=
 I.write (x:=a) (e:=a) mu (.inl rfl) (λb q hb z=>(hs.2 b hb).trans z) he new
theorem E8{P:Program}{w:World}{H':Hp}{h':Heap}{kvs:List (Key×V)}{vs:List (Key×Value)}(z:kvs.length<=ZW)(hd:(a==sysModules)=false)(rel:KV kvs vs)(dd:h'.DictOf (bT P w) a vs) :
  bI P w H' h' a (.dK kvs):=⟨z,hd,vs,rel,dd⟩
theorem BU{H':Hp}{Q:Unit->Shared->Prop}(hu:A.units+1<cLine)(I:Inv X pins σ H s)(g:j6 H a y v H')(ry:RelV y u)(rv:RelV v r)(h:∀s',Inv X pins σ H' s'->Q () s') :
  wpAny (model X.prog X.w) A (setItem (.ref a) u r) Q E s:=by
 rcases g with⟨kvs,k,e,ey,l,eH⟩ | ⟨kvs,k,b,e,ey,eb,l,eH⟩
 ·subst ey eH;obtain⟨z,hd,vs,rel,dd⟩:=JB I.hok e;have hz:vs.length<=ZW:=by rw[<-rel.length];exact z
  have hl:(putK kvs k v).length<=ZW:=by have:=aX kvs k v;lia
  refine wpAny_setItem_pairs (hsz:=hz) (qC ry) dd λh' dd' hs=>h _ ?_;have he:∃q,h'.get? a=some q:=let⟨q,_,_,hq,_⟩:=dd';⟨q,hq⟩;exact tY I (by rw[e];exact True.intro) hs he (E8 hl hd (rel.put k rv) dd')
 ·subst ey eH;cases (show u=Value.ref b from ry);obtain⟨z,hd,xs,rel,dd⟩:=E6 I.hok e;have hz:xs.length<=ZW:=by rw[<-Paired.length rel];exact z
  have hl:(putK kvs k v).length<=ZW:=by have:=aX kvs k v;lia
  refine wpAny_setItem_heap (hsz:=hz) (tupleKind_room_in1 hu) (nE I.hok eb) dd λh' dd' hs=>h _ ?_;obtain⟨q,es,ep,hq,h2,h3,h4,_,h5⟩:=dd';refine tY I (by rw[e];exact True.intro) hs ⟨q,hq⟩ ⟨hl,hd,_,(rel.put k eb rv).keeps λc ys ec=>?_,q,es,ep,hq,h2,h3,h4,h5⟩;rw[aF (pW ec e (λz=>nomatch z))];exact ec
end
section
variable{X:Cx}{pins:List (Addr×Obj)}{σ:St}{H:Hp}{s:Shared}{a:Addr}{kvs:List (Key×V)}{k:Key}{u:Value}{A:Around}{E:Value->Shared->Prop}
end
def OE(i:Expr):Prop:=∀ov iv,subscripted i false ov iv=operate [ov,iv] (getItem ov iv)
theorem F4{prog:Program}{w:World}{A:Around}{E:Value->Shared->Prop}{s:Shared}{env:Env}{value slice:Expr}{pos:Pos}{T id:String}{Q:Value->Shared->Prop}
  (hl:typeLookup (.type T) "__getitem__" = pure (some (.builtin id))) (hs:OE slice)
  (h:wpAny (model prog w) A (eval value env) (λo s₁=>wpAny (model prog w) A (eval slice env) (λi s₂=>s₂.TypeIs o T/\wpAny (model prog w) A (getItem o i) Q E s₂) E s₁) E s) :
  wpAny (model prog w) A (eval (.Subscript value slice pos) env) Q E s:=by
 refine Subscript_ (ZX h (λo s₁ h₁=>ZX h₁ (λi s₂ h₂=>?_) λ_ _ x=>x) λ_ _ x=>x);obtain⟨hT,h₂⟩:=h₂;unfold subscriptTail;refine ZZ ?_;rw[getitemInPython_of_ne hT.not_modules];refine ZZ (wpAny_specialOf hT hl ?_);have fin:wpAny (model prog w) A (subscripted slice false o i) (λr s₃=>wpAny (model prog w) A (letTemporaryGo value o r >>= λ_=>pure r) Q E s₃) E s₂:=by
  rw[hs o i];exact wpAny_operating (ZX h₂ (λr s₃ h₃=>ZZ (wpAny_letTemporaryGo (ZY h₃))) λ_ _ x=>x)
 first
  |exact ZY (ZZ fin)
  |exact ZZ (ZY (ZZ fin))
  |exact ZZ fin
theorem vT{X:Cx}{pins:List (Addr×Obj)}{σ:St}{H:Hp}{s:Shared}{a:Addr}{y:V}{o:Option V}(I:Inv X pins σ H s)(g:eX H a y o):s.TypeIs (.ref a) "dict":=by
 rcases g with⟨kvs,k,e,_,_⟩ | ⟨kvs,k,b,e,_,_,_⟩
 ·obtain⟨_,_,vs,_,dd⟩:=qI I.hok e;exact dd.typeIs
 ·obtain⟨_,_,xs,_,dd⟩:=j9 I.hok e;exact dd.typeIs
def MW(td ty:TE):TE:=λσ H Q=>td σ H λx H1=>ty σ H1 λy H2=>x.gr λa=>∃v,eX H2 a y (some v)/\Q v H2
def OO(ty td:TE):TE:=λσ H Q=>ty σ H λy H1=>td σ H1 λx H2=>x.gr λa=>∃o,eX H2 a y o/\Q (.bl o.isSome) H2
def F2(ty td:TE):TE:=λσ H Q=>ty σ H λy H1=>td σ H1 λx H2=>x.gr λa=>∃o,eX H2 a y o/\Q (.bl (!o.isSome)) H2
def NH(td ty tv:TE):TS:=λD σ H=>tv σ H λv H1=>td σ H1 λx H2=>ty σ H2 λy H3=>x.gr λa=>∃H4,j6 H3 a y v H4/\D.nx σ H4
section
variable{X:Cx}{o i e value:Expr}{pos pos' tpos:Pos}{td ty tv:TE}
theorem lJ(hu:X.A.units+1<cLine)(ho:PE X o td)(hi:PE X i ty)(hs:OE i):PE X (.Subscript o i pos) (MW td ty):=by
 intro pins s σ H Q I h;refine F4 PySem.F.slot_dict_getitem.lookup hs (bY (ho pins s σ H _ I h) λu s1 x H1 I1 rx q1=>bY (hi pins s1 σ H1 _ I1 q1) λiv s2 y H2 I2 ry zz=>?_);obtain⟨a,ex,v,g,q2⟩:=a8 zz;subst ex;obtain rfl:u=Value.ref a:=rx;exact⟨vT I2 g,BV hu I2 g ry λw' s3 I3 rw'=>⟨v,H2,I3,rw',q2⟩⟩
theorem xR(hu:X.A.units+1<cLine)(hi:PE X i ty)(ho:PE X o td):PC X .In i o (OO ty td):=by
 intro pins s σ H Q I h;refine bY (hi pins s σ H _ I h) λiv s1 y H1 I1 ry q1=>bY (ho pins s1 σ H1 _ I1 q1) λu s2 x H2 I2 rx zz=>?_;obtain⟨a,ex,ov,g,q2⟩:=a8 zz;subst ex;obtain rfl:u=Value.ref a:=rx;exact PU hu I2 g ry λs3 I3=>⟨.bl ov.isSome,H2,I3,rfl,q2⟩
theorem rY(hu:X.A.units+1<cLine)(hi:PE X i ty)(ho:PE X o td):PC X .NotIn i o (F2 ty td):=by
 intro pins s σ H Q I h;refine bY (hi pins s σ H _ I h) λiv s1 y H1 I1 ry q1=>bY (ho pins s1 σ H1 _ I1 q1) λu s2 x H2 I2 rx zz=>?_;obtain⟨a,ex,ov,g,q2⟩:=a8 zz;subst ex;obtain rfl:u=Value.ref a:=rx;exact HS hu I2 g ry λs3 I3=>⟨.bl (!ov.isSome),H2,I3,rfl,q2⟩
theorem jQ(hu:X.A.units+1<cLine)(ho:PE X o td)(hi:PE X i ty)(hv:PE X value tv)(hs:swapsWith value (some (.Subscript o i pos')) pos.line X.env=pure false) :
  PS X (.Assign [.Subscript o i pos'] value pos) (NH td ty tv):=by
 intro pins s σ H D I h;refine wpAny_Assign_Subscript (bY (hv pins s σ H _ I h) λr s1 v H1 I1 rv q1=>bY (ho pins s1 σ H1 _ I1 q1) λu s2 x H2 I2 rx q2=>bY (hi pins s2 σ H2 _ I2 q2) λiv s3 y H3 I3 ry zz=>?_) hs;obtain⟨a,ex,H4,g,q3⟩:=a8 zz;subst ex;obtain rfl:u=Value.ref a:=rx;exact BU hu I3 g ry rv λs4 I4=>⟨σ,H4,I4,q3⟩
end
theorem E9{P:Program}{w:World}{H:Hp}(h:Heap)(hb:sysModules<h.objs.size):bI P w H (h.push { cls:=.type "dict",data:=.dict #[] }) h.objs.size (.dK []) :=
 ⟨YX _,beq_eq_false_iff_ne.mpr (Yh (YZ hb)),[],.nil,Heap.DictOf.new h⟩
theorem E7{P:Program}{w:World}{H:Hp}(h:Heap)(hb:sysModules<h.objs.size):bI P w H (h.push { cls:=.type "dict",data:=.dict #[] }) h.objs.size (.dT []) :=
 ⟨YX _,beq_eq_false_iff_ne.mpr (Yh (YZ hb)),[],.nil,_,#[],0,YS _ rfl,⟨rfl,rfl,rfl⟩,rfl,rfl,List.nodup_nil⟩
def JT:TE:=λ_ H Q=>∀p,H p=none->Q (.ref p) (upd H p (.dT []))
section
variable{X:Cx}{pos:Pos}
theorem lH:PE X (.Dict [] [] pos) JT:=λpins s σ H Q I h =>
 wpAny_Dict_empty ⟨.ref s.heap.objs.size,_,I.laid (a:=s.heap.objs.size) (o:=.dT []) (t':=s.toks) (λ_ _ q=>YU _ q) (ZA _) (E7 s.heap I.big),rfl,h _ (I.hok.fresh (ZA _))⟩
end
theorem mV(its:List Value):∀k,k<=its.length->((ZR k).map λj:Nat=>(((its.length:Int)-1)+-1*(j:Int)).toNat).filterMap (its.toArray[·]?)=its.reverse.take k
 |0,_=>by simp
 |k+1,h=>by
  have e:(((its.length:Int)-1)+-1*(k:Int)).toNat=its.length-1-k:=by lia
  have hk:its.length-1-k<its.length:=by omega
  rw[ZH,Zt,List.filterMap_append,mV its k (by lia),List.take_add_one,List.getElem?_reverse (by lia)];congr 1;simp only[ZI,List.map_nil,e];rw[Zz hk];simp[hk]
theorem qY(its:List Value):slicePick its.toArray none none (some (-1))=its.reverse.toArray:=by
 have hb:sliceBounds none none (some (-1)) its.toArray.size=((its.length:Int)-1,-1,-1):=by
  simp only[sliceBounds,YM,ZE,show ¬((-1:Int)>0) by decide,if_false]
 have hs:sliceRange ((its.length:Int)-1) (-1) (-1)=(ZR its.length).map λj:Nat=>(((its.length:Int)-1)+-1*(j:Int)).toNat:=by
  unfold sliceRange;simp only[show ¬((-1:Int)>0) by decide,if_false];have e:(if (its.length:Int)-1 > -1 then ((its.length:Int)-1 - -1 - -1-1) / - -1 else 0)=(its.length:Int):=by
   split
   ·have:((its.length:Int)-1 - -1 - -1-1)=(its.length:Int):=by lia
    rw[this,show(- -1:Int)=1 by decide,Int.ediv_one]
   ·lia
  rw[e,Int.toNat_natCast]
 unfold slicePick;rw[hb];show((sliceRange ((its.length:Int)-1) (-1) (-1)).filterMap (its.toArray[·]?)).toArray=_;rw[hs,mV its _ (ZA _),List.take_of_length_le (by simp)]
theorem pE(its:List Value):slicePick its.toArray none (some 0) (some (-1))=(its.drop 1).reverse.toArray:=by
 have hb:sliceBounds none (some 0) (some (-1)) its.toArray.size=((its.length:Int)-1,max (-1) (min 0 ((its.length:Int)-1)),-1):=by
  simp only[sliceBounds,YM,ZE,show ¬((-1:Int)>0) by decide,if_false,show ¬((0:Int)<0) by decide]
 have hs:sliceRange ((its.length:Int)-1) (max (-1) (min 0 ((its.length:Int)-1))) (-1)=(ZR (its.length-1)).map λj:Nat=>(((its.length:Int)-1)+-1*(j:Int)).toNat:=by
  unfold sliceRange;simp only[show ¬((-1:Int)>0) by decide,if_false];have e:(if (its.length:Int)-1>max (-1) (min 0 ((its.length:Int)-1)) then ((its.length:Int)-1-max (-1) (min 0 ((its.length:Int)-1)) - -1-1) / - -1 else 0)=((its.length-1:Nat):Int):=by
   rw[show(- -1:Int)=1 by decide];split
   ·rw[Int.ediv_one];lia
   ·omega
  rw[e,Int.toNat_natCast]
 unfold slicePick;rw[hb];show((sliceRange ((its.length:Int)-1) (max (-1) (min 0 ((its.length:Int)-1))) (-1)).filterMap (its.toArray[·]?)).toArray=_;rw[hs,mV its _ (by omega),List.reverse_drop]
section
variable{X:Cx}{e ste:Expr}{te:TE}{lo hi:Option Expr}{tl th tk:TO}{pos p2:Pos}
def O2:V->Option Int->Option Int->Option Int->Hp->VK->Prop:=λx lo hi st H Q=>x.gr λa=>∃xs k,SqL H a xs/\lo=none/\st=some (-1)/\((hi=none/\k=0)\/(hi=some 0/\k=1))/\∀p,H p=none->Q (.ref p) (upd H p (.lst (xs.drop k).reverse))
def OK(te:TE)(tl th tk:TO):TE:=λσ H Q=>te σ H λx H1=>tl σ H1 λl H2=>th σ H2 λu H3=>tk σ H3 λk H4=>O2 x l u k H4 Q
theorem A6(he:PE X e te)(hl:PO X lo tl)(hu:PO X hi th)(hk:PO X (some ste) tk):PE X (.Subscript e (.Slice lo hi (some ste) p2) pos) (OK te tl th tk):=by
 intro pins s σ H Q I h;refine Subscript_ (bY (he pins s σ H _ I h) λv s1 x H1 I1 r1 q1=>?_);refine wpAny_Slice (thn (hl pins s1 σ H1 _ I1 q1) λvl s2 ⟨l,H2,I2,pl,q2⟩=>thn (hu pins s2 σ H2 _ I2 q2) λvu s3 ⟨u,H3,I3,pu,q3⟩=>thn (hk pins s3 σ H3 _ I3 q3) λvk s4 ⟨k,H4,I4,pk,q4⟩=>?_);have I5:Inv X pins σ H4 { s4 with heap:=s4.heap.push { cls:=.type "slice",data:=.fields #[vl,vu,vk] } }:=I4.kept (t':=s4.toks) λb ob q=>YU _ q;obtain⟨a,rfl,z1⟩:=a8 q4;obtain⟨xs,n,hx,rfl,rfl,hh,q⟩:=z1;cases r1;obtain⟨its,r,ht,hz⟩:=I5.list hx;have hlen:=r.length;show wpAny (model X.prog X.w) X.A (subscriptTail e (.Slice lo hi (some ste) p2) (.ref a) (.ref s4.heap.objs.size)) (EP X pins σ Q) X.xe { s4 with heap:=s4.heap.push { cls:=.type "slice",data:=.fields #[vl,vu,vk] } };refine tail_any (ops:=[.ref a,.ref s4.heap.objs.size]) ht.isList.typeIs slot_list_getitem.lookup (wpAny_getItem_list_slice ht.isList (Heap.IsSliceOf.new ..) pl pu pk (by simp) ?_ (by rw[ZE]<;>lia)) (by with_unfolding_all rfl);have eq:slicePick its.toArray none u (some (-1))=((its.drop n).reverse).toArray:=by
  rcases hh with⟨rfl,rfl⟩ | ⟨rfl,rfl⟩
  ·rw[qY,List.drop_zero]
  ·exact pE its
 rw[eq];refine⟨.ref _,_,I5.laid (o:=.lst (xs.drop n).reverse) (λb ob q=>YU _ q) (ZA _) ?_,rfl,q _ (I5.hok.fresh (ZA _))⟩;exact⟨by rw[Xq,Yr];omega,_,0,(r.drop n).reverse,YS _ rfl⟩
end
theorem oJ{α:Type}(d:List Nat)(F:Nat->α):(ZR d.length).map (λi=>F (d.getD i 0))=d.map F:=by
 apply YQ;intro i;by_cases h:i<d.length
 ·rw[Zk,Zk,Yv h,Zz h];simp[List.getD,h]
 ·rw[Zr (by simp;lia),Zr (by simp;lia)]
end L2
namespace L2
open PySem PyProof.Rows
theorem mO{l:List Nat}{i:Nat}{x:V}(h:(vns l)[i]?=some x):i<l.length/\x=vn (l.getD i 0):=by
 rw[Zk]at h;obtain⟨y,h1,h2⟩:=Xx.mp h;obtain⟨hi,rfl⟩:=Zj.mp h1;exact⟨hi,by rw[<-h2];simp[List.getD,hi]⟩
theorem tE{rs:List Addr}{i:Nat}{x:V}(h:(rs.map V.ref)[i]?=some x):∃r,rs[i]?=some r/\x=.ref r:=by
 rw[Zk]at h;obtain⟨r,h1,h2⟩:=Xx.mp h;exact⟨r,h1,h2.symm⟩
end L2
namespace PySem
set_option maxRecDepth 100000
namespace F
end F
section
variable{prog:Program}{w:World}{A:Around}{E:Value->Shared->Prop}{s:Shared}
end
section
variable{prog:Program}{w:World}{A:Around}{s:Shared}
end
section
variable{prog:Program}{w:World}{A:Around}{E:Value->Shared->Prop}{s:Shared}
end
end PySem
namespace L2
open PySem PySem.Spec PyProof.Rows
section
variable{X:Cx}{e:Expr}{te:TE}{p p2 pos pos2:Pos}
end
section
variable{X:Cx}{K:PySem.W.Frag}{e ste:Expr}{te:TE}{lo hi:Option Expr}{tl th tk:TO}{p p2 pos pos2:Pos}
end
end L2
namespace SO
open PySem PyProof PyProof.Rows
structure Kept(k:SortKind)(z:Array Keyed)(t:SortSt):Prop where
 kd:kindOf t=k
 pm:(arrOf t).Perm z
 nf:failedOf t=none
 np:pendingOf t=#[]
def rk(ρ:Keyed->Int)(xs:Array Keyed)(i:Nat):Int:=(xs[i]?.map ρ).getD 0
def Up(ρ:Keyed->Int)(xs:Array Keyed)(m:Nat):Prop:=∀i j,i<=j->j<m->rk ρ xs i<=rk ρ xs j
def Dn(ρ:Keyed->Int)(xs:Array Keyed)(m:Nat):Prop:=∀i j,i<=j->j<m->rk ρ xs j<=rk ρ xs i
theorem uQ{ρ:Keyed->Int}{xs ys:Array Keyed}{i j:Nat}(e:xs[i]?=ys[j]?):rk ρ xs i=rk ρ ys j:=by
 simp only[rk,e]
theorem rT{ρ:Keyed->Int}{xs:Array Keyed}{a d:Nat}(ha:a<xs.size)(hd:d<=a)(i:Nat) :
  rk ρ (bubble xs a d) i=if i=a-d then rk ρ xs a else if a-d<i/\i<=a then rk ρ xs (i-1) else rk ρ xs i:=by
 have e:=getElem?_bubble ha d hd i;split
 ·next q=>rw[Yb q]at e;exact uQ e
 ·next q =>
  rw[Ya q]at e;split
  ·next q2=>rw[Yb q2]at e;exact uQ e
  ·next q2=>rw[Ya q2]at e;exact uQ e
theorem mT{ρ:Keyed->Int}{xs:Array Keyed}{a b:Nat}(hb:b<=xs.size)(i:Nat) :
  rk ρ (mirror xs a b ((b-a) / 2)) i=if a<=i/\i<b then rk ρ xs (a+b-1-i) else rk ρ xs i:=by
 have e:=getElem?_mirror_all (i:=a) hb i;split
 ·next q=>rw[Yb q]at e;exact uQ e
 ·next q=>rw[Ya q]at e;exact uQ e
theorem pH{ρ:Keyed->Int}{xs:Array Keyed}{a b:Nat}(hb:b<=xs.size)
  (h:∀i,a<=i->i<b->rk ρ xs i=rk ρ xs (b-1)) (i:Nat):rk ρ (mirror xs a b ((b-a) / 2)) i=rk ρ xs i:=by
 rw[mT hb];by_cases q:a<=i/\i<b
 ·rw[Yb q];have h1:=h (a+b-1-i) (by omega) (by omega);have h2:=h i q.1 q.2
  lia
 ·rw[Ya q]
def Tells(M:Model)(A:Around)(E:Value->Shared->Prop)(s:Shared)(k:SortKind)(z:Array Keyed)(ρ:Keyed->Int):Prop :=
 ∀(p q:Keyed) (t:SortSt) (Q:Option Bool->SortSt->Prop),p∈z.toList->q∈z.toList->kindOf t=k ->
  Q (some (decide (ρ p<ρ q))) t->wpS M A E s (lt' p q) Q t
section
variable{M:Model}{A:Around}{E:Value->Shared->Prop}{s:Shared}{k:SortKind}{z:Array Keyed}{ρ:Keyed->Int}
theorem Kept.len{t:SortSt}(h:Kept k z t):(arrOf t).size=z.size:=h.pm.size_eq
theorem Kept.put{t:SortSt}(h:Kept k z t){xs:Array Keyed}(q:xs.Perm (arrOf t)):Kept k z (setArr t xs) :=
 ⟨h.kd,q.trans h.pm,h.nf,h.np⟩
theorem Kept.nth{t:SortSt}(h:Kept k z t){i:Nat}(hi:i<z.size) :
  ∃p,(arrOf t)[i]?=some p/\p∈z.toList/\rk ρ (arrOf t) i=ρ p:=by
 have hi':i<(arrOf t).size:=by rw[h.len];exact hi
 have e:(arrOf t)[i]?=some (arrOf t)[i]:=getElem?_pos _ i hi';refine⟨_,e,(Array.perm_iff_toList_perm.mp h.pm).mem_iff.mp (by simp),?_⟩;simp[rk,e]
theorem less(T:Tells M A E s k z ρ){t:SortSt}(h:Kept k z t){i j:Nat}(hi:i<z.size)(hj:j<z.size){Q:Option Bool->SortSt->Prop}
  (q:Q (some (decide (rk ρ (arrOf t) i<rk ρ (arrOf t) j))) t):wpS M A E s (ltAt' i j) Q t:=by
 obtain⟨a,ea,ma,ra⟩:=h.nth (ρ:=ρ) hi;obtain⟨b,eb,mb,rb⟩:=h.nth (ρ:=ρ) hj;rw[ra,rb]at q;rw[ltAt'_eq];refine wpS_bind (wpS_get ?_);have e1:elem' (arrOf t) i=pure a:=by rw[elem'_eq,ea]
 have e2:elem' (arrOf t) j=pure b:=by rw[elem'_eq,eb]
 show wpS M A E s (elem' (arrOf t) i >>= λu=>elem' (arrOf t) j >>= λv=>lt' u v) Q t;rw[e1,e2];exact wpS_bind (wpS_pure (wpS_bind (wpS_pure (T a b t Q ma mb h.kd q))))
def Slot(ρ:Keyed->Int)(xs:Array Keyed)(m l r:Nat):Prop :=
 l<=r/\r<=m/\(∀i,i<l->rk ρ xs i<=rk ρ xs m)/\(∀i,r<=i->i<m->rk ρ xs m<rk ρ xs i)
theorem Up.slotted{xs:Array Keyed}{m l:Nat}(hm:m<xs.size)(hu:Up ρ xs m)(h:Slot ρ xs m l l):Up ρ (bubble xs m (m-l)) (m+1):=by
 obtain⟨_,h2,h3,h4⟩:=h;intro i j hij hj;have el:m-(m-l)=l:=by lia
 rw[rT hm (by lia),rT hm (by lia),el];by_cases c1:i<l
 ·rw[Ya (by lia),Ya (by lia)];by_cases c2:j=l
  ·rw[Yb c2];exact h3 i c1
  ·rw[Ya c2];by_cases c3:l<j/\j<=m
   ·rw[Yb c3];exact hu _ _ (by lia) (by omega)
   ·rw[Ya c3];exact hu _ _ hij (by lia)
 ·by_cases c2:j=l
  ·have:i=l:=by lia
   rw[Yb c2,Yb this];exact Int.le_refl _
  ·rw[Ya c2,Yb (show l<j/\j<=m by lia)];by_cases c3:i=l
   ·rw[Yb c3];exact Int.le_of_lt (h4 _ (by lia) (by lia))
   ·rw[Ya c3,Yb (by lia)];exact hu _ _ (by omega) (by lia)
theorem ET(T:Tells M A E s k z ρ){t:SortSt}{n d:Nat}(hn:n<=z.size)(hd:d<=n)(hK:Kept k z t)(hu:Up ρ (arrOf t) d)
  {Q:Bool->SortSt->Prop}(q:∀t',Kept k z t'->Up ρ (arrOf t') n->Q true t'):wpS M A E s (binarySort' 0 n d) Q t:=by
 rw[binarySort'_eq];simp only[Nat.zero_add];refine wpS_bind (wpS_mono (wpS_forRange (Q:=λc t'=>c=(none,())/\Kept k z t'/\Up ρ (arrOf t') n)
  (λm c t'=>c=(none,())/\Kept k z t'/\Up ρ (arrOf t') (min m n)) ?_ ?_ ?_) λc t' h=>by obtain⟨rfl,a,b⟩:=h;exact wpS_pure (q t' a b))
 ·rintro m c t' h1 h2 ⟨rfl,hK',hu'⟩;rw[Nat.min_eq_left (by lia)]at hu';have hm:m<z.size:=by lia
  have hm':m<(arrOf t').size:=by rw[hK'.len];exact hm
  refine wpS_bind (wpS_mono (wpS_forRange (Q:=λc t2=>t2=t'/\∃l,c=(none,l,l)/\Slot ρ (arrOf t') m l l)
   (λx c t2=>t2=t'/\∃l r,c=(none,l,r)/\r-l<=m-x/\Slot ρ (arrOf t') m l r) ?_ ?_ ?_) ?_)
  ·rintro x c t2 _ hx ⟨rfl,l,r,rfl,hs,hS⟩;dsimp only;obtain⟨s1,s2,s3,s4⟩:=hS;by_cases hlr:l>=r
   ·rw[Yb hlr];exact wpS_pure ⟨rfl,l,by rw[show r=l by lia],ZA _,by lia,s3,λi a b=>s4 i (by lia) b⟩
   ·rw[Ya hlr];refine wpS_bind (less T hK' hm (show(l+r) / 2<z.size by lia) ?_);by_cases hc:rk ρ (arrOf t2) m<rk ρ (arrOf t2) ((l+r) / 2)
    ·rw[Ye hc];simp only[if_true];refine wpS_pure ⟨rfl,l,(l+r) / 2,rfl,by omega,by lia,by lia,s3,λi a b=>?_⟩;exact Int.lt_of_lt_of_le hc (hu' _ _ a b)
    ·rw[Yc hc];simp only[YN,if_false];refine wpS_pure ⟨rfl,(l+r) / 2+1,r,rfl,by omega,by lia,by lia,λi a=>?_,s4⟩;have:=hu' i ((l+r) / 2) (by lia) (by lia)
     lia
  ·rintro c t2 ⟨rfl,l,r,rfl,hs,hS⟩;have e:r=l:=by have:=hS.1;lia
   subst e;exact⟨rfl,_,rfl,hS⟩
  ·exact⟨rfl,0,m,rfl,by lia,by lia,by lia,λi a=>by lia,λi a b=>by lia⟩
  ·rintro c t2 ⟨rfl,l,rfl,hS⟩;dsimp only;rw[moveDown'_eq];refine wpS_bind (wpS_modify (wpS_pure ⟨rfl,hK'.put (bubble_perm _ _ _),?_⟩));rw[Nat.min_eq_left (by lia)];exact hu'.slotted hm' hS
 ·rintro c t' ⟨e,hK',hu'⟩;refine⟨e,hK',?_⟩
  rwa [show min (max (max d 1) n) n=n by lia]at hu'
 ·refine⟨rfl,hK,λi j hij hj=>?_⟩;by_cases hd0:d=0
  ·rw[show i=j by lia];exact Int.le_refl _
  ·exact hu i j hij (by lia)
end
section
variable{prog:Program}{w:World}{A:Around}{E:Value->Shared->Prop}{s:Shared}{k:SortKind}{z:Array Keyed}{ρ:Keyed->Int}
theorem Up.one(xs:Array Keyed){m:Nat}(h:m<=1):Up ρ xs m:=λi j a b=>by
 rw[show i=j by lia];exact Int.le_refl _
theorem Up.more{xs:Array Keyed}{m:Nat}(hu:Up ρ xs m)(h:¬rk ρ xs m<rk ρ xs (m-1)):Up ρ xs (m+1):=by
 intro i j a b;by_cases c:j<m
 ·exact hu i j a c
 ·rw[show j=m by lia];by_cases c2:i=m
  ·rw[c2];exact Int.le_refl _
  ·have:=hu i (m-1) (by lia) (by lia);lia
theorem Dn.more{xs:Array Keyed}{m:Nat}(hu:Dn ρ xs m)(h:rk ρ xs m<=rk ρ xs (m-1)):Dn ρ xs (m+1):=by
 intro i j a b;by_cases c:j<m
 ·exact hu i j a c
 ·rw[show j=m by lia];by_cases c2:i=m
  ·rw[c2];exact Int.le_refl _
  ·have:=hu i (m-1) (by lia) (by lia);lia
theorem Dn.same{xs ys:Array Keyed}{m:Nat}(hu:Dn ρ xs m)(h:∀i,rk ρ ys i=rk ρ xs i):Dn ρ ys m:=λi j a b=>by
 rw[h,h];exact hu i j a b
theorem Dn.turned{xs:Array Keyed}{m:Nat}(hm:m<=xs.size)(hu:Dn ρ xs m):Up ρ (mirror xs 0 m ((m-0) / 2)) m:=λi j a b=>by
 rw[mT hm,mT hm,Yb (by lia),Yb (by lia)];exact hu _ _ (by omega) (by omega)
theorem rising(T:Tells (model prog w) A E s k z ρ){t:SortSt}{a n:Nat}(hn:n<=z.size)(h1:1<=a)(h2:a<=n)(hK:Kept k z t)(hu:Up ρ (arrOf t) a)
  {Q:AscSt->SortSt->Prop}
  (q:∀m,a<=m->m<=n->Up ρ (arrOf t) m->(m=n\/rk ρ (arrOf t) m<rk ρ (arrOf t) (m-1))->Q (none,m) t) :
  wpS (model prog w) A E s (ascLoop a n) Q t:=by
 unfold ascLoop;refine wpS_forRange (λx c t'=>c=(none,x)/\t'=t/\Up ρ (arrOf t) x) ?_ ?_ ⟨rfl,rfl,hu⟩
 ·rintro x c t' g1 g2 ⟨rfl,rfl,hx⟩;dsimp only;refine wpS_bind (less T hK (show x<z.size by lia) (show x-1<z.size by lia) ?_);by_cases c:rk ρ (arrOf t') x<rk ρ (arrOf t') (x-1)
  ·rw[Ye c];simp only[if_true];exact wpS_pure (q x g1 (by lia) hx (Or.inr c))
  ·rw[Yc c];simp only[YN,if_false];exact wpS_pure ⟨rfl,rfl,hx.more c⟩
 ·rintro c t' ⟨rfl,rfl,hx⟩;have e:max a n=n:=by lia
  rw[e]at hx ⊢;exact q n h2 (ZA _) hx (Or.inl rfl)
def Flat(ρ:Keyed->Int)(xs:Array Keyed)(m e:Nat):Prop:=e+1<=m/\∀i,m-(e+1)<=i->i<m->rk ρ xs i=rk ρ xs (m-1)
theorem jL(xs:Array Keyed){m:Nat}(h:1<=m):Flat ρ xs m 0:=⟨h,λi a b=>by rw[show i=m-1 by lia]⟩
theorem Flat.more{xs:Array Keyed}{m e:Nat}(h:Flat ρ xs m e)(g:rk ρ xs m=rk ρ xs (m-1)):Flat ρ xs (m+1) (e+1) :=
 ⟨by have:=h.1;lia,λi a b=>by
  rw[show m+1-1=m by lia];by_cases c:i=m
  ·rw[c]
  ·rw[g];exact h.2 i (by lia) (by lia)⟩
theorem back(T:Tells (model prog w) A E s k z ρ){t:SortSt}{m n:Nat}(hn:n<=z.size)(h1:1<=m)(h2:m<=n)(hK:Kept k z t)(hd:Dn ρ (arrOf t) m)
  {Q:Option Nat->SortSt->Prop}(q:∀m' t',1<=m'->m'<=n->Kept k z t'->Up ρ (arrOf t') m'->Q (some m') t') :
  wpS (model prog w) A E s (tail3 m n) Q t:=by
 unfold tail3;have hs:m<=(arrOf t).size:=by rw[hK.len];lia
 refine wpS_bind (wpS_reverse ?_);have hK':=hK.put (mirror_perm (arrOf t) 0 m ((m-0) / 2));refine wpS_bind (rising T hn h1 h2 hK' (hd.turned hs) λm' g1 g2 g3 _=>?_);exact wpS_pure (q m' _ (by lia) g2 hK' g3)
theorem HM(T:Tells (model prog w) A E s k z ρ){t:SortSt}{m n:Nat}(hn:n<=z.size)(h1:1<=m)(h2:m<=n)(hK:Kept k z t)(hd:Dn ρ (arrOf t) m)
  {Q:DescSt->SortSt->Prop}
  (q:∀m' e t',1<=m'->m'<=n->Kept k z t'->Dn ρ (arrOf t') m'->Flat ρ (arrOf t') m' e->Q (none,m',e) t') :
  wpS (model prog w) A E s (descLoop m n) Q t:=by
 unfold descLoop;refine wpS_forRange (λx c t'=>∃e,c=(none,x,e)/\Kept k z t'/\Dn ρ (arrOf t') x/\Flat ρ (arrOf t') x e) ?_ ?_ ⟨0,rfl,hK,hd,jL _ h1⟩
 ·rintro x c t' g1 g2 ⟨e,rfl,hK',hx,hF⟩;dsimp only;have hs:x<=(arrOf t').size:=by rw[hK'.len];lia
  refine wpS_bind (less T hK' (show x<z.size by lia) (show x-1<z.size by lia) ?_);by_cases c:rk ρ (arrOf t') x<rk ρ (arrOf t') (x-1)
  ·rw[Ye c];simp only[if_true];have hm:=hx.more (Int.le_of_lt c);by_cases c2:e>0
   ·rw[Yb c2];refine wpS_bind (wpS_reverse (wpS_pure ⟨0,rfl,hK'.put (mirror_perm _ _ _ _),hm.same (pH hs hF.2),jL _ (by lia)⟩))
   ·rw[Ya c2];exact wpS_pure ⟨0,rfl,hK',hm,jL _ (by lia)⟩
  ·rw[Yc c];simp only[YN,if_false];refine wpS_bind (less T hK' (show x-1<z.size by lia) (show x<z.size by lia) ?_);by_cases c2:rk ρ (arrOf t') (x-1)<rk ρ (arrOf t') x
   ·rw[Ye c2];simp only[if_true];exact wpS_pure (q x e t' (by lia) (by lia) hK' hx hF)
   ·rw[Yc c2];simp only[YN,if_false];have e2:rk ρ (arrOf t') x=rk ρ (arrOf t') (x-1):=by lia
    exact wpS_pure ⟨e+1,rfl,hK',hx.more (by lia),hF.more e2⟩
 ·rintro c t' ⟨e,rfl,hK',hx,hF⟩;have e2:max m n=n:=by lia
  rw[e2]at hx hF ⊢;exact q n e t' (by lia) (ZA _) hK' hx hF
theorem E5(T:Tells (model prog w) A E s k z ρ){t:SortSt}{m n:Nat}(hn:n<=z.size)(h2:m+1<=n)(hK:Kept k z t)(hd:Dn ρ (arrOf t) (m+1))
  {Q:Option Nat->SortSt->Prop}(q:∀m' t',1<=m'->m'<=n->Kept k z t'->Up ρ (arrOf t') m'->Q (some m') t') :
  wpS (model prog w) A E s (descPart m n) Q t:=by
 unfold descPart;refine wpS_bind (wpS_lift (wpAny_rule ⟨rfl,?_⟩));refine wpS_bind (HM T hn (by lia) h2 hK hd λm' e t' g1 g2 g3 g4 g5=>?_);dsimp only;have hs:m'<=(arrOf t').size:=by rw[g3.len];lia
 by_cases c:e>0
 ·rw[Yb c];exact wpS_bind (wpS_reverse (back T hn g1 g2 (g3.put (mirror_perm _ _ _ _)) (g4.same (pH hs g5.2)) q))
 ·rw[Ya c];exact back T hn g1 g2 g3 g4 q
theorem run(T:Tells (model prog w) A E s k z ρ){t:SortSt}{n:Nat}(hn:n<=z.size)(h1:1<=n)(hK:Kept k z t)
  {Q:Option Nat->SortSt->Prop}(q:∀m' t',1<=m'->m'<=n->Kept k z t'->Up ρ (arrOf t') m'->Q (some m') t') :
  wpS (model prog w) A E s (countRun' 0 n) Q t:=by
 rw[countRun0_eq];refine wpS_bind (rising T hn (ZA 1) h1 hK (Up.one _ (ZA 1)) λm g1 g2 g3 g4=>?_);dsimp only;by_cases c:m=n
 ·rw[Yb (by simpa using c)];exact wpS_pure (q m t g1 g2 hK g3)
 rw[Ya (by simpa using c)];have lt:=g4.resolve_left c;have hs:m<=(arrOf t).size:=by rw[hK.len];lia
 by_cases c2:m>1
 ·rw[Yb c2];refine wpS_bind (less T hK (show 0<z.size by lia) (show m-1<z.size by lia) ?_);by_cases c3:rk ρ (arrOf t) 0<rk ρ (arrOf t) (m-1)
  ·rw[Ye c3];simp only[if_true];exact wpS_pure (q m t g1 g2 hK g3)
  ·rw[Yc c3];simp only[YN,if_false];have lev:∀i,0<=i->i<m->rk ρ (arrOf t) i=rk ρ (arrOf t) (m-1):=λi _ b=>by
    have a1:=g3 0 i (by lia) b;have a2:=g3 i (m-1) (by lia) (by lia)
    lia
   have hd:Dn ρ (arrOf t) m:=λi j a b=>by
    rw[lev i (by lia) (by lia),lev j (by lia) b];exact Int.le_refl _
   exact wpS_bind (wpS_reverse (E5 T hn (by lia) (hK.put (mirror_perm _ _ _ _)) ((hd.more (Int.le_of_lt lt)).same (pH hs lev)) q))
 ·rw[Ya c2];have e:m=1:=by lia
  have hd:Dn ρ (arrOf t) m:=λi j a b=>by rw[show i=j by lia];exact Int.le_refl _
  exact E5 T hn (by lia) hK (hd.more (Int.le_of_lt lt)) q
end
section
variable{prog:Program}{w:World}{A:Around}{E:Value->Shared->Prop}{s:Shared}{k:SortKind}{z:Array Keyed}{ρ:Keyed->Int}
def FS(ρ:Keyed->Int)(z:Array Keyed)(t:SortSt):Prop :=
 (arrOf t).Perm z/\Up ρ (arrOf t) z.size/\failedOf t=none/\(pendingOf t).size<=1
theorem Kept.ended{t:SortSt}(h:Kept k z t)(hu:Up ρ (arrOf t) z.size)(x:Nat×Nat×Nat):FS ρ z (setPending t ((pendingOf t).push x)):=by
 refine⟨h.pm,hu,h.nf,?_⟩;show((pendingOf t).push x).size<=1;rw[h.np];exact ZA 1
theorem ordered(T:Tells (model prog w) A E s k z ρ){t:SortSt}(h2:2<=z.size)(h64:z.size<64)(hK:Kept k z t)
  {Q:Unit->SortSt->Prop}(q:∀t',(arrOf t').Perm z->failedOf t'=none->Up ρ (arrOf t') z.size->Q () t') :
  wpS (model prog w) A E s sortRuns' Q t:=by
 have least:minRun' z.size z.size 0=z.size:=by
  cases e:z.size with
  |zero=>lia
  |succ f=>rw[e]at h64;rw[minRun'_succ,Yb h64]
 rw[sortRuns'_eq];refine wpS_bind (wpS_get ?_);dsimp only;simp only[hK.len,least];refine wpS_bind (wpS_mono (wpS_forRange (Q:=λc t'=>c=(none,z.size)/\FS ρ z t')
  (λx c t'=>(x=0/\c=(none,0)/\Kept k z t')\/(0<x/\c=(none,z.size)/\FS ρ z t')) ?_ ?_ ?_) ?_)
 ·rintro x c t' _ hx (⟨rfl,rfl,hK'⟩ | ⟨g,rfl,hE⟩)
  ·dsimp only;rw[Ya (by lia)];simp only[YY,Nat.min_self,Nat.zero_add];refine wpS_bind (run T (ZA _) (by lia) hK' λm t2 g1 g2 g3 g4=>?_);dsimp only;by_cases c:m<z.size
   ·rw[Yb c];refine wpS_bind (wpS_lift (wpAny_rule ⟨rfl,?_⟩));refine wpS_bind (ET T (ZA _) g2 g3 g4 λt3 g5 g6=>?_);simp only[Bool.not_true,YN,if_false];refine wpS_bind (wpS_get ?_);have e:(pendingOf t3).back?=none:=by rw[g5.np];rfl
    rw[e];exact wpS_bind (wpS_modify (wpS_pure (Or.inr ⟨by lia,rfl,g5.ended g6 _⟩)))
   ·rw[Ya c];have e1:m=z.size:=by lia
    subst e1;refine wpS_bind (wpS_get ?_);have e:(pendingOf t2).back?=none:=by rw[g3.np];rfl
    rw[e];exact wpS_bind (wpS_modify (wpS_pure (Or.inr ⟨by lia,rfl,g3.ended g4 _⟩)))
  ·dsimp only;rw[Yb (ZA _)];exact wpS_pure ⟨rfl,hE⟩
 ·rintro c t' (⟨g,_,_⟩ | ⟨_,e,hE⟩)
  ·lia
  ·exact⟨e,hE⟩
 ·exact Or.inl ⟨rfl,rfl,hK⟩
 ·rintro c t' ⟨rfl,hE⟩;dsimp only;refine wpS_bind (wpS_mono (wpS_forRange (Q:=λc t2=>c=(none,())/\t2=t') (λ_ c t2=>c=(none,())/\t2=t') ?_ (λ_ _ h=>h) ⟨rfl,rfl⟩) ?_)
  ·rintro x c t2 _ _ ⟨rfl,rfl⟩;refine wpS_bind (wpS_get ?_);rw[Yb hE.2.2.2];exact wpS_pure ⟨rfl,rfl⟩
  ·rintro c t2 ⟨rfl,rfl⟩;exact wpS_pure (q _ hE.1 hE.2.2.1 hE.2.1)
def n9(h:Heap)(a:Addr)(vs:List Value):Heap :=
 ((h.update a (Obj.mapSeq λ_=>#[])).push (seqObj "tuple" vs.toArray 0)).push (seqObj "list" #[] 0)
abbrev cC(vs:List Value):Array Keyed:=vs.toArray.zip vs.toArray
theorem fG(vs:List Value):(cC vs).size=vs.length:=by simp[cC]
theorem A0{a:Addr}{vs:List Value}{n:Nat}{P:Fin->Shared->Prop}(ho:s.heap.get? a=some (seqObj "list" vs.toArray n))(h64:vs.length<64)
  (hk:2<=vs.length->∀{Q:SortKind->Shared->Prop},Q k { s with heap:=n9 s.heap a vs }->wpAny (model prog w) A (keyKind' vs.toArray) Q E { s with heap:=n9 s.heap a vs })
  (T:Tells (model prog w) A (λ_ _=>False) { s with heap:=n9 s.heap a vs } k (cC vs) ρ)
  (h:∀xs:Array Keyed,xs.Perm (cC vs)->Up ρ xs vs.length->P (.done (.ret .none)) { s with heap:=sortedHeap s.heap a vs (xs.map (·.2)) }) :
  wpAny (model prog w) A (Builtin.«list.sort» ⟨[.ref a],[]⟩) P E s:=by
 have ha:a<s.heap.objs.size:=YT ho;obtain⟨n1,ho1⟩:∃n1,(s.heap.update a (Obj.mapSeq λ_=>#[])).get? a=some (seqObj "list" #[] n1):=⟨_,get?_update_seq ho (λ_=>#[])⟩
 have ho2:(n9 s.heap a vs).get? a=some (seqObj "list" #[] n1):=YU _ (YU _ ho1);have room:∀xs:Array Keyed,xs.Perm (cC vs)->(xs.map (·.2)).size<=ZW+1:=λxs p=>by
  rw[Array.size_map,p.size_eq,fG,sizeLine_eq];lia
 rw[list_sort_plain];refine ZZ (listItems_at ho rfl ?_);refine ZZ (listUpdate_at ho rfl ?_);refine ZZ (seqEpoch_at ho1 rfl ?_);refine ZZ (wpAny_newTuple ?_);refine ZZ (wpAny_newList ?_);refine ZU ?_;show wpAny (model prog w) A _ P E { s with heap:=n9 s.heap a vs };dsimp only;have last:∀t:SortSt,(arrOf t).Perm (cC vs)->failedOf t=none->Up ρ (arrOf t) vs.length ->
   wpAny (model prog w) A (do
    let out:=(arrOf t).map (·.2)
    let touched:=(<-seqEpoch a) != n1
    Builtin.List.listUpdate (.ref a) λ_=>out
    if let some e:=failedOf t then rule "list.sort.comparison-raised";throw e
    if touched then rule "list.sort.modified";raiseError "ValueError" "list modified during sort"
    ret .none) P E { s with heap:=n9 s.heap a vs }:=by
  intro t p f u;refine ZZ (seqEpoch_at ho2 rfl ?_);refine ZZ (listUpdate_at ho2 rfl ?_ (hsz2:=room _ p));rw[f];simp only[bne_self_eq_false,YN,if_false];exact ZY (h _ p u)
 by_cases c:vs.length<2
 ·have c':vs.toArray.size<2:=by simpa using c
  rw[Yb c',Yb c'];refine ZZ (ZY ?_);rw[StateT.run_pure];refine ZZ (ZY ?_);exact last (SortSt.mk' general' (cC vs) #[] 7 none) (Array.Perm.refl _) rfl (Up.one _ (by lia))
 ·have c':¬vs.toArray.size<2:=by simpa using c
  rw[Ya c',Ya c'];refine ZZ (hk (by lia) ?_);refine ZZ (ZX (ordered (Q:=λ_ t=>(arrOf t).Perm (cC vs)/\failedOf t=none/\Up ρ (arrOf t) (cC vs).size) T
   (t:=SortSt.mk' k (cC vs) #[] 7 none) (by rw[fG];lia) (by rw[fG];exact h64) ⟨rfl,Array.Perm.refl _,rfl,rfl⟩
   λt' a1 a2 a3=>⟨a1,a2,a3⟩) ?_ λ_ _ e=>e.elim)
  rintro⟨⟨⟩,t⟩ s' ⟨rfl,p,f,u⟩;rw[fG]at u;exact last t p f u
def ahead(h:Heap)(vs:List Value):Heap :=
 ((h.push (seqObj "list" #[] 0)).update h.objs.size (Obj.mapSeq (·++vs.toArray))).push (seqObj "list" vs.toArray 0)
theorem uM{l:Addr}{vs:List Value}{Q:Value->Shared->Prop}(hl:s.heap.IsList l vs.toArray)(h64:vs.length<64)
  (hk:2<=vs.length->∀{E:Value->Shared->Prop}{Q:SortKind->Shared->Prop},Q k { s with heap:=n9 (ahead s.heap vs) (s.heap.objs.size+1) vs } ->
   wpAny (model prog w) A.in1.in1 (keyKind' vs.toArray) Q E { s with heap:=n9 (ahead s.heap vs) (s.heap.objs.size+1) vs })
  (T:Tells (model prog w) A.in1.in1 (λ_ _=>False) { s with heap:=n9 (ahead s.heap vs) (s.heap.objs.size+1) vs } k (cC vs) ρ)
  (h:∀xs:Array Keyed,xs.Perm (cC vs)->Up ρ xs vs.length->Q (.ref (s.heap.objs.size+1)) { s with heap:=sortedAll s.heap vs (xs.map (·.2)) }) :
  wpAny (model prog w) A (call (.builtin "sorted") [.ref l]) Q E s:=by
 have sz:((s.heap.push (seqObj "list" #[] 0)).update s.heap.objs.size (Obj.mapSeq (·++vs.toArray))).objs.size=s.heap.objs.size+1:=by
  rw[Heap.size_update,size_push']
 have ho:(ahead s.heap vs).get? (s.heap.objs.size+1)=some (seqObj "list" vs.toArray 0):=by
  unfold ahead;rw[<-sz];exact YS _ rfl
 refine Calls.call_function_entry kind_sorted plain_sorted entry_sorted (args_sorted1 _) ?_;unfold Builtin.«sorted»;refine ZZ (m:=checkCount "sorted" 1 1 _) (ZY ?_);refine ZZ (collect_list hl ?_);refine ZZ (wpAny_newList ?_);rw[sz];show wpAny (model prog w) _ _ _ _ { s with heap:=ahead s.heap vs };refine ZZ (ZU (wpAny_call_entry slot_list_sort ⟨_,ho,rfl⟩ entry_list_sort
  (A0 (s:={ s with heap:=ahead s.heap vs }) (k:=k) (ρ:=ρ) ho h64 (λg _ q=>hk g q) T λxs p u=>⟨_,rfl,?_⟩) (args_list_sort _)))
 exact ZY ⟨_,rfl,h xs p u⟩
end
def lx:List Int->List Int->Bool
 |[],[]=>false
 |[],_::_=>true
 |_::_,[]=>false
 |a::x,b::y=>if a=b then lx x y else decide (a<b)
theorem zK:∀x:List Int,lx x x=false
 |[]=>rfl
 |a::x=>by unfold lx;rw[Yb rfl];exact zK x
theorem pZ:∀x y u:List Int,lx x y=true->lx y u=true->lx x u=true
 |[],[],_,h,_=>by simp[lx]at h
 |[],_::_,[],_,h=>by simp[lx]at h
 |[],_::_,_::_,_,_=>rfl
 |_::_,[],_,h,_=>by simp[lx]at h
 |_::_,_::_,[],_,h=>by simp[lx]at h
 |a::x,b::y,c::u,h1,h2=>by
  unfold lx at h1 h2 ⊢;by_cases e1:a=b
  ·rw[Yb e1]at h1;by_cases e2:b=c
   ·rw[Yb e2]at h2;rw[Yb (e1.trans e2)];exact pZ x y u h1 h2
   ·rw[Ya e2]at h2;rw[Ya (by lia)];rw[e1];exact h2
  ·rw[Ya e1]at h1;have l1:=Yf h1;by_cases e2:b=c
   ·rw[Ya (by lia)];exact Ye (by lia)
   ·rw[Ya e2]at h2;have l2:=Yf h2;rw[Ya (by lia)];exact Ye (by lia)
theorem p9:∀x y:List Int,lx x y=false->lx y x=false->x=y
 |[],[],_,_=>rfl
 |[],_::_,h,_=>by simp[lx]at h
 |_::_,[],_,h=>by simp[lx]at h
 |a::x,b::y,h1,h2=>by
  unfold lx at h1 h2;by_cases e:a=b
  ·rw[Yb e]at h1;rw[Yb e.symm]at h2;rw[e,p9 x y h1 h2]
  ·rw[Ya e]at h1;rw[Ya (λg=>e g.symm)]at h2;have l1:=of_decide_eq_false h1;have l2:=of_decide_eq_false h2;lia
def place(L:List (List Int))(x:List Int):Nat:=L.countP λy=>lx y x
theorem DM(L:List (List Int)){x y:List Int}(h:lx x y=true):place L x<=place L y :=
 List.countP_mono_left λu _ g=>pZ u x y g h
theorem place_lt:∀(L:List (List Int)) {x y:List Int},x∈L->lx x y=true->place L x<place L y
 |[],_,_,m,_=>by cases m
 |u::L,x,y,m,h=>by
  unfold place;rw[List.countP_cons,List.countP_cons];have a:=DM L h;unfold place at a;by_cases e:u=x
  ·subst e;rw[zK,h];simp;lia
  ·have b:=place_lt L (x:=x) (y:=y) (by cases m with | head=>exact Yg rfl e | tail _ g=>exact g) h;unfold place at b;by_cases g:lx u x=true
   ·rw[g,pZ _ _ _ g h];simp;lia
   ·have g':lx u x=false:=by simpa using g
    rw[g'];simp;lia
theorem rW(L:List (List Int)){x y:List Int}(hx:x∈L)(hy:y∈L):decide ((place L x:Int)<place L y)=lx x y:=by
 cases h:lx x y with
 |true=>exact Ye (by have:=place_lt L hx h;lia)
 |false =>
  refine Yc ?_;cases g:lx y x with
  |true=>have:=place_lt L hy g;lia
  |false=>rw[p9 x y h g];lia
section
variable{prog:Program}{w:World}{A:Around}{E:Value->Shared->Prop}{s:Shared}
theorem GV(b:Bool){x y:Int}{t u:Tok}{Q:Bool->Shared->Prop}(h:Q (decide (x<y)) s):wpAny (model prog w) A (oneLt' b (.int x t) (.int y u)) Q E s:=by
 cases b with
 |true=>exact oneLt_int h
 |false=>exact PySem.W.kat_one _ _ (wpAny_lt_int h)
theorem vB{b fin:Bool}{Q:Bool->Shared->Prop}:∀{xs ys:List Value}{ns ms:List Int}(i:Nat),IntsAre xs ns->IntsAre ys ms ->
  fin=decide (ns.length<ms.length)->Q (lx ns ms) s->PySem.W.KatLex prog w A b fin Q (xs.zip ys) i s
 |_,_,_,_,i,.nil,.nil,e,q=>by subst e;exact PySem.W.kat_nil q
 |_,_,_,_,i,.nil,.cons _ _ _,e,q=>by
  subst e;refine PySem.W.kat_nil ?_;rw[Ye (by simp)];exact q
 |_,_,_,_,i,.cons _ _ _,.nil,e,q=>by
  subst e;refine PySem.W.kat_nil ?_;rw[Yc (by simp)];exact q
 |_,_,_,_,i,.cons (vs:=xs) (ns:=ns) n t hx,.cons (vs:=ys) (ns:=ms) m u hy,e,q=>by
  rw[List.zip_cons_cons];refine PySem.W.kat_cons (wpAny_eqBool_int ?_);unfold lx at q;by_cases c:n=m
  ·rw[Yb c]at q;rw[show(n==m)=true by simpa using c];refine PySem.W.kat_yes (vB (i+1) hx hy ?_ q);rw[e];simp
  ·rw[Ya c]at q;rw[show(n==m)=false by simpa using c];exact PySem.W.kat_no (GV _ q)
def yM(h:Heap)(vs:List Value)(kf:Value->List Int):Prop :=
 ∀v∈vs,∃a o xs n,v=.ref a/\h.get? a=some o/\o.cls=.type "tuple"/\o.data=.seq xs n/\IntsAre xs.toList (kf v)
def rank(vs:List Value)(kf:Value->List Int)(p:Keyed):Int:=place (vs.map kf) (kf p.1)
theorem jT{vs:List Value}{p:Keyed}(h:p∈(cC vs).toList):p.1∈vs:=by
 have:p∈vs.zip vs:=by simpa[cC] using h
 exact(List.of_mem_zip (a:=p.1) (b:=p.2) this).1
theorem qE{xs:List Value}{ns:List Int}(h:IntsAre xs ns):xs.length=ns.length:=by
 induction h with
 |nil=>rfl
 |cons _ _ _ ih=>simp[ih]
theorem wX{vs:List Value}{kf:Value->List Int}{b:Bool}(h:yM s.heap vs kf):Tells (model prog w) A E s (tuples' b) (cC vs) (rank vs kf):=by
 intro p q t Q hp hq hk hQ;have mp:=jT hp;have mq:=jT hq;obtain⟨a,o,xs,n,e1,g1,_,d1,i1⟩:=h _ mp;obtain⟨a',o',xs',n',e2,g2,_,d2,i2⟩:=h _ mq;have r:decide (rank vs kf p<rank vs kf q)=lx (kf p.1) (kf q.1):=rW _ (Ys mp) (Ys mq);rw[r]at hQ;rw[lt'_eq];refine wpS_bind (wpS_get ?_);rw[hk,e1,e2];refine wpS_bind (wpS_lift (wpAny_attempt (PySem.W.kat_lt g1 d1 g2 d2 (vB 0 i1 i2 ?_ ⟨rfl,?_⟩))))
 ·have l1:=qE i1;have l2:=qE i2;simp only[Array.length_toList]at l1 l2;rw[l1,l2]
 ·exact wpS_pure hQ
end
end SO
namespace SO
open PySem PyProof PyProof.Rows
open AutoSeq1 (wpAny_loadPart')
theorem zP:∀{xs:List Value}{ns:List Int},IntsAre xs ns->∀i,i<xs.length->∃n t,xs[i]?=some (.int n t)/\ns[i]?=some n
 |_,_,.nil,i,h=>by simp at h
 |_,_,.cons n t _,0,_=>⟨n,t,rfl,rfl⟩
 |_,_,.cons _ _ r,i+1,h=>by
  obtain⟨n,t,e1,e2⟩:=zP r i (by simpa using h);exact⟨n,t,by simpa using e1,by simpa using e2⟩
section
variable{prog:Program}{w:World}{A:Around}{E:Value->Shared->Prop}{s:Shared}
end
end SO
namespace SO
open PySem PyProof PyProof.Rows
theorem uC:∀vs:List Value,vs.zip vs=vs.map λv=>(v,v)
 |[]=>rfl
 |v::vs=>by rw[List.zip_cons_cons,uC vs];rfl
theorem nM(vs:List Value):(cC vs).toList=vs.map λv=>(v,v):=by
 rw[<-uC];simp[cC]
theorem twice{vs:List Value}{q:Keyed}(h:q∈(cC vs).toList):q.2=q.1:=by
 rw[nM]at h;obtain⟨v,_,rfl⟩:=Zh.mp h;rfl
theorem vX{vs:List Value}{kf:Value->List Int}{xs:Array Keyed}(p:xs.Perm (cC vs))(u:Up (rank vs kf) xs vs.length) :
  (xs.map (·.2)).toList.Perm vs/\(xs.map (·.2)).toList.Pairwise λa b=>lx (kf b) (kf a)=false:=by
 have pl:=Array.perm_iff_toList_perm.mp p;constructor
 ·have e:=pl.map (·.2);rw[nM,Yn]at e;have e2:vs.map ((λq:Keyed=>q.2)∘λv=>(v,v))=vs:=by
   have:((λq:Keyed=>q.2)∘λv:Value=>(v,v))=id:=rfl;rw[this,List.map_id]
  rw[e2]at e;rw[Array.toList_map];exact e
 ·rw[Array.toList_map,List.pairwise_map,List.pairwise_iff_getElem];intro i j hi hj hij;have z:xs.size=vs.length:=by rw[p.size_eq,fG]
  have hi':i<xs.size:=by simpa using hi
  have hj':j<xs.size:=by simpa using hj
  have r:=u i j (by lia) (by lia);have mi:xs[i]∈(cC vs).toList:=pl.mem_iff.mp (by simp);have mj:xs[j]∈(cC vs).toList:=pl.mem_iff.mp (by simp);have ri:rk (rank vs kf) xs i=rank vs kf xs[i]:=by simp[rk,hi']
  have rj:rk (rank vs kf) xs j=rank vs kf xs[j]:=by simp[rk,hj']
  rw[ri,rj]at r;have t:=rW (vs.map kf) (x:=kf xs[j].1) (y:=kf xs[i].1) (Ys (jT mj)) (Ys (jT mi));rw[Yc (by unfold rank at r;lia)]at t;simp only[Array.getElem_toList];rw[twice mi,twice mj];exact t.symm
theorem B0{h:Heap}{vs:List Value}{b:Addr}{o:Obj}(hb:h.get? b=some o):(n9 (ahead h vs) (h.objs.size+1) vs).get? b=some o:=by
 have lt:=YT hb;unfold n9 ahead;refine YU _ (YU _ ?_);rw[Heap.get?_update_ne _ _ _ _ (YZ (Xv lt))];refine YU _ ?_;rw[Heap.get?_update_ne _ _ _ _ (YZ lt)];exact YU _ hb
section
variable{prog:Program}{w:World}{A:Around}{E:Value->Shared->Prop}{s:Shared}
theorem yM.mono{h h':Heap}{vs:List Value}{kf:Value->List Int}(H:yM h vs kf)(g:∀b o,h.get? b=some o->h'.get? b=some o):yM h' vs kf:=λv m=>by
 obtain⟨a,o,xs,n,e,g1,r⟩:=H v m;exact⟨a,o,xs,n,e,g _ _ g1,r⟩
end
end SO
namespace L2
open PySem PySem.Spec PyProof.Rows
section
variable{X:Cx}
theorem rM:∀{ps:List Addr}{us:List Value},aV (ps.map V.ref) us->us=ps.map Value.ref
 |[],us,r=>by rw[List.map_nil]at r;cases r;rfl
 |p::ps,us,r=>by
  rw[ZI]at r;cases r with
  |cons a b =>
   rw[rM b];cases a;rfl
theorem rV:∀(ps:List Addr),aV (ps.map V.ref) (ps.map Value.ref)
 |[]=>.nil
 |_::ps=>.cons rfl (rV ps)
def keyOf(kf:Addr->List Int):Value->List Int
 |.ref a=>kf a
 |_=>[]
theorem A4{ps:List Addr}{us:List Value}(h:us.Perm (ps.map Value.ref)):∃ps':List Addr,us=ps'.map Value.ref/\ps'.Perm ps:=by
 have e:us=(us.map λu=>match u with | .ref a=>a | _=>0).map Value.ref:=by
  rw[Yn];refine(List.map_id us).symm.trans (Yt λu m=>?_);obtain⟨a,_,rfl⟩:=Zh.mp (h.mem_iff.mp m);rfl
 refine⟨_,e,?_⟩;have g:=h.map λu:Value=>match u with | .ref a=>a | _=>0
 rw[Yn]at g;have i:((λu:Value=>match u with | .ref a=>a | _=>0)∘Value.ref)=id:=rfl;rw[i,List.map_id]at g;exact g
end
end L2
namespace SO
open PySem PyProof PyProof.Rows
section
variable{prog:Program}{w:World}{A:Around}{E:Value->Shared->Prop}{s:Shared}
theorem E4{h:Heap}{kf:Value->List Int}:∀{vs:List Value},yM h vs kf->(∀v∈vs,kf v≠[]) ->
  ∃fs:List Value,PySem.W.KatTups h vs fs/\fs.length=vs.length/\∀f∈fs,∃n t,f=.int n t
 |[],_,_=>⟨[],PySem.W.KatTups.nil,rfl,λ_ m=>by cases m⟩
 |v::vs,H,ne=>by
  obtain⟨fs,k,l,g⟩:=E4 (vs:=vs) (λu m=>H u (.tail _ m)) λu m=>ne u (.tail _ m);obtain⟨a,o,xs,n,e,g1,c,d,i⟩:=H v (.head _);have hz:0<xs.toList.length:=by
   rw[qE i];exact List.length_pos_iff.mpr (ne v (.head _))
  obtain⟨n0,t0,e0,_⟩:=zP i 0 hz;subst e;refine⟨.int n0 t0::fs,PySem.W.KatTups.cons g1 c d (by simpa using e0) k,by simp[l],λf m=>?_⟩;cases m with
  |head=>exact⟨n0,t0,rfl⟩
  |tail _ m=>exact g f m
theorem uL{l:Addr}{vs:List Value}{kf:Value->List Int}{Q:Value->Shared->Prop}(hl:s.heap.IsList l vs.toArray)(h64:vs.length<64)
  (H:yM s.heap vs kf) (ne:∀v∈vs,kf v≠[])
  (h:∀out:Array Value,out.toList.Perm vs->(out.toList.Pairwise λa b=>lx (kf b) (kf a)=false)->Q (.ref (s.heap.objs.size+1)) { s with heap:=sortedAll s.heap vs out }) :
  wpAny (model prog w) A (call (.builtin "sorted") [.ref l]) Q E s:=by
 have H':yM (n9 (ahead s.heap vs) (s.heap.objs.size+1) vs) vs kf:=H.mono λ_ _=>B0;refine uM (k:=tuples' true) (ρ:=rank vs kf) hl h64 (λh2 _ _ q=>?_) (wX H') λxs p u=>h _ (vX p u).1 (vX p u).2;obtain⟨fs,k,lf,g⟩:=E4 H' ne;refine PySem.W.kat_kind (T:=Value.type "int") k (by lia) (λv m=>?_) (by decide) q;obtain⟨n,t,rfl⟩:=g v m;exact .now
end
end SO
namespace L2
open PySem PySem.Spec PyProof.Rows
section
variable{X:Cx}
theorem mC:dE X (.builtin "sorted") (λxs H Q=>∃(p:Addr) (ps:List Addr) (kf:Addr->List Int),xs=[.ref p]/\SqL H p (ps.map V.ref)/\(∀q∈ps,kf q≠[]/\SqT H q ((kf q).map V.int))/\ps.length<64 /\
  ∀(l:Addr) (ps':List Addr),H l=none->ps'.Perm ps->(ps'.Pairwise λa b=>SO.lx (kf b) (kf a)=false)->Q (.ref l) (upd H l (.lst (ps'.map V.ref)))):=by
 intro pins s σ H xs us Q I r h;obtain⟨p,ps,kf,rfl,hq,hk,h64,q⟩:=h;obtain⟨u,rfl,rx⟩:=vals1 r;cases rx;obtain⟨its,r',pl,hz⟩:=I.list hq;have ei:=rM r';subst ei;refine SO.uL (kf:=keyOf kf) pl.isList (by rw[Zq];exact h64) (λv m=>?_) (λv m=>?_) λout a1 a2=>?_
 ·obtain⟨a,ma,rfl⟩:=Zh.mp m;obtain⟨its',r2,⟨o,g1,c1,n,d1⟩,_⟩:=I.tuple (hk a ma).2;exact⟨a,o,its'.toArray,n,rfl,g1,c1,d1,(show IntsAre its' (kf a) from intsAre_of r2)⟩
 ·obtain⟨a,ma,rfl⟩:=Zh.mp m;exact(hk a ma).1
 ·obtain⟨ps',e1,e2⟩:=A4 a1;rw[e1,List.pairwise_map]at a2;obtain⟨e,he⟩:=sortedAll_at s.heap (ps.map Value.ref) out;refine⟨.ref (s.heap.objs.size+1),_,I.laid (t':=s.toks) (λ_ _=>sortedAll_old) (Nat.le_succ _) (show bI X.prog X.w _ _ _ (.lst (ps'.map V.ref)) from⟨?_,out.toList,e,?_,he⟩),rfl,q _ ps' (I.hok.fresh (Nat.le_succ _)) e2 a2⟩
  ·rw[Zq,e2.length_eq];exact Xz (by lia:ps.length<=64) (by decide)
  ·rw[e1];exact rV ps'
end
end L2
namespace SO
open PySem PyProof PyProof.Rows
section
variable{prog:Program}{w:World}{A:Around}{E:Value->Shared->Prop}{s:Shared}{k:SortKind}{ρ:Keyed->Int}
end
end SO
namespace L2
open PySem PySem.Spec PyProof.Rows
section
variable{X:Cx}
end
end L2
namespace SO
open PySem PyProof PyProof.Rows
section
variable{prog:Program}{w:World}{A:Around}{E:Value->Shared->Prop}{s:Shared}
end
end SO
namespace L2
open PySem PySem.Spec PyProof.Rows
section
variable{X:Cx}
end
section
variable{X:Cx}
end
section
variable{X:Cx}{pins:List (Addr×Obj)}{σ:St}{H:Hp}{s:Shared}{h':Heap}
theorem Inv.turnedCh{t':Nat}{ch:List Addr}(I:Inv X pins σ H s)(k:∀b u,b∉ch->s.heap.get? b=some u->h'.get? b=some u)(hf:∀b∈ch,oB X pins H b):Inv X pins σ H { s with heap:=h',toks:=t' }:=by
 have nit:∀b u,H b=some u->b∉ch:=λb u e z=>by rw[(hf b z).1]at e;cases e
 refine I.step (g':=s.gens) (d':=s.drawn) (ch:=ch) (λb hb=>?_) (λb o _ _ hc e _=>k b o hc e) (λb o _ _ hc e _=>⟨o.slots,k b o hc e⟩) (λb u hc e n=>n) (λb u hc e=>⟨u,k b u hc e⟩)
  (λb xs e=>e) (λb ob u e=>e) (λb ps e=>⟨#[],by rw[e];simp⟩) (λm hm=>?_) (λb u e=>?_) I.bare
 ·exact⟨(hf b hb).2.2.2.1,(hf b hb).2.1,(hf b hb).2.2.2.2.1,(hf b hb).2.2.2.2.2⟩
 ·obtain⟨ob,es,ep,ho,r⟩:=hm;exact⟨ob,es,ep,k _ ob (λz=>(hf _ z).2.1 rfl) ho,r⟩
 ·refine(I.hok b u e).stay (λc v hc q=>k c v ?_ q) (λc q=>q) λc xs q=>q;rcases hc with z | z
  ·rw[z];exact nit b u e
  ·exact nit c _ z
end
def Itz(a b:Addr):It :=
 ⟨λi H=>∃xs ys x y,H a=some (.lst xs)/\H b=some (.lst ys)/\xs[i]?=some x/\ys[i]?=some y,λi H v H'=>∃T x y,v=.ref T/\H T=none/\H'=upd H T (.tup [x,y])/\(∀xs,H a=some (.lst xs)->xs[i]?=some x)/\∀ys,H b=some (.lst ys)->ys[i]?=some y,λi H=>∃xs ys,H a=some (.lst xs)/\H b=some (.lst ys)/\(xs.length<=i\/ys.length<=i)⟩
theorem CM{P:Program}{w:World}{K:PySem.W.Frag}{elts:List Expr}{k:Nat}{pos:Pos}(a b z TI TO i1 i2:Addr)(d:[z,TI,TO,i1,i2].Nodup) :
  Turn P w K (.Tuple elts k pos) (Itz a b) [z,TI,TO,i1,i2] z (λi h=>IsZip h z TI TO .none/\IsPair h TI (.ref i1) (.ref i2)/\(∃u v,IsPair h TO u v)/\h.IsListIter i1 a i/\h.IsListIter i2 b i):=by
 simp only[List.nodup_cons,Zn,ZL,or_false,not_or]at d;obtain⟨⟨d1,d2,d3,d4⟩,⟨d5,d6,d7⟩,⟨d8,d9⟩,d10,_⟩:=d;have apart:∀{H:Hp}{l l':Addr}{xs ys:List V},H l=some (.lst xs)->H l'=some (.lst ys)->(∀c∈[z,TI,TO,i1,i2],H c=none)->ZipApart z TI TO i1 i2 l l':=λ{H l l' xs ys} h h' hn =>
  ⟨Yh d1,Yh d2,Yh d3,Yh d4,d5,d6,d7,d8,d9,d10,aI h (hn z (by simp)),aI h (hn TO (by simp)),aI h (hn i1 (by simp)),aI h (hn i2 (by simp)),
   aI h' (hn z (by simp)),aI h' (hn TO (by simp)),aI h' (hn i1 (by simp)),aI h' (hn i2 (by simp))⟩
 refine⟨by simp,?_,?_,?_,?_,?_⟩
 ·rintro i h ⟨hz,hTI,⟨u,v,hTO⟩,⟨o1,h1,c1,e1⟩,⟨o2,h2,c2,e2⟩⟩ b' hb;simp only[Zn,ZL,or_false]at hb;rcases hb with rfl | rfl | rfl | rfl | rfl
  ·exact⟨_,hz,λv q=>by have q':Data.fields _=Data.cell v:=q;cases q'⟩
  ·exact⟨_,hTI,λv q=>by have q':Data.seq _ _=Data.cell v:=q;cases q'⟩
  ·exact⟨_,hTO,λv q=>by have q':Data.seq _ _=Data.cell v:=q;cases q'⟩
  ·exact⟨_,h1,λv q=>by rw[e1]at q;cases q⟩
  ·exact⟨_,h2,λv q=>by rw[e2]at q;cases q⟩
 ·rintro i h h' ⟨hz,hTI,⟨u,v,hTO⟩,h1,h2⟩ kk;exact⟨kk z (by simp) _ hz,kk TI (by simp) _ hTI,⟨u,v,kk TO (by simp) _ hTO⟩,h1.at λo e=>kk i1 (by simp) o e,h2.at λo e=>kk i2 (by simp) o e⟩
 ·intro X hP hw hK hc i pins s σ H E I hf st hg;subst hP hw hK;obtain⟨hz,hTI,⟨u,v,hTO⟩,h1,h2⟩:=st;obtain⟨xs,ys,x,y,ha,hb,hx,hy⟩:=hg;have D:=apart ha hb λc hc=>(hf c hc).1;obtain⟨_,its,n,rv,hl,e⟩:=I.lstM ha;obtain⟨_,its2,n2,rv2,hl2,e2⟩:=I.lstM hb;obtain⟨u1,hu1,ru1⟩:=rv.get hx;obtain⟨u2,hu2,ru2⟩:=rv2.get hy;have hux:its.toArray[i]?=some u1:=by simpa using hu1
  have huy:its2.toArray[i]?=some u2:=by simpa using hu2
  refine wpAny_pyNext_zip_item D hz hTI hTO h1 h2 ⟨_,e,rfl,n,rfl⟩ ⟨_,e2,rfl,n2,rfl⟩ hux huy λh' a1 a2 a3 a4 a5 a6 hk=>?_;refine⟨_,rfl,?_⟩;have kk:∀c o,c∉[z,TO,i1,i2]->s.heap.get? c=some o->h'.get? c=some o:=λc o hc q=>hk c o (λx=>hc (by simp[x])) (λx=>hc (by simp[x])) (λx=>hc (by simp[x])) (λx=>hc (by simp[x])) q;have th:∀c o,s.heap.get? c=some o->∃o',h'.get? c=some o':=λc o q=>by
   by_cases c1:c=z
   ·subst c1;exact⟨_,a1⟩
   ·by_cases c2:c=TO
    ·subst c2;exact⟨_,a2⟩
    ·by_cases c3:c=i1
     ·subst c3;obtain⟨o',q1,_⟩:=a3;exact⟨_,q1⟩
     ·by_cases c4:c=i2
      ·subst c4;obtain⟨o',q1,_⟩:=a4;exact⟨_,q1⟩
      ·exact⟨o,hk c o c1 c2 c3 c4 q⟩
  have sub:∀c∈[z,TO,i1,i2],c∈[z,TI,TO,i1,i2]:=λc hc=>by simp at hc ⊢;rcases hc with rfl | rfl | rfl | rfl<;>simp
  have I1:Inv X pins σ (upd H s.heap.objs.size (.tup [x,y])) { s with heap:=h',toks:=s.toks } :=
   I.turnedNew (ch:=[z,TO,i1,i2]) kk th (ZA _) (λc hc=>hf c (sub c hc)) ⟨by show 2<=ZW;decide,[u1,u2],.cons ru1 (.cons ru2 .nil),⟨_,a5,rfl,_,rfl⟩⟩
  have fz:=hf z (by simp);have neT:∀c∈[z,TI,TO,i1,i2],c≠s.heap.objs.size:=λc hc=>by
   simp only[Zn,ZL,or_false]at hc;rcases hc with rfl | rfl | rfl | rfl | rfl
   ·exact YZ (YT hz)
   ·exact YZ (YT hTI)
   ·exact YZ (YT hTO)
   ·obtain⟨_,q,_⟩:=h1;exact YZ (YT q)
   ·obtain⟨_,q,_⟩:=h2;exact YZ (YT q)
  refine wpAny_letOwnedTupleGo_zip a1 λh2' hz2 hs2=>?_;have I2:Inv X pins σ (upd H s.heap.objs.size (.tup [x,y])) { s with heap:=h2',toks:=s.toks } :=
   Inv.turned (s:={ s with heap:=h',toks:=s.toks }) (h':=h2') (t':=s.toks) (it:=z) I1 (λc o hc q=>(hs2.2 c hc).trans q) (by rw[aF (neT z (by simp))];exact fz.1) fz.2.1 fz.2.2.2.1 fz.2.2.2.2.1 fz.2.2.2.2.2
  refine⟨.ref s.heap.objs.size,_,I2,rfl,⟨s.heap.objs.size,x,y,rfl,I.fresh,rfl,λzs hzs=>by rw[ha]at hzs;cases hzs;exact hx,λzs hzs=>by rw[hb]at hzs;cases hzs;exact hy⟩,
   ⟨hz2,(hs2.2 TI (Yh d1)).trans (hk TI _ (Yh d1) d5 d6 d7 hTI),⟨_,_,(hs2.2 TO (Yh d2)).trans a2⟩,a3.at λo q=>(hs2.2 i1 (Yh d3)).trans q,a4.at λo q=>(hs2.2 i2 (Yh d4)).trans q⟩,λc hc=>?_⟩
  rw[aF (neT c hc)];exact(hf c hc).1
 ·intro X hP hw hK hc i pins s σ H E I hf st hg;subst hP hw hK;obtain⟨hz,hTI,⟨u,v,hTO⟩,h1,h2⟩:=st;obtain⟨xs,ys,ha,hb,hx⟩:=hg;have D:=apart ha hb λc hc=>(hf c hc).1;obtain⟨_,its,n,rv,hl,e⟩:=I.lstM ha;obtain⟨_,its2,n2,rv2,hl2,e2⟩:=I.lstM hb;have sub:∀c∈[z,TO,i1,i2],c∈[z,TI,TO,i1,i2]:=λc hc=>by simp at hc ⊢;rcases hc with rfl | rfl | rfl | rfl<;>simp
  refine wpAny_pyNext_zip_end (I.ok.hd hc) D hz hTI hTO h1 h2 ⟨_,e,rfl,n,rfl⟩ ⟨_,e2,rfl,n2,rfl⟩ ?_ λh' hk=>⟨rfl,?_⟩
  ·rcases hx with q | q
   ·left;simp;lia
   ·right;simp;lia
  ·exact I.turnedCh (t':=s.toks) (ch:=[z,TO,i1,i2]) (λc o hc q=>hk c o (λx=>hc (by simp[x])) (λx=>hc (by simp[x])) (λx=>hc (by simp[x])) (λx=>hc (by simp[x])) q) λc hc=>hf c (sub c hc)
 ·intro A i s Q E st h;exact wpAny_pyIter_zip st.1 h
section
variable{X:Cx}
def PP(ta:TA):TI:=λσ H R=>ta σ H λvs H1=>∃a b xs ys,vs=[.ref a,.ref b]/\H1 a=some (.lst xs)/\H1 b=some (.lst ys)/\R (Itz a b) H1
theorem KJ{a b:Expr}{ta:TA}{p pos:Pos}{elts:List Expr}{k:Nat}{tpos:Pos}(hg:Gl X "zip")(hm:X.mg "zip" = none)(ha:PA X [a,b] ta)(hs:starEach [a,b] X.env=[(false,eval a X.env),(false,eval b X.env)]:=by rfl)(hs2:starEach [b] X.env=[(false,eval b X.env)]:=by rfl) :
  PI X (.Tuple elts k tpos) (.Call (.Name "zip" p) [a,b] [] pos) (PP ta):=by
 intro pins s σ H R I h;refine Call_ (iU I hg hm boot_zip (PyProof.Rows.callWith_type1 (oY (ha pos pins s σ H _ I h) λus s1 vs H1 I1 r1 q1=>?_) (by rw[hs,hs2]) (by rw[hs2];rfl)));obtain⟨l,l2,xs,ys,e,hx,hy,q⟩:=q1;subst e;cases r1 with
 |cons r rr =>
  cases rr with
  |cons r' rr =>
   cases rr;cases r;cases r';obtain⟨_,its,n,rv,hl,e⟩:=I1.lstM hx;obtain⟨_,its2,n2,rv2,hl2,e2⟩:=I1.lstM hy;refine call_zip_2 ⟨_,e,rfl,n,rfl⟩ ⟨_,e2,rfl,n2,rfl⟩ λh' z1 z2 z3 z4 z5 hsz hk=>?_;refine wpAny_pyIter_zip z1 ?_;have I2:Inv X pins σ H1 { s1 with heap:=h' }:=I1.kept (t':=s1.toks) hk;refine⟨s1.heap.objs.size+4,[s1.heap.objs.size+4,s1.heap.objs.size+2,s1.heap.objs.size+3,s1.heap.objs.size,s1.heap.objs.size+1],_,_,H1,rfl,I2,CM l l2 _ _ _ _ _ (by simp),⟨z1,z2,⟨_,_,z3⟩,z4,z5⟩,λc hc=>?_,q⟩;have hc':s1.heap.objs.size<=c:=by
    simp only[Zn,ZL,or_false]at hc;rcases hc with rfl | rfl | rfl | rfl | rfl<;>lia
   exact I1.fpOk hc' (I1.hok.fresh hc')
end
theorem HJ{a b:Addr}{xs ys:List V}{g:TG}{tb:TS}{D:Ends}{σ:St}{H:Hp}(Pv:Nat->St->Hp->Prop)(hlen:xs.length=ys.length)(h0:Pv 0 σ H)(hl:∀i σ H,i<=xs.length->Pv i σ H->H a=some (.lst xs)/\H b=some (.lst ys))
  (hs:∀(i:Nat) x y σ H T,xs[i]?=some x->ys[i]?=some y->Pv i σ H->H T=none->g (.ref T) σ (upd H T (.tup [x,y])) λσ2 H2=>tb { D with nx:=Pv (i+1),ct:=Pv (i+1),bk:=D.nx } σ2 H2) (hd:∀σ H,Pv xs.length σ H->D.nx σ H) :
  ∃W:Nat->Nat->St->Hp->Prop,(∃m,W 0 m σ H)/\∀i m σ H,W i m σ H ->
   ((Itz a b).stop i H/\D.nx σ H)\/((Itz a b).go i H/\∃N:St->Hp->Prop,(∀σ' H',N σ' H'->∃m',m' < m/\W (i+1) m' σ' H')/\∀x H',(Itz a b).yld i H x H'->g x σ H' λσ2 H2=>tb { D with nx:=N,ct:=N,bk:=D.nx } σ2 H2):=by
 refine⟨λi m σ H=>m=xs.length-i/\i<=xs.length/\Pv i σ H,⟨xs.length,by simp,YX _,h0⟩,?_⟩;rintro i m σ H ⟨rfl,hi,p⟩;obtain⟨q1,q2⟩:=hl i σ H hi p;by_cases hlt:i<xs.length
 ·refine .inr ⟨⟨xs,ys,xs[i],ys[i]'(by lia),q1,q2,by simp[hlt],by rw[Zz (by lia)]⟩,Pv (i+1),λσ' H' p'=>⟨xs.length-(i+1),by lia,rfl,hlt,p'⟩,λx H' y=>?_⟩;obtain⟨T,x',y',rfl,hT,rfl,y1,y2⟩:=y;exact hs i x' y' σ _ T (y1 xs q1) (y2 ys q2) p hT
 ·have e:i=xs.length:=by lia
  subst e;exact .inl ⟨⟨xs,ys,q1,q2,.inl (ZA _)⟩,hd σ H p⟩
end L2
namespace L2
open PySem PyProof.Rows
theorem mB:∀xs ys:List Int,PyData.eqvAll (xs.map PyData.int) (ys.map PyData.int)=decide (xs=ys)
 |[],[]=>rfl
 |[],_::_=>rfl
 |_::_,[]=>rfl
 |x::xs,y::ys=>by
  simp only[ZI,PyData.eqvAll,mB xs ys,PyData.eqv];by_cases h:x=y
  ·subst h;simp
  ·simp[h]
theorem iB(xs ys:List Int):PyData.eqv (.list (xs.map PyData.int)) (.list (ys.map PyData.int))=decide (xs=ys):=by
 rw[PyData.eqv,mB]
end L2
namespace SO
open PySem PyProof PyProof.Rows
section
variable{prog:Program}{w:World}{A:Around}{E:Value->Shared->Prop}{s:Shared}
theorem G9{xl yl:List Int}{a b:Addr}{oa ob:Obj}{xs ys:Array Value}{na nb:Nat}{P:Fin->Shared->Prop}(hoa:s.heap.get? a=some oa)(hda:oa.data=.seq xs na)(hob:s.heap.get? b=some ob)(hcb:ob.cls=.type "tuple")(hdb:ob.data=.seq ys nb)
  (hia:IntsAre xs.toList xl) (hib:IntsAre ys.toList yl) (h:∀c,P (.done (.ret (.bool c))) s) :
  wpAny (model prog w) A (Builtin.«tuple.__lt__» ⟨[.ref a,.ref b],[]⟩) P E s:=by
 have hTb:s.TypeIs (.ref b) "tuple":=⟨ob,hob,hcb⟩
 show wpAny _ _ (isInstance (.ref b) (.type "tuple") >>= _) _ _ s;refine ZZ (wpAny_isInstance hTb isSubtype_tuple_tuple ?_);simp only[Bool.not_true,YN,if_false];refine ZZ (wpAny_tupleItemsOf hoa hda (ZZ (wpAny_tupleItemsOf hob hdb (ZZ ?_))));refine wpAny_forIn_list _ (λrest r s'=>r.1=none/\s'=s/\∃x' y' xs' ys',rest=List.zip xs' ys'/\IntsAre xs' x'/\IntsAre ys' y') _ ?_ ?_ _ _ ⟨rfl,rfl,xl,yl,xs.toList,ys.toList,rfl,hia,hib⟩
 ·rintro⟨u,v⟩ rest r s' ⟨hr,rfl,x',y',xs',ys',hz,hx',hy'⟩;cases hx' with
  |nil=>simp at hz
  |@cons k1 t1 xs'' x'' hx'' =>
   cases hy' with
   |nil=>simp at hz
   |@cons k2 t2 ys'' y'' hy'' =>
    simp only[List.zip_cons_cons,List.cons.injEq,Prod.mk.injEq]at hz;obtain⟨⟨rfl,rfl⟩,rfl⟩:=hz;refine ZZ (wpAny_eqBool_int ?_);by_cases hk:k1=k2
    ·rw[show(k1==k2)=true by simpa using hk];simp only[Bool.not_true,YN,if_false];exact ZY ⟨rfl,rfl,x'',y'',xs'',ys'',rfl,hx'',hy''⟩
    ·rw[show(k1==k2)=false by simpa using hk];simp only[Bool.not_false,if_true];refine ZZ (wpAny_rule (ZZ (show wpAny _ _ (compareOp .Lt (.int k1 t1) (.int k2 t2)) _ _ _ from PyProof.Rows.lt_int ?_)));exact ZZ (ZY (ZY (ZY (h _))))
 ·rintro⟨r1,r2⟩ s' ⟨hr,rfl,x',y',xs',ys',hz,hx',hy'⟩;simp only at hr;subst hr;exact ZY (h _)
theorem G8{xl yl:List Int}{a b:Addr}{oa ob:Obj}{xs ys:Array Value}{na nb:Nat}{Q:Value->Shared->Prop}(hu:A.units<cLine)(hoa:s.heap.get? a=some oa)(hca:oa.cls=.type "tuple")(hda:oa.data=.seq xs na)(hob:s.heap.get? b=some ob)(hcb:ob.cls=.type "tuple")(hdb:ob.data=.seq ys nb)
  (hia:IntsAre xs.toList xl) (hib:IntsAre ys.toList yl) (h:∀c,Q (.bool c) s):wpAny (model prog w) A (richCompare .Lt (.ref a) (.ref b)) Q E s :=
 wpAny_richCompare_same_room (op:=.Lt) (T:="tuple") ⟨oa,hoa,hca⟩ ⟨ob,hob,hcb⟩ PySem.F.slot_tuple_lt
  (wpAny_call_entry PySem.F.slot_tuple_lt ⟨oa,hoa,hca⟩ PySem.F.entry_tuple_lt (G9 hoa hda hob hcb hdb hia hib λc=>⟨_,rfl,(λz=>by cases z),h c⟩) (PySem.F.args_tuple_lt_2 _ _)) hu
end
section
variable{prog:Program}{w:World}{A:Around}{E:Value->Shared->Prop}{s:Shared}{d it:Addr}{o:Obj}{es:Array DictEntry}{ep i:Nat}
theorem vG{Q:Value->Shared->Prop}(ho:s.heap.get? d=some o)(hx:o.ExactDict)(hdat:o.data=.dict es ep)(hd:(d==sysModules)=false)
  (hQ:Q (.ref s.heap.objs.size) { s with heap:=s.heap.push { cls:=.type "dict_keyiterator",data:=.fields #[.ref d,.int 0 0,.int es.size 0,.int ep 0] } }):wpAny (model prog w) A (pyIter (.ref d)) Q E s:=by
 have hT:s.TypeIs (.ref d) "dict":=⟨o,ho,hx.1⟩
 have nd:¬((d==sysModules)=true):=by rw[hd];exact YO
 refine wpAny_pyIter_slot hT F.slot_dict_iter (wpAny_call_entry F.slot_dict_iter hT F.entry_dict_iter ?_ (F.args_dict_iter_1 _));unfold Builtin.«dict.__iter__» Builtin.Dict.dictSlotNone;refine ZZ (ZZ (wpAny_notOrdered_dict hT ?_));refine(show wpAny _ _ (pure (Value.ref d)) _ _ s from ZY ?_);refine(show wpAny _ _ (Builtin.Dict.showsAll d >>= _) _ _ s from ?_);unfold Builtin.Dict.showsAll;rw[Ya nd];refine ZZ (ZY (ZZ (wpAny_dictEntries ho hdat (ZZ (wpAny_dictEpoch ho hdat ?_)))));refine ZZ (wpAny_newObj_type (ZY ⟨_,rfl,"dict_keyiterator",_,⟨_,YS _ rfl,rfl⟩,F.slot_dict_keyiterator_next.lookup,?_⟩));simpa[rawInt] using hQ
theorem u5{Q:Option Value->Shared->Prop}(hit:s.heap.IsKeyIter it d i es.size ep)(hod:s.heap.get? d=some o)(hdd:o.data=.dict es ep)(hi:i<es.size)
  (hQ:∀h',h'.IsKeyIter it d (i+1) es.size ep->Heap.SameBut it s.heap h'->Q (some es[i].key) { s with heap:=h' }):wpAny (model prog w) A (pyNext (.ref it)) Q E s:=by
 obtain⟨q,ho,hc,hd⟩:=id hit;have hown:Builtin.Dict_items.ownsTuple "dict_keyiterator" = false:=by decide
 unfold pyNext;refine ZZ (wpAny_attempt (wpAny_callSpecial?_slot (name:=ZT "__next__") hit.typeIs F.slot_dict_keyiterator_next
  (wpAny_call_entry F.slot_dict_keyiterator_next hit.typeIs F.entry_dict_keyiterator_next (ZZ (ZY (ZZ (ZZ ?_)))) (F.args_dict_keyiterator_next_1 _))))
 first | refine ZZ (wpAny_typeNameOfWhole_keyiter hit.typeIs (ZY (ZZ (wpAny_fieldsOf ho hd ?_)))) | refine ZZ (wpAny_typeNameOf_keyiter hit.typeIs (ZY (ZZ (wpAny_fieldsOf ho hd ?_))))
 simp only[hown,YN,if_false];refine(show wpAny _ _ (if (Value.ref d==Value.none)=true then _ else _) _ _ s from ?_);rw[Ya (λz:(Value.ref d==Value.none)=true=>YO z)];refine ZZ (ZY (ZZ (wpAny_dictEntries hod hdd ?_)));rw[Ya (by simp)];refine ZZ (ZY (ZZ (wpAny_dictEpoch hod hdd ?_)));rw[Ya (by simp)];refine ZY ?_;simp only[show ¬((i:Int)<0) by lia,if_false,Int.toNat_natCast,Array.getElem?_eq_getElem hi];refine ZZ ?_
 first | refine ZZ (wpAny_typeNameOfWhole_keyiter hit.typeIs (ZY (ZZ (wpAny_isOneOf_keyiter hit.typeIs ?_)))) | refine ZZ (wpAny_typeNameOf_keyiter hit.typeIs (ZY (ZZ (wpAny_isOneOf_keyiter hit.typeIs ?_))))
 refine(show wpAny _ _ (setField (.ref it) 1 (rawInt ((i:Int)+1)) >>= _) _ _ s from ZZ (wpAny_setField ho hd (by simp) ?_));have hit':(s.heap.update it (Obj.mapFields (·.setIfInBounds 1 (rawInt ((i:Int)+1))))).IsKeyIter it d (i+1) es.size ep :=
  ⟨_,Heap.get?_update_self _ ho (Obj.isFreed_of_fields (Obj.data_mapFields hd _)),(Obj.cls_mapFields ..).trans hc,by rw[Obj.data_mapFields hd];simp[rawInt]⟩
 refine ZZ (ZU (ZZ (wpAny_isOneOf_keyiter (s:={ s with heap:=s.heap.update it (Obj.mapFields (·.setIfInBounds 1 (rawInt ((i:Int)+1)))) }) hit'.typeIs ?_)));refine(show wpAny _ _ (pure es[i].key) _ _ _ from ?_);exact ZY (ZY ⟨_,rfl,ZY (hQ _ hit' (Heap.SameBut.update ..))⟩)
theorem zT{Q:Option Value->Shared->Prop}(hh:A.handled=none)(hit:s.heap.IsKeyIter it d i es.size ep)(hod:s.heap.get? d=some o)(hdd:o.data=.dict es ep)(hi:es.size<=i)
  (hQ:∀h',Heap.ExtBut it s.heap h'->Q none { s with heap:=h' }):wpAny (model prog w) A (pyNext (.ref it)) Q E s:=by
 obtain⟨q,ho,hc,hd⟩:=id hit;have hown:Builtin.Dict_items.ownsTuple "dict_keyiterator" = false:=by decide
 unfold pyNext;refine ZZ (wpAny_attempt (wpAny_callSpecial?_slot (name:=ZT "__next__") hit.typeIs F.slot_dict_keyiterator_next
  (wpAny_call_entry F.slot_dict_keyiterator_next hit.typeIs F.entry_dict_keyiterator_next (ZZ (ZY (ZZ (ZZ ?_)))) (F.args_dict_keyiterator_next_1 _))))
 first | refine ZZ (wpAny_typeNameOfWhole_keyiter hit.typeIs (ZY (ZZ (wpAny_fieldsOf ho hd ?_)))) | refine ZZ (wpAny_typeNameOf_keyiter hit.typeIs (ZY (ZZ (wpAny_fieldsOf ho hd ?_))))
 simp only[hown,YN,if_false];refine(show wpAny _ _ (if (Value.ref d==Value.none)=true then _ else _) _ _ s from ?_);rw[Ya (λz:(Value.ref d==Value.none)=true=>YO z)];refine ZZ (ZY (ZZ (wpAny_dictEntries hod hdd ?_)));rw[Ya (by simp)];refine ZZ (ZY (ZZ (wpAny_dictEpoch hod hdd ?_)));rw[Ya (by simp)];refine ZY ?_;simp only[show ¬((i:Int)<0) by lia,if_false,Int.toNat_natCast,Array.getElem?_eq_none hi];refine ZZ ?_
 first | refine ZZ (wpAny_typeNameOfWhole_keyiter hit.typeIs (ZY ?_)) | refine ZZ (wpAny_typeNameOf_keyiter hit.typeIs (ZY ?_))
 refine(show wpAny _ _ (setField (.ref it) 0 .none >>= _) _ _ s from ZZ (wpAny_setField ho hd (by simp) ?_));refine(show wpAny _ _ (newExc (.type "StopIteration") [] >>= _) _ _ _ from ZZ ?_);simp only[newExc,newTuple];refine ZZ (wpAny_newObj_type (ZZ (m:=firstArgMember _ _) (wpAny_of_eq (a:=Value.none) (by first | rfl | (simp only[firstArgMember];rfl)) ?_)) (by size_fits));refine wpAny_newObj_type ?_ (by size_fits);simp only[raiseNew];refine ZZ (wpAny_handled ?_);rw[show A.in1.handled=none from hh];refine ZZ (ZY (wpAny_throw ?_));refine ZZ (wpAny_isInstance (T:="StopIteration") (b:=true) ⟨_,YS _ rfl,rfl⟩ isSubtype_stop ?_);exact ZY (hQ _ (((Heap.SameBut.update ..).extBut.push _).push _))
theorem CK(hh:A.handled=none)(hne:d≠it)(hdd:o.data=.dict es ep) :
  Walks prog w A it [it,d] [it] es.size (λi v=>∃e,es[i]?=some e/\v=e.key) (λi h=>h.IsKeyIter it d i es.size ep/\h.get? d=some o) where
 sub:=λb hb=>by simp at hb;simp[hb]
 frame:=λ_ _ _ st hk=>⟨st.1.at λo e=>hk it (by simp) o e,hk d (by simp) o st.2⟩
 item:=λi s Q E hi st hQ=>u5 st.1 st.2 hdd hi λh' hit' hs' =>
  hQ _ h' s.toks ⟨es[i],by simp[hi],rfl⟩ ⟨hit',hs'.extBut d o hne st.2⟩ λb o hb e=>hs'.extBut b o (λh=>hb (by simp[h])) e
 done:=λs Q E st hQ=>zT hh st.1 st.2 hdd (ZA _) λh' he'=>hQ h' s.toks λb o hb e=>he' b o (λh=>hb (by simp[h])) e
 self:=λ_ _ _ _ st hQ=>wpAny_pyIter_keyiter st.1 hQ
end
def Old(wr:List Addr)(g h:Heap):Prop:=∀b o,b∉wr->g.get? b=some o->h.get? b=some o
section
variable{prog:Program}{w:World}{A:Around}{R:Result->Shared->Prop}{I:Addr}{fp wr:List Addr}{n:Nat}{P:Nat->Value->Prop}{St:Nat->Heap->Prop}
def JH(prog:Program)(w:World)(A:Around)(wr:List Addr)(g:Heap)(P:Nat->Value->Prop):Prop :=
 ∀u v (s:Shared) (Q:Value->Shared->Prop) (E:Value->Shared->Prop),(∃i,P i u)->(∃i,P i v)->Old wr g s.heap->(∀c,Q (.bool c) s)->wpAny (model prog w) A (richCompare .Lt u v) Q E s
theorem Old.upd{g h:Heap}{S:Addr}{f:Obj->Obj}(hg:g.get? S=none)(h1:Old wr g h):Old wr g (h.update S f):=λb o hb e =>
 (YR _ _ (λz=>by subst z;rw[hg]at e;cases e)).trans (h1 b o hb e)
theorem yB(W:Walks prog w A.in1 I fp wr n P St){g:Heap}(hc:JH prog w A.in1 wr g P){S:Addr}(hS:S∉fp)(hg:g.get? S=none) :
  ∀(k j:Nat) (s:Shared) (vb:Value) (c:Nat),n-j=k->j<=n->St j s.heap->(∃i,P i vb)->Old wr g s.heap->s.heap.get? S=some { cls:=.type "list",dict:=none,data:=.seq #[vb,vb] c,slots:=#[] } ->
  (∀v h' tk,(∃i,P i v)->Old wr g h'->R (.ok (.ret v)) { s with heap:=h',toks:=tk })->codeAny (model prog w) A (.builtin "min.loop" ⟨[.ref I,.none,.ref S],[]⟩) R s:=by
 have hSw:S∉wr:=λh=>hS (W.sub _ h);have nm:(toString "min"++toString ".loop" : String)="min.loop":=by decide
 intro k;induction k with
 |zero =>
  intro j s vb c hk hj hst hb hO hs hR;have e:j=n:=by lia
  subst e;refine codeAny_builtin F.entry_min_loop ?_;rw[Around.under_plainId F.plain_min_loop _];refine(show wpAny _ A.in1 (seqItems? (.ref S) >>= _) _ _ s from ZZ (wpAny_seqItems hs rfl ?_));refine(show wpAny _ A.in1 (tryCatch (pyNext (.ref I)) _ >>= _) _ _ s from ZZ (wpAny_tryCatch (W.done s _ _ hst λh' tk hk'=>?_)));refine(show wpAny _ A.in1 (updateSeq S (λ_=>#[]) >>= _) _ _ _ from ZZ ?_);exact wpAny_updateSeq (hk' S _ hSw hs) rfl (ZZ (wpAny_letGo (ZY (hR vb _ tk hb (Old.upd hg λb o hb e=>hk' b o hb (hO b o hb e))))))
 |succ k ih =>
  intro j s vb c hk hj hst hb hO hs hR;have hlt:j<n:=by omega
  refine codeAny_builtin F.entry_min_loop ?_;rw[Around.under_plainId F.plain_min_loop _];refine(show wpAny _ A.in1 (seqItems? (.ref S) >>= _) _ _ s from ZZ (wpAny_seqItems hs rfl ?_));refine(show wpAny _ A.in1 (tryCatch (pyNext (.ref I)) _ >>= _) _ _ s from ZZ (wpAny_tryCatch (W.item j s _ _ hlt hst λv h' tk hP hst' hk'=>?_)));have hs':=hk' S _ hSw hs;have hO':Old wr g h':=λb o hb e=>hk' b o hb (hO b o hb e);refine(show wpAny _ A.in1 (tryCatch (holding [v,v] (richCompare .Lt v vb >>= _)) _ >>= _) _ _ _ from ZZ (wpAny_tryCatch (ZU (ZZ (hc v vb _ _ _ ⟨_,hP⟩ hb hO' λc=>?_)))));refine ZZ (ZU (wpAny_truthy_bool (ZZ (wpAny_letGo (ZY ?_)))));cases c with
  |true =>
   simp only[if_true];refine ZZ (wpAny_updateSeq hs' rfl (ZZ (wpAny_letGo ?_)));rw[nm];refine ZY ⟨plainId_quiet F.plain_min_loop _,ih (j+1) _ v _ (by omega) hlt (W.frame _ _ _ hst' λb hbf o e=>?_) ⟨_,hP⟩ (Old.upd hg hO') (Heap.get?_update_self _ hs' rfl) hR⟩;exact(YR _ _ (λh:S=b=>hS (by rw[h];exact hbf))).trans e
  |false =>
   simp only[YN,if_false];refine ZZ (wpAny_letGo ?_);rw[nm];exact ZY ⟨plainId_quiet F.plain_min_loop _,ih (j+1) _ vb _ (by omega) hlt hst' hb hO' hs' hR⟩
theorem yE{E:Value->Shared->Prop}{s:Shared}{x:Value}{Q:Value->Shared->Prop}
  (h:wpAny (model prog w) A.in1 (pyIter x) (λit s₂=>∃I fp wr n P St,it=.ref I/\Walks prog w A.in1 I fp wr n P St/\St 0 s₂.heap/\(∀b∈fp,b<s₂.heap.objs.size)/\0<n/\JH prog w A.in1 wr s₂.heap P /\
   ∀v h' tk,(∃i,P i v)->Old wr s₂.heap h'->Q v { s₂ with heap:=h',toks:=tk }) E s) :
  wpAny (model prog w) A (call (.builtin "min") [x]) Q E s:=by
 have nm:(toString "min"++toString ".loop" : String)="min.loop":=by decide
 refine call_function_tree F.kind_min F.plain_min F.entry_min (F.args_min1 _) ?_;refine(show wpAny _ A.in1 (Builtin.Builtins.bindParams "min" ["key","default"] 0 ⟨[],[]⟩ >>= _) _ _ s from ZZ (wpAny_of_eq (show Builtin.Builtins.bindParams "min" ["key","default"] 0 ⟨[],[]⟩=pure [none,none] from rfl) ?_));refine ZZ (ZY (ZZ (ZX h (λit s₂ h₂=>?_) λ_ _ e=>e)));obtain⟨I,fp,wr,n,P,St,rfl,W,hst,hfp,hn,hc,hQ⟩:=h₂;refine ZZ (wpAny_newObj_type ?_);have hSf:s₂.heap.objs.size∉fp:=λhm=>YW _ (hfp _ hm);have hg:s₂.heap.get? s₂.heap.objs.size=none:=by
  cases e:s₂.heap.get? s₂.heap.objs.size with
  |none=>rfl
  |some o=>exact Yg (YT e) (YW _)
 have hSw:s₂.heap.objs.size∉wr:=λh=>hSf (W.sub _ h);rw[nm];refine ZY ⟨plainId_quiet F.plain_min_loop _,?_⟩;refine codeAny_builtin F.entry_min_loop ?_;rw[Around.under_plainId F.plain_min_loop _];refine(show wpAny _ A.in1 (seqItems? (.ref s₂.heap.objs.size) >>= _) _ _ _ from ZZ (wpAny_seqItems (YS _ rfl) rfl ?_));refine(show wpAny _ A.in1 (tryCatch (pyNext (.ref I)) _ >>= _) _ _ _ from ZZ (wpAny_tryCatch (W.item 0 _ _ _ hn (W.frame _ _ _ hst λb _ o e=>YU _ e) λv h' tk hP hst' hk'=>?_)));have hs':=hk' _ _ hSw (YS _ rfl);refine(show wpAny _ A.in1 (updateSeq s₂.heap.objs.size (λ_=>#[v,v]) >>= _) _ _ _ from ZZ (wpAny_updateSeq hs' rfl ?_));rw[nm];refine ZY ⟨plainId_quiet F.plain_min_loop _,yB W hc hSf hg _ 1 _ v _ rfl hn (W.frame _ _ _ hst' λb hbf o e=>?_) ⟨_,hP⟩ (Old.upd hg λb o hb e=>hk' b o hb (YU _ e)) (Heap.get?_update_self _ hs' rfl) hQ⟩;exact(YR _ _ (λh:s₂.heap.objs.size=b=>hSf (by rw[h];exact hbf))).trans e
end
section
variable{prog:Program}{w:World}{A:Around}{E:Value->Shared->Prop}{s:Shared}{a b:Addr}{oa ob:Obj}{es es':Array DictEntry}{ep ep':Nat}
theorem HQ{Q:Value->Shared->Prop}(hu:A.units<cLine)(ha:(a==sysModules)=false)(hb:(b==sysModules)=false)(hoa:s.heap.get? a=some oa)(hxa:oa.ExactDict)(hda:oa.data=.dict es ep)(hob:s.heap.get? b=some ob)(hxb:ob.ExactDict)
  (hdb:ob.data=.dict es' ep') (he:es'.size=0) (h:Q (.bool (decide (es.size=0))) s):wpAny (model prog w) A (compareOp .Eq (.ref a) (.ref b)) Q E s:=by
 have ta:s.TypeIs (.ref a) "dict":=⟨oa,hoa,hxa.1⟩
 have tb:s.TypeIs (.ref b) "dict":=⟨ob,hob,hxb.1⟩
 have na:¬((a==sysModules)=true):=by rw[ha];exact YO
 have nb:¬((b==sysModules)=true):=by rw[hb];exact YO
 refine wpAny_richCompare_same_room (op:=.Eq) ta tb PySem.F.slot_dict_eq (wpAny_call_entry PySem.F.slot_dict_eq ta PySem.F.entry_dict_eq ?_ (PySem.F.args_dict_eq_2 _ _)) hu;refine(show wpAny _ _ (Builtin.Dict.dictSlotArgs "__eq__" ⟨[.ref a,.ref b],[]⟩ >>= _) _ _ s from ZZ ?_);unfold Builtin.Dict.dictSlotArgs;refine ZZ (wpAny_notOrdered_dict ta ?_);refine(show wpAny _ _ (pure (Value.ref a,Value.ref b)) _ _ s from ZY ?_);refine ZZ (wpAny_isInstance (T:="dict") tb PySem.F.sub_dict_dict ?_);simp only[Bool.not_true,YN,if_false];refine ZZ (ZY (ZZ (ZY (ZZ ?_))));unfold Builtin.Dict.samePairs Builtin.Dict.showsAll;rw[Ya na,Ya nb];refine ZZ (ZY (ZZ (ZY (ZZ (wpAny_dictEntries hoa hda ?_)))));dsimp only;refine ZZ (wpAny_dictEntries hob hdb ?_);by_cases hz:es.size=0
 ·rw[Ya (by rw[hz,he];simp)];refine ZZ (wpAny_dictEpoch hoa hda (ZZ ?_));rw[Std.Legacy.Range.forIn_eq_forIn_range'];simp only[Std.Legacy.Range.size,YY,Nat.add_sub_cancel,Nat.div_one,hz,List.range'_zero,List.forIn_nil];refine ZY (ZY (ZY ⟨_,rfl,(λx=>nomatch x),?_⟩));rw[Ye hz]at h;exact h
 ·rw[Yb (by rw[he];simpa using hz)];refine ZZ (wpAny_rule (ZY (ZY ⟨_,rfl,(λx=>nomatch x),?_⟩)));rw[Yc hz]at h;exact h
end
end SO
namespace L2
open PySem PySem.Spec PyProof.Rows
section
variable{X:Cx}
def KD:V->List V->Hp->VK->Prop:=λx vs H Q=>x.gr λl=>∃(ns:List Int) (k:Int),vs=[.int k]/\H l=some (.lst (ns.map V.int))/\Q (.int (ns.count k:Nat)) H
theorem u6:MtM X "list.count" KD:=by
 intro pins s σ H x vs v us Q I rx rv h;obtain⟨l,rfl,z1⟩:=a8 h;obtain⟨ns,k,rfl,hH,q⟩:=z1;cases rx;obtain⟨u,rfl,t,rfl⟩:=rv.one;obtain⟨z,its,n,r,hl,e⟩:=I.lstM hH;exact count_list_ints ⟨_,e,rfl,n,rfl⟩ (intsAre_of r) ⟨.int _,H,I.tok _,⟨_,rfl⟩,q⟩
def O4:R2:=λx y H Q=>x.gr λa=>y.gr λb=>∃(kvs:List (List Key×V)),Rd H a (.dT kvs)/\Rd H b (.dT [])/\Q (.bl (decide (kvs.length=0))) H
theorem KQ(hu:X.A.units<cLine):OpR X (compareOp .Eq) O4:=by
 intro pins s σ H x y v u Q I rx ry h;obtain⟨a,rfl,z1⟩:=a8 h;obtain⟨b,rfl,z2⟩:=a8 z1;obtain⟨kvs,ha,hb,q⟩:=z2;cases rx;cases ry;obtain⟨_,na,xs,ra,oa,es,ep,ga,xa,da,ea,_⟩:=j9 I.hok ha;obtain⟨_,nb,ys,rb,ob,es',ep',gb,xb,db,eb,_⟩:=j9 I.hok hb;cases rb;have h1:es.size=kvs.length:=by rw[size_of_entries ea,<-Paired.length ra]
 refine SO.HQ hu na nb ga xa da gb xb db (size_of_entries eb) ⟨.bl _,H,I,rfl,?_⟩;rw[h1];exact q
theorem EN{H:Hp}:∀{kvs:List (List Key×V)}{xs:List (List Key×Addr×Value)}{i:Nat}{q:List Key×Addr×Value},KT H kvs xs->xs[i]?=some q->∃p,kvs[i]?=some p/\p.1=q.1/\H q.2.1=some (.tup (p.1.map kV))/\RelV p.2 q.2.2
 |_,_,_,_,.nil,e=>by simp at e
 |_,_,0,_,.cons (a:=p) r _,e=>by
  simp at e;subst e;exact⟨p,rfl,r⟩
 |_,_,i+1,q,.cons _ t,e=>by
  obtain⟨p,h1,h2⟩:=EN (i:=i) (q:=q) t (by simpa using e);exact⟨p,by simpa using h1,h2⟩
theorem kt_at{P:Program}{w:World}{H:Hp}{kvs:List (List Key×V)}{xs:List (List Key×Addr×Value)}{es:Array DictEntry}{i:Nat}{e:DictEntry}(r:KT H kvs xs)(ee:es.toList=xs.map (entryOfKey (tupleKind (bT P w))))(h:es[i]?=some e) :
  ∃(p:List Key×V) (b:Addr),kvs[i]?=some p/\e.key=.ref b/\H b=some (.tup (p.1.map kV)):=by
 rw[entry_at ee]at h;obtain⟨q,h1,rfl⟩:=Xx.mp h;obtain⟨p,g1,_,g3,_⟩:=EN r h1;exact⟨p,q.2.1,g1,rfl,g3⟩
theorem BW(hc:X.calm=true)(hu:X.A.in1.units<cLine):dE X (.builtin "min") (λxs H Q=>∃(d:Addr) (kvs:List (List Key×V)),xs=[.ref d]/\H d=some (.dT kvs)/\0<kvs.length/\(∀p∈kvs,∃ns:List Int,p.1.map kV=ns.map V.int) /\
  ∀(p:List Key×V) (b:Addr),p∈kvs->H b=some (.tup (p.1.map kV))->Q (.ref b) H):=by
 intro pins s σ H xs us Q I r h;obtain⟨d,kvs,rfl,hd,h0,hn,q⟩:=h;obtain⟨u,rfl,rx⟩:=vals1 r;cases rx;obtain⟨_,nd,ys,rk,o,es,ep,go,xo,dat,ee,_⟩:=E6 I.hok hd;have hsz:es.size=kvs.length:=by rw[size_of_entries ee,<-Paired.length rk]
 have hlt:=YT go;refine SO.yE (SO.vG go xo dat nd ?_);refine⟨s.heap.objs.size,_,[s.heap.objs.size],es.size,_,_,rfl,SO.CK (A:=X.A.in1) (show X.A.in1.handled=none from I.ok.hd hc) (YZ hlt) dat,⟨⟨_,YS _ rfl,rfl,rfl⟩,YU _ go⟩,λb hb=>?_,by lia,?_,λv h' tk hv hk=>?_⟩
 ·have hp:=YT (YS s.heap (o:={ cls:=.type "dict_keyiterator",data:=.fields #[.ref d,.int 0 0,.int es.size 0,.int ep 0] }) rfl);simp only[Zn,ZL,or_false]at hb;rcases hb with rfl | rfl
  ·exact hp
  ·exact Nat.lt_trans hlt hp
 ·rintro u v s' Q' E' ⟨i,e,he,rfl⟩ ⟨j,f,hf,rfl⟩ hO hq;obtain⟨p1,b1,g1,k1,t1⟩:=kt_at rk ee he;obtain⟨p2,b2,g2,k2,t2⟩:=kt_at rk ee hf;rw[k1,k2];obtain⟨n1,e1⟩:=hn p1 (Zg g1);obtain⟨n2,e2⟩:=hn p2 (Zg g2);rw[e1]at t1;rw[e2]at t2;obtain⟨its1,r1,⟨o1,z1,c1,m1,d1⟩,_⟩:=I.tuple (aH t1);obtain⟨its2,r2,⟨o2,z2,c2,m2,d2⟩,_⟩:=I.tuple (aH t2);have old:∀{b:Addr}{o:Obj},s.heap.get? b=some o->s'.heap.get? b=some o:=λ{b o} e=>hO b o (by simp only[Zn,ZL,or_false];exact YZ (YT e)) (YU _ e);exact SO.G8 (A:=X.A.in1) hu (old z1) c1 d1 (old z2) c2 d2 (intsAre_of r1) (intsAre_of r2) hq
 ·obtain⟨i,e,he,rfl⟩:=hv;obtain⟨p,b,g1,k1,t1⟩:=kt_at rk ee he;rw[k1];refine⟨.ref b,H,I.kept (h':=h') (t':=tk) λc o e=>hk c o ?_ (YU _ e),rfl,q p b (Zg g1) t1⟩;simp only[Zn,ZL,or_false];exact YZ (YT e)
theorem Inv.freezeT{pins:List (Addr×Obj)}{σ:St}{H:Hp}{s:Shared}{d:Addr}{kvs:List (List Key×V)}{o:Obj}(I:Inv X pins σ H s)(hd:H d=some (.dT kvs))(ho:s.heap.get? d=some o):Inv X pins σ (upd H d (.frz o (.dT kvs))) s:=by
 have ne:∀b u,H b=some u->(∀z,u≠.dT z)->b≠d:=λb u e z q=>by subst q;rw[hd]at e;cases e;exact z _ rfl
 refine I.step (h':=s.heap) (g':=s.gens) (d':=s.drawn) (t':=s.toks) (ch:=[]) (λ_ z=>nomatch z) (λb o' _ _ _ e _=>e) (λb o' _ _ _ e _=>⟨o'.slots,e⟩) (λb o' _ _ e=>?_) (λb o' _ e=>⟨o',e⟩) (λb xs e=>?_) (λb ob u e=>?_) (λb ps e=>⟨#[],?_⟩) (λm h=>h) (λb u e=>?_) I.bare
 ·rw[aF (λq=>by subst q;rw[hd]at e;cases e)];exact e
 ·rw[aF (ne b _ e λz q=>by cases q)];exact e
 ·rw[aF (ne b _ e λz q=>by cases q)];exact e
 ·rw[aF (ne b _ e λz q=>by cases q),e];simp
 ·by_cases hb:b=d
  ·subst hb;rw[aA]at e;cases e;refine⟨ho,(I.hok _ _ hd).stay (λc v _ q=>q) (λc q=>?_) λc xs q=>?_⟩
   ·rw[aF (ne c _ q λz q'=>by cases q')];exact q
   ·rw[aF (ne c _ q λz q'=>by cases q')];exact q
  ·rw[aF hb]at e;exact(I.hok b u e).stay (λc v _ q=>q) (λc q=>by rw[aF (ne c _ q λz q'=>by cases q')];exact q) λc xs q=>by rw[aF (ne c _ q λz q'=>by cases q')];exact q
def ItK(d:Addr)(o:Obj)(kvs:List (List Key×V)):It :=
 ⟨λi H=>H d=some (.frz o (.dT kvs))/\i<kvs.length,λi H v H'=>H'=H/\∃T p,kvs[i]?=some p/\v=.ref T/\H T=some (.tup (p.1.map kV)),λi H=>H d=some (.frz o (.dT kvs))/\kvs.length<=i⟩
theorem AR{P:Program}{w:World}{K:PySem.W.Frag}{tg:Expr}(d it:Addr)(o:Obj)(kvs:List (List Key×V)){es:Array DictEntry}{ep:Nat}(hdat:o.data=.dict es ep)(hsz:es.size=kvs.length) :
  Turn P w K tg (ItK d o kvs) [it] it (λi h=>h.IsKeyIter it d i es.size ep) where
 mem:=by simp
 obj:=λi h st b hb=>by
  have e':=Zb.mp hb;subst e';obtain⟨q,e,c,dd⟩:=st;exact⟨q,e,λv z=>by rw[dd]at z;cases z⟩
 keep:=λi h h' st k=>st.at λo e=>k it (by simp) o e
 item:=by
  intro X hP hw hK hc i pins s σ H E I hf st hg;subst hP hw hK;obtain⟨hfz,hi⟩:=hg;have ho:s.heap.get? d=some o:=(show bI X.prog X.w H s.heap d (.frz o (.dT kvs)) from I.hok d _ hfz).1;obtain⟨_,_,xs,rk,o',es',ep',ho',_,hd',ee,_⟩:=j9 I.hok (Or.inr ⟨o,hfz⟩);rw[ho]at ho';cases ho';rw[hdat]at hd';cases hd';have hi':i<es.size:=by lia
  obtain⟨f0,f1,f2,f3,f4,f5⟩:=hf it (by simp);obtain⟨p,b,g1,k1,t1⟩:=kt_at rk ee (Array.getElem?_eq_getElem hi');refine SO.u5 st ho hdat hi' λh' st' sb=>?_;rw[k1];have I1:Inv X pins σ H { s with heap:=h' }:=I.turned (t':=s.toks) (λb o hb e=>(sb.2 b hb).trans e) f0 f1 f3 f4 f5;obtain⟨q,e,c,dd⟩:=id st';exact⟨_,rfl,EY (s:={ s with heap:=h' }) e c dd (by decide) ⟨.ref b,H,I1,rfl,⟨rfl,b,p,g1,rfl,t1⟩,st',λb hb=>(hf b hb).1⟩⟩
 done:=by
  intro X hP hw hK hc i pins s σ H E I hf st hg;subst hP hw hK;obtain⟨hfz,hi⟩:=hg;have ho:s.heap.get? d=some o:=(show bI X.prog X.w H s.heap d (.frz o (.dT kvs)) from I.hok d _ hfz).1;obtain⟨f0,f1,f2,f3,f4,f5⟩:=hf it (by simp);exact SO.zT (I.ok.hd hc) st ho hdat (by lia) λh' eb=>⟨rfl,I.turned (t':=s.toks) (λb o hb e=>eb b o hb e) f0 f1 f3 f4 f5⟩
 self:=λ_ _ _ _ _ st h=>wpAny_pyIter_keyiter st h
def NZ(tl:TE):TI:=λσ H R=>tl σ H λx H1=>x.gr λd=>∃(kvs:List (List Key×V)),H1 d=some (.dT kvs)/\∀o,R (ItK d o kvs) (upd H1 d (.frz o (.dT kvs)))
theorem GP{tg l:Expr}{tl:TE}(hl:PE X l tl):PI X tg l (NZ tl):=by
 intro pins s σ H R I h;refine bY (hl pins s σ H _ I h) λv s1 x H1 I1 r1 zz=>?_;obtain⟨d,ex,kvs,hd,q⟩:=a8 zz;subst ex;cases r1;obtain⟨_,nd,ys,rk,o,es,ep,go,xo,dat,ee,_⟩:=E6 I1.hok hd;have hsz:es.size=kvs.length:=by rw[size_of_entries ee,<-Paired.length rk]
 refine SO.vG go xo dat nd ?_;have I2:=I1.freezeT hd go;refine⟨s1.heap.objs.size,[s1.heap.objs.size],_,_,_,rfl,I2.kept (t':=s1.toks) λb o e=>YU _ e,AR d _ o kvs dat hsz,⟨_,YS _ rfl,rfl,rfl⟩,λb hb=>?_,q o⟩;have e':=Zb.mp hb;subst e';exact I2.fpOk (ZA _) (I2.hok.fresh (ZA _))
end
theorem E2{d:Addr}{o:Obj}{kvs:List (List Key×V)}{g:TG}{tb:TS}{D:Ends}{σ:St}{H:Hp}(Pv:Nat->St->Hp->Prop)(h0:Pv 0 σ H)(hl:∀i σ H,i<=kvs.length->Pv i σ H->H d=some (.frz o (.dT kvs)))
  (hs:∀(i:Nat) p σ H T,kvs[i]?=some p->Pv i σ H->H T=some (.tup (p.1.map kV))->g (.ref T) σ H λσ2 H2=>tb { D with nx:=Pv (i+1),ct:=Pv (i+1),bk:=D.nx } σ2 H2) (hd:∀σ H,Pv kvs.length σ H->D.nx σ H) :
  ∃W:Nat->Nat->St->Hp->Prop,(∃m,W 0 m σ H)/\∀i m σ H,W i m σ H ->
   ((ItK d o kvs).stop i H/\D.nx σ H)\/((ItK d o kvs).go i H/\∃N:St->Hp->Prop,(∀σ' H',N σ' H'->∃m',m' < m/\W (i+1) m' σ' H')/\∀x H',(ItK d o kvs).yld i H x H'->g x σ H' λσ2 H2=>tb { D with nx:=N,ct:=N,bk:=D.nx } σ2 H2):=by
 refine⟨λi m σ H=>m=kvs.length-i/\i<=kvs.length/\Pv i σ H,⟨kvs.length,by simp,YX _,h0⟩,?_⟩;rintro i m σ H ⟨rfl,hi,p⟩;have q:=hl i σ H hi p;by_cases hlt:i<kvs.length
 ·refine .inr ⟨⟨q,hlt⟩,Pv (i+1),λσ' H' p'=>⟨kvs.length-(i+1),by omega,rfl,hlt,p'⟩,λx H' y=>?_⟩;obtain⟨rfl,T,kv,e,rfl,hT⟩:=y;exact hs i kv σ _ T e p hT
 ·have e:i=kvs.length:=by lia
  subst e;exact .inl ⟨⟨q,ZA _⟩,hd σ H p⟩
structure M2(X:Cx)(o:Expr)(m:Str)(apos:Pos)(e f:Expr)(cpos:Pos):Prop where
 base:attributeBase o m X.env (eval o X.env)=eval o X.env
 few:((backTo cpos (starEach [e,f] X.env)).all (λx=>!x.1)&&(backToKw cpos (keywordEach [] X.env)).all (λx=>x.1.isSome)
  && decide (([e,f]:List Expr).length+([]:List Keyword).length+(if ([]:List Keyword).isEmpty then 0 else 1)<30))=true
 line:(apos.endLine==cpos.line)=true
 trees:backTo cpos (starEach [e,f] X.env)=[(false,eval e X.env),(false,eval f X.env)]
def IsD(H:Hp)(a:Addr):Prop:=(∃kvs,Rd H a (.dK kvs))\/∃kvs,Rd H a (.dT kvs)
theorem LS{X:Cx}{pins:List (Addr×Obj)}{σ:St}{H:Hp}{s:Shared}{a:Addr}(I:Inv X pins σ H s)(d:IsD H a) :
  s.TypeIs (.ref a) "dict"/\(∀b,Value.ref a=.ref b->∃ob,s.heap.get? b=some ob/\ob.dict=none)/\(a==sysModules)=false:=by
 rcases d with⟨kvs,e⟩ | ⟨kvs,e⟩
 ·obtain⟨_,hd,vs,_,dd⟩:=qI I.hok e;refine⟨dd.typeIs,λb q=>?_,hd⟩;cases q;obtain⟨ob,_,_,h1,h2,_⟩:=dd;exact⟨ob,h1,h2.2.1⟩
 ·obtain⟨_,hd,xs,_,dd⟩:=j9 I.hok e;refine⟨dd.typeIs,λb q=>?_,hd⟩;cases q;obtain⟨ob,_,_,h1,h2,_⟩:=dd;exact⟨ob,h1,h2.2.1⟩
section
variable{X:Cx}{pins:List (Addr×Obj)}{σ:St}{H:Hp}{s:Shared}{a:Addr}{y d:V}{u r:Value}{o:Option V}{A:Around}{E:Value->Shared->Prop}
theorem MA{Q:Value->Shared->Prop}(hu:A.units+1<cLine)(I:Inv X pins σ H s)(g:eX H a y o)(ry:RelV y u)(rd:RelV d r)(h:∀w' s',Inv X pins σ H s'->RelV (o.getD d) w'->Q w' s') :
  wpAny (model X.prog X.w) A (call (.builtin "dict.get") [.ref a,u,r]) Q E s:=by
 rcases g with⟨kvs,k,e,ey,l⟩ | ⟨kvs,k,b,e,ey,eb,l⟩
 ·subst ey;obtain⟨z,hd,vs,rel,dd⟩:=qI I.hok e;refine call_meetsIn PySem.F.slot_dict_get dd.typeIs PySem.F.entry_dict_get (PySem.F.args_dict_get_3 _ _ _) (meets_dict_get_default (bT X.prog X.w) a (qC ry) hd r) ⟨_,dd.mapOf,h _ _ (I.tok _) ?_⟩;rw[l];exact(rel.val k).getD rd
 ·subst ey;cases (show u=Value.ref b from ry);obtain⟨z,hd,xs,rel,dd⟩:=j9 I.hok e;refine call_meetsIn PySem.F.slot_dict_get dd.typeIs PySem.F.entry_dict_get (PySem.F.args_dict_get_3 _ _ _) (meetsH_dict_get_default (tupleKind (bT X.prog X.w)) a b hd r) ⟨tupleKind_room_in1 hu,k,xs,nE I.hok eb,dd,h _ _ (I.tok _) ?_⟩;rw[l];exact(rel.val k).getD rd
end
def JU(td ty tx:TE):TE:=λσ H Q=>td σ H λx H1=>x.gr λa=>IsD H1 a/\ty σ H1 λy H2=>tx σ H2 λz H3=>∃o,eX H3 a y o/\Q (o.getD z) H3
section
variable{X:Cx}{o e f:Expr}{apos cpos:Pos}{td ty tx:TE}
theorem DR(hu:X.A.units+1<cLine)(ho:PE X o td)(he:PE X e ty)(hf:PE X f tx)(m:M2 X o "get" apos e f cpos):PE X (.Call (.Attribute o "get" apos) [e,f] [] cpos) (JU td ty tx):=by
 intro pins s σ H Q I h;refine wpAny_Call_method m.base m.few m.line PySem.F.plainAttrs_dict PySem.F.slot_dict_get PySem.F.type_dict_get (bY (ho pins s σ H _ I h) λu s1 x H1 I1 rx zz=>?_);obtain⟨a,ex,d,q1⟩:=a8 zz;subst ex;obtain rfl:u=Value.ref a:=rx;obtain⟨t1,t2,_⟩:=LS I1 d;refine⟨t1,t2,?_⟩;rw[m.trees];refine Calls.callWith_builtin rfl (Calls.evalArgs_plain (Calls.spliced_cons (bY (he pins s1 σ H1 _ I1 q1) λiv s2 y H2 I2 ry q2 =>
  Calls.spliced_cons (thn (hf pins s2 σ H2 _ I2 q2) λfv s3 ⟨z,H3,I3,rz,ov,g,q3⟩=>Calls.spliced_nil ?_))))
 exact MA hu I3 g ry rz λw' s4 I4 rw'=>⟨_,H3,I4,rw',q3⟩
end
def wZ:List (TE×TE)->St->Hp->(List (V×V)->Hp->Prop)->Prop
 |[],_,H,Q=>Q [] H
 |(tk,tv)::r,σ,H,Q=>tk σ H λx H1=>tv σ H1 λy H2=>wZ r σ H2 λps H3=>Q ((x,y)::ps) H3
abbrev VV:List (V×V)->List (Value×Value)->Prop:=Paired λp q=>RelV p.1 q.1/\RelV p.2 q.2
def PPs(X:Cx)(pos:Pos)(keys:List (Option Expr))(values:List Expr)(trs:List (TE×TE)):Prop :=
 ∀(pins:List (Addr×Obj)) (s:Shared) (σ:St) (H:Hp) (Q:List (V×V)->Hp->Prop),Inv X pins σ H s->wZ trs σ H Q ->
  wpAny (model X.prog X.w) X.A (evalPairs (pairTrees keys values X.env pos)) (λvs s'=>∃ps H',Inv X pins σ H' s'/\VV ps vs/\Q ps H') X.xe s
theorem GN{X:Cx}{pos:Pos}:PPs X pos [] [] []:=λpins s σ H Q I h=>pairTrees_nil_walk ⟨[],H,I,.nil,h⟩
theorem DG{X:Cx}{pos:Pos}{k v:Expr}{ks:List (Option Expr)}{vs:List Expr}{tk tv:TE}{trs:List (TE×TE)}(hk:PE X k tk)(hv:PE X v tv)(hr:PPs X pos ks vs trs) :
  PPs X pos (some k::ks) (v::vs) ((tk,tv)::trs):=λpins s σ H Q I h =>
 pairTrees_cons_walk (bY (hk pins s σ H _ I h) λu s1 x H1 I1 rx q1=>bY (hv pins s1 σ H1 _ I1 q1) λw2 s2 y H2 I2 ry q2 =>
  thn (hr pins s2 σ H2 _ I2 q2) λws s3 ⟨ps,H3,I3,rel,q3⟩=>⟨(x,y)::ps,H3,I3,.cons ⟨rx,ry⟩ rel,q3⟩)
def kK(kvs more:List (Key×V)):List (Key×V):=more.foldl (λacc kv=>putK acc kv.1 kv.2) kvs
theorem KV.merge:∀{more:List (Key×V)}{rs:List (Key×Value)}{kvs:List (Key×V)}{vs:List (Key×Value)},KV more rs->KV kvs vs->KV (kK kvs more) (merged vs rs):=by
 intro more rs kvs vs r;unfold KV at r;induction r generalizing kvs vs with
 |nil=>intro q;exact q
 |@cons p q ps qs h t ih =>
  intro r0;have e:KV (putK kvs p.1 p.2) (stored vs q.1 q.2):=by
   have:=r0.put p.1 h.2;rw[<-h.1];exact this
  exact ih e
theorem j8:∀(more kvs:List (Key×V)),(kK kvs more).length<=kvs.length+more.length
 |[],kvs=>by show kvs.length<=kvs.length+0;lia
 |p::r,kvs=>by
  have h1:=j8 r (putK kvs p.1 p.2);have h2:=aX kvs p.1 p.2;show(kK (putK kvs p.1 p.2) r).length<=_;rw[Yq];lia
theorem qO{P:Program}{w:World}:∀{kvs:List (Key×V)}{ws:List (Value×Value)},VV (kvs.map λkv=>(kV kv.1,kv.2)) ws->∃rs,Carries (bT P w) ws rs/\KV kvs rs
 |[],_,r=>by rw[List.map_nil]at r;cases r;exact⟨[],True.intro,.nil⟩
 |p::kvs,_,r=>by
  rw[ZI]at r;cases r with
  |@cons a b as bs h t =>
   obtain⟨rs,c,q⟩:=qO (P:=P) (w:=w) t;obtain⟨b1,b2⟩:=b;exact⟨(p.1,b2)::rs,⟨qC h.1,rfl,c⟩,.cons ⟨rfl,h.2⟩ q⟩
def MV(trs:List (TE×TE)):TE:=λσ H Q=>∀p,H p=none->wZ trs σ (upd H p (.dK [])) λps H2=>H2 p=some (.dK [])/\∃kvs:List (Key×V),ps=kvs.map (λkv=>(kV kv.1,kv.2))/\kvs.length<=15/\Q (.ref p) (upd H2 p (.dK (kK [] kvs)))
theorem GR{X:Cx}{pos:Pos}{keys:List (Option Expr)}{values:List Expr}{trs:List (TE×TE)}(h:PPs X pos keys values trs)(hall:keys.all (·.isSome)=true)(hl:keys.length=values.length)(h0:keys≠[])
  (h15:keys.length<=15):PE X (.Dict keys values pos) (MV trs):=by
 intro pins s σ H Q I q;have hn:=I.hok.fresh (ZA s.heap.objs.size);have I1:=I.laid (a:=s.heap.objs.size) (o:=.dK []) (h':=s.heap.push { cls:=.type "dict",data:=.dict #[] }) (t':=s.toks) (λ_ _ q=>YU _ q) (ZA _) (E9 s.heap I.big);refine wpAny_Dict_walk (knd:=bT X.prog X.w) hall hl h0 h15 (thn (h pins _ σ _ _ I1 (q _ hn)) λws s2 ⟨ps,H2,I2,rel,e,kvs,ep,lk,q2⟩=>?_);subst ep;obtain⟨rs,c,rk⟩:=qO (P:=X.prog) (w:=X.w) rel;obtain⟨z,hd,vs0,r0,dd⟩:=JB I2.hok e;cases r0;refine⟨rs,c,dd,λh' dd' hs=>⟨.ref s.heap.objs.size,_,?_,rfl,q2⟩⟩;have hz:(kK [] kvs).length<=ZW:=by
  have h1:=j8 kvs [];rw[List.length_nil]at h1;rw[sizeLine_eq];lia
 have he:∃q,h'.get? s.heap.objs.size=some q:=let⟨q,_,_,hq,_⟩:=dd';⟨q,hq⟩;exact tY I2 (by rw[e];exact True.intro) hs he (E8 hz hd (rk.merge .nil) dd')
section
variable{X:Cx}
end
section
variable{X:Cx}
def GG:V->List V->Hp->VK->Prop:=λx vs H Q=>x.gr λl=>∃(ns:List Int) (v:Int),vs=[.int v]/\H l=some (.lst (ns.map V.int))/\v∈ns/\Q (vn (ns.idxOf v)) H
theorem BG:MtM X "list.index" GG:=by
 intro pins s σ H x vs v us Q I rx rv h;obtain⟨l,rfl,z1⟩:=a8 h;obtain⟨ns,k,rfl,hH,hm,q⟩:=z1;cases rx;obtain⟨u,rfl,t,rfl⟩:=rv.one;obtain⟨z,its,n,r,hl,e⟩:=I.lstM hH;have hlen:its.length=ns.length:=by rw[<-hl];simp
 have hj:ns.idxOf k<ns.length:=ZM hm;have item:∀(m:Nat) (hm:m<its.toArray.size),eqU (.int k) its.toArray[m]=(ns[m]'(by simpa[hlen] using hm)==k):=λm hm'=>by
  have hm2:m<ns.length:=by simpa[hlen] using hm'
  have hx:(ns.map V.int)[m]?=some (.int ns[m]):=by rw[Zk,Zz hm2];rfl
  obtain⟨u',hu',ru'⟩:=r.get hx;have e1:its.toArray[m]=u':=by
   have:its[m]?=some its.toArray[m]:=by simp at hm' ⊢
   rw[this]at hu';exact Option.some.inj hu'
  rw[e1,nF ru' rfl];rfl
 have hsm:((ns.idxOf k:Nat):Int)<2 ^ 63-1:=by
  have h1:=fZ;have h2:(ns.map V.int).length=ns.length:=by simp
  lia
 refine call_meets F.slot_list_index ⟨_,e,rfl⟩ F.entry_list_index (F.args_list_index_2 _ _) (SeqAt.list_indexAt l its.toArray n none #[] (.int k t) (eqU (.int k)) (ns.idxOf k) (by simpa[hlen] using hj) hsm ?_ ?_) ⟨e,λy hy=>?_,?_⟩
 ·rw[item];simp
 ·intro m hm' hlt;rw[item];have:=List.not_of_lt_findIdx (p:=(·==k)) (xs:=ns) (i:=m) hlt;simpa using this
 ·have fl:(ns.map V.int).all fL=true:=by rw[ZD];intro y hy;obtain⟨n,_,rfl⟩:=Zh.mp hy;rfl
  exact dR (x:=.int k) ⟨t,rfl⟩ rfl r fl y (by simpa using hy)
 ·exact⟨vn (ns.idxOf k),H,I.tok _,⟨_,rfl⟩,q⟩
end
section
variable{P:Program}{w:World}{H H':Hp}{h h':Heap}{a:Addr}{o:HO}
theorem bI.here(x:bI P w H h a o):∃u,h.get? a=some u:=by
 cases o with
 |lst xs=>exact let⟨_,_,_,_,e⟩:=x;⟨_,e⟩
 |tup xs=>exact let⟨_,_,_,_,e,_⟩:=x;⟨_,e⟩
 |dK kvs=>exact let⟨_,_,_,_,_,_,_,e,_⟩:=x;⟨_,e⟩
 |dT kvs=>exact let⟨_,_,_,_,_,_,_,e,_⟩:=x;⟨_,e⟩
 |set S n=>exact let⟨_,_,_,_,e,_⟩:=x;⟨_,e⟩
 |ins C dx fs=>exact let⟨_,_,_,e,_⟩:=x;⟨_,e⟩
 |own y=>exact x
 |xd fs=>obtain⟨_,h1,_⟩:=x;obtain⟨_,_,_,e,_⟩:=h1;exact⟨_,e⟩
 |rng lo hi=>exact let⟨_,_,_,e⟩:=x;⟨_,e⟩
 |frz ob u=>exact⟨_,x.1⟩
 |tbl ps=>exact⟨_,(show h.get? a=some _ from x)⟩
 |met f y=>exact⟨_,(show h.get? a=some _ from x)⟩
 |ext φ=>exact x.2.1
theorem HOk.gone(x:HOk P w H h)(e:h.get? a=none):H a=none:=by
 cases q:H a with
 |none=>rfl
 |some o =>
  obtain⟨u,z⟩:=(x a o q).here;rw[e]at z;cases z
theorem HOk.hid{fs:List Addr}(x:HOk P w H h)(n:∀b∈fs,H b=none):HOk P w H (PySem.W.hideAll h fs):=λa o e=>by
 refine(x a o e).stay (λb u hb q=>PySem.W.hideAll_get fs q λm=>?_) (λ_ q=>q) λ_ _ q=>q;have z:=n b m;rcases hb with rfl | hb
 ·rw[z]at e;cases e
 ·rw[z]at hb;cases hb
end
def CXr(P:Program)(w:World)(C:Addr):CXT:=λouter H s E e s' =>
 ∃(x:Addr) (a0:Value) (B:Heap) (H':Hp),e=.ref x/\s'.os=s.os/\AllBare s'.gens/\Un (frs outer) [] H H' s.heap s'.heap /\
  (∀b o,s.heap.get? b=some o->H b=none->b∉frs outer->B.get? b=some o)/\(∀b o,s.heap.get? b=some o->b∉frs outer->∃u,B.get? b=some u)/\HOk P w H' B/\Heap.FlyingW B outer x (.ref C) a0 s'.heap/\E e none H'
theorem L8{K:PySem.W.Frag}{h:Heap}{C:Addr}{bmB:List Value}{newId:String}(X:K.In h)(q:PySem.W.excIn K C bmB newId=true) :
  ∃bm N nm qn bs hdct sn sub ab col dd k0 k1 k2 k3 k5 mN,h.get? C=some (excClassObj nm qn C N bs bm hdct sn sub ab col dd k0 k1 k2 k3 k5 newId)/\h.Ns N mN/\mN "__init__" = none/\OwnTail h bmB bm:=by
 unfold PySem.W.excIn at q;split at q
 ·rename_i dd cd sl ho
  split at q
  ·rename_i C' bm k0 k1 k2 k3 n k5 hm hs
   simp only[Xb,beq_iff_eq,Bool.not_eq_true']at q;obtain⟨⟨⟨⟨⟨e1,e2⟩,e3⟩,e4⟩,e5⟩,e6⟩:=q;subst e1;subst e2;cases cd with
   |mk nm bs mro ns qn hd sn sub ab col del =>
    cases sl with
    |mk l =>
     change mro=_ at hm;change l=_ at hs;change del=false at e3;cases hm;cases hs;cases e3;refine⟨bm,ns,nm,qn,bs,hd,sn,sub,ab,col,dd,k0,k1,k2,k3,k5,h.nsMap ns,?_,?_,?_,PySem.W.tail_of_in X e4⟩
     ·exact X _ _ ho
     ·exact Heap.Ns.of_isNs (PySem.W.isNs_of_in X e5)
     ·exact PySem.W.nsMap_none_of_in X e5 e6
  ·cases q
 ·cases q
def JQ(E:XK):TS:=λ_ _ H=>∀x:Addr,E (.ref x) none H
section
variable{P:Program}{w:World}{K:PySem.W.Frag}{mg:Str->Option Value}{base:Heap}{N:List Str}{qual:Str}{scope:Scope}{f C:Addr}{cd:Value}{A:Around}{outer:List Env}{s₀:Shared}{H₀:Hp}{E:XK}
 {x:Str}{Bs newId initId:String}{bm:List Value}{np cpos pos p:Pos}{msg:Str}{j:Nat}
theorem fI(O:PySem.W.excIn K C bm newId=true)(FB:ExcBaseFacts Bs newId initId bm)(hm:mg x=some (.ref C))(hg:scope.names.lookup x=some .globalImplicit:=by rfl)(hd:(x==("__debug__" : Str))=false:=by decide) :
  PS (nZ (CXr P w C) P w K mg base N qual scope f cd A outer s₀ H₀ E) (.Raise (some (.Call (.Name x np) [.Constant (.str msg) j p] [] cpos)) none pos) (JQ E):=by
 intro pins s σ H D I h;obtain⟨bm',N',nm,qn,bs,hdct,sn,sub,ab,col,dd,k0,k1,k2,k3,k5,mN,hC,hN,hni,T⟩:=L8 I.ok.mod.kin O;refine wpAny_Raise_call_subT (nm:=nm) (q:=qn) (C:=C) (N:=N') (bs:=bs) (bm:=bm') (hdct:=hdct) (sn:=sn) (sub:=sub) (ab:=ab) (col:=col) (dd:=dd)
  (k0:=k0) (k1:=k1) (k2:=k2) (k3:=k3) (k5:=k5) FB (T.hasType FB.hasBase) (I.ok.hd rfl) rfl hni (oO I hg hm ⟨rfl,?_⟩ hd)
 refine Calls.evalArgs_plain (thn ((aE DP aK:PA _ [.Constant (.str msg) j p] _) cpos pins s σ H (λvs H1=>vs.length=1/\H1=H) I ⟨rfl,rfl⟩) ?_);rintro us s2 ⟨vs,H2,I2,r,hl,rfl⟩;refine⟨rfl,?_,I2.bk C _ hC,hN.keeps I2.bk,T.keeps I2.bk,λh' e hx=>?_⟩
 ·show us.length<=ZW;rw[<-r.length,hl];decide
 ·have hst:s2.heap.FunFrames base (envOfC qual scope s₀.heap.objs.size f cd::outer):=I2.stack;have hin:∀env∈envOfC qual scope s₀.heap.objs.size f cd::outer,∀b,env.frame=some b->b∈frs (envOfC qual scope s₀.heap.objs.size f cd::outer):=λenv he b hb=>List.mem_filterMap.mpr ⟨env,he,hb⟩;have hfree:∀b∈frs (envOfC qual scope s₀.heap.objs.size f cd::outer),H2 b=none:=I2.stkFree;have hub:Un (frs outer) [] H₀ H2 s₀.heap s2.heap:=I2.base;have old:∀b o,s₀.heap.get? b=some o->b∉frs outer->b∉frs (envOfC qual scope s₀.heap.objs.size f cd::outer):=λb o hb hn hm=>by
   obtain⟨env,he,hf⟩:=List.mem_filterMap.mp hm;rcases Zn.mp he with rfl | he
   ·have z:s₀.heap.objs.size=b:=Option.some.inj hf;exact YW _ (z▸YT hb)
   ·exact hn (List.mem_filterMap.mpr ⟨env,he,hf⟩)
  have sub:∀b,b∈frs outer->b∈frs (envOfC qual scope s₀.heap.objs.size f cd::outer):=λb hb=>by
   obtain⟨env,he,hf⟩:=List.mem_filterMap.mp hb;exact List.mem_filterMap.mpr ⟨env,Zw _ he,hf⟩
  refine wpAny_leaves_madeW (base:=PySem.W.hideAll s2.heap (frs (envOfC qual scope s₀.heap.objs.size f cd::outer))) (h:=s2.heap) (L:=s₀.heap.objs.size) I2.ok.frames rfl
   (λb o q=>PySem.W.of_hideAll _ q) (PySem.W.funFrames_hide hst hin) hx λh2 t f1 f2 f3 f4=>?_
  have kp:∀b o,s2.heap.get? b=some o->b∉frs (envOfC qual scope s₀.heap.objs.size f cd::outer)->h2.get? b=some o:=λb o q n=>f1.1 b o (PySem.W.hideAll_get _ q n);have sl:∀b o,s2.heap.get? b=some o->b∈frs (envOfC qual scope s₀.heap.objs.size f cd::outer)->∃z,h2.get? b=some { o with slots:=z }:=λb o q m=>by
   obtain⟨_,o',ho',hd'⟩:=hst.mem m;rw[q]at ho';cases ho';exact f4 b o (hx.keeps b o q) hd'
  refine⟨e,.ref t,_,H2,rfl,I2.os,I2.bare,⟨?_,?_,hub.free,?_,hub.tups,hub.frzs,hub.tbls⟩,?_,?_,I2.hok.hid hfree,f1,h e⟩
  ·exact λb o q n hb hx=>kp b o (hub.keep b o q n hb hx) (old b o q hb)
  ·intro b o q n hb hx;obtain⟨z,e1⟩:=hub.slot b o q n hb hx;obtain⟨z',e2⟩:=sl b _ e1 (sub b hb);exact⟨z',e2⟩
  ·intro b o q hx;obtain⟨o',e1⟩:=hub.there b o q hx;by_cases hm:b∈frs (envOfC qual scope s₀.heap.objs.size f cd::outer)
   ·obtain⟨z,e2⟩:=sl b _ e1 hm;exact⟨_,e2⟩
   ·exact⟨_,kp b _ e1 hm⟩
  ·exact λb o q n hb=>PySem.W.hideAll_get _ (hub.keep b o q n hb (by simp)) (old b o q hb)
  ·intro b o q hb;obtain⟨u,z⟩:=hub.there b o q (by simp);exact⟨u,PySem.W.hideAll_get _ z (old b o q hb)⟩
end
def nY(C x:Addr):HO:=.ext λh=>∃o,h.get? x=some o/\o.cls=.ref C
theorem HN{P:Program}{w:World}{H:Hp}{h:Heap}{C x:Addr}{o:Obj}(e:h.get? x=some o)(c:o.cls=.ref C):bI P w H h x (nY C x) :=
 ⟨⟨o,e,c⟩,⟨o,e⟩,λ_ _ ⟨u,e1,c1⟩ k=>⟨u,k u e1,c1⟩⟩
abbrev Cx.at'(X:Cx)(A:Around)(calm:Bool)(pn:List (Addr×Obj))(xe:Value->Shared->Prop):Cx:={ X with A:=A,calm:=calm,pn:=pn,xe:=xe }
abbrev IG(X:Cx)(pn:List (Addr×Obj))(xe:Value->Shared->Prop):Cx:=X.at' X.A X.calm pn xe
abbrev qN(X:Cx)(pn:List (Addr×Obj))(xe:Value->Shared->Prop)(e:Addr):Cx:=X.at' (X.A.mark (some (.ref e))) false pn xe
section
variable{X:Cx}{pins pins' pn:List (Addr×Obj)}{σ:St}{H H':Hp}{s s':Shared}{A:Around}{calm:Bool}{xe:Value->Shared->Prop}
theorem Inv.swap(I:Inv X pins σ H s)(hp:∀p∈pn++pins',p∈X.pn++pins)(hA:A.frames=X.A.frames)(hc:calm=true->A.handled=none):Inv (X.at' A calm pn xe) pins' σ H s :=
 let o:=I.ok
 ⟨⟨o.mod,o.kind,o.glob,o.blt,o.above,o.inj,o.has,o.cab,hc,hA.trans o.frames,o.stk,o.exf,o.bs,o.bsz,o.noex,o.exfs,o.funs,o.frf⟩,I.os,I.bare,I.base,I.loc,I.cell,I.free,I.freeC,λp q=>I.pin p (hp p q),I.hok,I.len⟩
theorem Inv.unset{m:Str->Option Value}{h':Heap}{i:Nat}{x:Str}{u:Option Value}(I:Inv X pins σ H s)(nd:X.N.Nodup)(hi:X.N[i]?=some x)(hn:s.heap.Ns X.env.locals m)
  (hl:∀(i:Nat) (x:Str) (v:V),X.N[i]?=some x->σ[i]?=some (some v)->Vis X.env.scope x->∃u,RelV v u/\Look X.env s.heap m x u)
  (hn':h'.Ns X.env.locals λy=>if y=x then u else m y) (hs:Heap.SameBut X.env.locals s.heap h'):Inv X pins (σ.set i none) H { s with heap:=h' }:=by
 have cne:=I.cne;have old:∀b o,X.s₀.heap.get? b=some o->b≠X.env.locals:=λb o e=>YZ (Xk (YT e) I.ok.above);refine⟨I.ok,I.os,I.bare,⟨λb o e n hb hx=>?_,λb o e n hb hx=>?_,I.base.free,λb o e hx=>?_,I.base.tups,I.base.frzs,I.base.tbls⟩,⟨_,hn',λk y v e1 e2 e3=>?_⟩,λy c e=>?_,I.free,I.freeC,λp hp=>?_,?_,by simpa using I.len⟩
 ·exact(hs.2 b (old b o e)).trans (I.base.keep b o e n hb hx)
 ·obtain⟨sl,q⟩:=I.base.slot b o e n hb hx;exact⟨sl,(hs.2 b (old b o e)).trans q⟩
 ·obtain⟨o',q⟩:=I.base.there b o e hx;exact⟨o',(hs.2 b (old b o e)).trans q⟩
 ·by_cases hk:k=i
  ·subst hk;by_cases hlt:k<σ.length
   ·rw[ZK hlt]at e2;cases e2
   ·rw[Zr (by simpa using hlt)]at e2;cases e2
  ·rw[ZJ (Yh hk)]at e2;obtain⟨u',r',q⟩:=hl k y v e1 e2 e3;refine⟨u',r',?_⟩;have hy:y≠x:=λz=>hk (pV nd e1 (z▸hi));rcases q with⟨kd,e⟩ | ⟨kd,c,e,z⟩
   ·exact .inl ⟨kd,by simp[hy,e]⟩
   ·exact .inr ⟨kd,c,e,z.sameBut hs (cne y c e)⟩
 ·obtain⟨w',z⟩:=I.cell y c e;exact⟨w',z.sameBut hs (cne y c e)⟩
 ·obtain⟨e,n,ne,nf,d⟩:=I.pin p hp;exact⟨(hs.2 p.1 ne).trans e,n,ne,nf,d⟩
 ·intro b ob e;refine(I.hok b ob e).stay (λc w' hc q=>(hs.2 c ?_).trans q) (λ_ q=>q) λ_ _ q=>q;rintro rfl;rcases hc with rfl | hc
  ·rw[I.free]at e;cases e
  ·rw[I.free]at hc;cases hc
theorem jN{M:Model}{A:Around}{E:Value->Shared->Prop}{i:Nat}{x:Str}{pos:Pos}{Q:Unit->Shared->Prop}(I:Inv X pins σ H s)(nd:X.N.Nodup)(hi:X.N[i]?=some x)(hk:X.env.scope.names.lookup x=some .local)
  (h:∀s',Inv X pins (σ.set i none) H s'->Q () s'):wpAny M A (do bindName X.env x .none;unbindBehindTheSuite X.env x pos) Q E s:=by
 have hcls:(X.env.scope.kind==.class||(X.env.scope.kind==.module&&X.env.locals != X.env.globals))=false:=by rw[I.ok.kind];rfl
 refine ZZ (wpAny_bindName (dD (v:=.non) I nd hi (.inl hk) rfl (λs2 I2=>?_) (.inr hk)));have hiσ:i<σ.length:=by rw[I.len];exact(Zj.mp hi).1
 obtain⟨m,hn,hl⟩:=I2.loc;obtain⟨u,_,q⟩:=hl i x .non hi (ZK hiσ) (.inl hk);have hv:m x=some u:=by
  rcases q with⟨_,e⟩ | ⟨kd,_⟩
  ·exact e
  ·have kd:X.env.scope.names.lookup x=some .cell\/X.env.scope.names.lookup x=some .free:=kd;rw[hk]at kd;rcases kd with kd | kd<;>cases kd
 unfold unbindBehindTheSuite;refine wpAny_onRaise (wpAny_unbindName_local hk hn hv hcls λh' w hn' hs=>h _ ?_);have z:=I2.unset nd hi hn hl hn' hs
 rwa [List.set_set]at z
end
theorem Inv.track{X:Cx}{pins:List (Addr×Obj)}{σ:St}{H:Hp}{s:Shared}{x:Addr}{o:HO}(I:Inv X pins σ H s)(hx:H x=none)(n0:X.s₀.heap.get? x=none)(nl:x≠X.env.locals)
  (nc:∀y c,X.env.cells.lookup y=some c->c≠x) (np:∀p∈X.pn++pins,p.1≠x) (ok:bI X.prog X.w (upd H x o) s.heap x o):Inv X pins σ (upd H x o) s:=by
 have ne:∀{b:Addr}{u:HO},H b=some u->b≠x:=λ{b u} e z=>by rw[z,hx]at e;cases e
 refine⟨I.ok,I.os,I.bare,⟨I.base.keep,I.base.slot,λb u e n hb=>?_,I.base.there,λb xs e=>?_,λb u v e=>?_,λb ps e=>?_⟩,I.loc,I.cell,?_,λy c e=>?_,λp hp=>?_,λb u e=>?_,I.len⟩
 ·rw[aF (λz=>by rw[z,n0]at e;cases e)];exact I.base.free b u e n hb
 ·have z:=I.base.tups b xs e;rw[aF (ne z)];exact z
 ·have z:=I.base.frzs b u v e;rw[aF (ne z)];exact z
 ·obtain⟨more,z⟩:=I.base.tbls b ps e;exact⟨more,by rw[aF (ne z)];exact z⟩
 ·rw[aF (Yh nl)];exact I.free
 ·rw[aF (nc y c e)];exact I.freeC y c e
 ·obtain⟨e,n,r⟩:=I.pin p hp;exact⟨e,by rw[aF (np p hp)];exact n,r⟩
 ·by_cases hb:b=x
  ·subst hb;rw[aA]at e;cases e;exact ok
  ·rw[aF hb]at e;exact(I.hok b u e).stay (λ_ _ _ q=>q) (λc q=>by rw[aF (ne q)];exact q) λc xs q=>by rw[aF (ne q)];exact q
def OJ(n i:Nat)(C:Addr)(E:XK)(tb ts:TS):TS:=λD σ H=>tb D σ H/\∀(x:Addr) (σ':St) (H':Hp),σ'.length=n->E (.ref x) none H'->H' x=none ->
 ts { nx:=λσ2 H2=>D.nx (σ2.set i none) H2,rt:=D.rt,bk:=λσ2 H2=>D.bk (σ2.set i none) H2,ct:=λσ2 H2=>D.ct (σ2.set i none) H2 } (σ'.set i (some (.ref x))) (upd H' x (nY C x))
section
variable{X:Cx}{C Cb:Addr}{E:XK}{body suite:List Stmt}{b₀:Stmt}{y n:Str}{i:Nat}{np hpos pos:Pos}{tb ts:TS}
theorem uU(hx0:X.ex=[])(hst:X.stack=X.env::X.outer)(hf:X.env.frame=some X.env.locals)(hcalm:X.calm=true)(hm:X.mg y=some (.ref Cb))(hg:Gl X y)(hex:PySem.W.exmOne X.K (.ref C) (.ref Cb)=some true)
  (nd:X.N.Nodup) (hi:X.N[i]?=some n) (hl:X.env.scope.names.lookup n=some .local) (hb:∀pn xe,kR (CXr X.prog X.w C) (IG X pn xe) E->PSs (IG X pn xe) body tb)
  (hs:∀pn xe e,PSs (qN X pn xe e) (b₀::suite) ts) (hd:(y==("__debug__" : Str))=false:=by decide) :
  PS X (.Try body [.ExceptHandler (some (.Name y np)) (some n) (b₀::suite) hpos] [] [] pos) (OJ X.N.length i C E tb ts):=by
 intro pins s σ H D I ⟨h1,h2⟩;refine wpAny_Try_except ?_;refine ZX (hb (X.pn++pins) _ ?pass [] s σ H D (I.swap (by simp) rfl I.ok.hd) h1) ?fin λe s' he=>he
 case fin =>
  intro f s' hf;cases f with
  |next =>
   obtain⟨σ',H',J,q⟩:=hf;exact ZY ⟨σ',H',J.swap (A:=X.A) (calm:=X.calm) (pn:=X.pn) (xe:=X.xe) (pins':=pins) (by simp) rfl I.ok.hd,q⟩
  |brk =>
   obtain⟨σ',H',J,q⟩:=hf;exact⟨σ',H',J.swap (A:=X.A) (calm:=X.calm) (pn:=X.pn) (xe:=X.xe) (pins':=pins) (by simp) rfl I.ok.hd,q⟩
  |cont =>
   obtain⟨σ',H',J,q⟩:=hf;exact⟨σ',H',J.swap (A:=X.A) (calm:=X.calm) (pn:=X.pn) (xe:=X.xe) (pins':=pins) (by simp) rfl I.ok.hd,q⟩
  |ret u =>
   obtain⟨v,σ',H',J,r,q⟩:=hf;exact⟨v,σ',H',J.swap (A:=X.A) (calm:=X.calm) (pn:=X.pn) (xe:=X.xe) (pins':=pins) (by simp) rfl I.ok.hd,r,q⟩
 case pass =>
  intro pins' σ1 H1 s1 e s' I1 hc;obtain⟨x,a0,B,H',rfl,hos,bare,un,kB,tB,okB,fly,hE⟩:=hc;have J1:Inv X pins σ1 H1 s1:=I1.swap (A:=X.A) (calm:=X.calm) (pn:=X.pn) (xe:=X.xe) (pins':=pins) (λp q=>ZO _ q) rfl I.ok.hd;have fly:Heap.FlyingW B X.stack x (.ref C) a0 s'.heap:=fly;have un:Un (frs X.stack) [] H1 H' s1.heap s'.heap:=un;have kB:∀b o,s1.heap.get? b=some o->H1 b=none->b∉frs X.stack->B.get? b=some o:=kB;have tB:∀b o,s1.heap.get? b=some o->b∉frs X.stack->∃u,B.get? b=some u:=tB;have hfree:∀b∈frs X.stack,H1 b=none:=J1.stkFree;have xfree:H' x=none:=okB.gone fly.2.1;have next:∀h5,Heap.FlyingW B X.stack x (.ref C) a0 h5->s'.heap.UpToSlots h5->Inv X pins σ1 H' { s' with heap:=h5 }:=λh5 f5 up=>by
   refine J1.call' (ch:=[]) hos ⟨λb o q n hb _=>f5.1 b o (kB b o q n hb),λb o q n hb hx=>?_,un.free,λb o q hx=>?_,un.tups,un.frzs,un.tbls⟩ (okB.kept f5.1) bare (λb z=>Yg z (by simp))
   ·obtain⟨sl,e1⟩:=un.slot b o q n hb hx;obtain⟨_,o',e2,nf⟩:=J1.stack.mem hb;rw[q]at e2;cases e2;obtain⟨sl',e3⟩:=up b _ e1 nf;exact⟨sl',e3⟩
   ·cases e4:H1 b with
    |some ho =>
     obtain⟨u,z⟩:=tB b o q λhb=>by rw[hfree b hb]at e4;cases e4
     exact⟨u,f5.1 b u z⟩
    |none =>
     by_cases hb:b∈frs X.stack
     ·obtain⟨sl,e1⟩:=un.slot b o q e4 hb hx;obtain⟨_,o',e2,nf⟩:=J1.stack.mem hb;rw[q]at e2;cases e2;obtain⟨sl',e3⟩:=up b _ e1 nf;exact⟨_,e3⟩
     ·exact⟨_,f5.1 b o (kB b o q e4 hb)⟩
  have hfr:X.A.frames=some (X.env::X.outer):=by rw[<-hst];exact I.ok.frames
  rw[hst]at fly next;refine wpAny_looks_onW hfr hf fly λh4 held4 up4=>?_;refine wpAny_landsW held4 λh5 fly5 up5=>?_;have J5:=next h5 fly5 (up4.trans up5);refine wpAny_handleBy_cons (codeAny_handlers_test ?_) (by intro q;cases q);have C5:∀xe,Inv (qN X (X.pn++pins) xe x) [] σ1 H' { s' with heap:=h5 }:=λxe=>J5.swap (by simp) rfl (λz=>by cases z);refine oO (C5 λ_ _=>True) hg hm ?_ hd;obtain⟨ob,hob,hcl⟩:=fly5.there;have LT:PySem.W.Looks (model X.prog X.w) h5 (typeOf (.ref x)) (.ref C):=hcl▸(PySem.W.Looks.ld hob).andThen .now;refine PySem.W.exm_one J5.kIn LT hex _ _ _ _ (λ_ _ q=>q) ?_;refine codeAny_handlers_suite_as ?_;refine lands_againW fly5 λh6 fly6 up6=>?_;have J6:=next h6 fly6 ((up4.trans up5).trans up6);obtain⟨oe,vs,hoe,hcl6,hda,_⟩:=fly6.first;have nfr:x∉frs X.stack:=λm=>by
   obtain⟨_,o,e1,nf⟩:=J6.stack.mem m;have e1:h6.get? x=some o:=e1;rw[hoe]at e1;cases e1;exact nf vs hda
  have nl:x≠X.env.locals:=λz=>nfr (by rw[hst];exact List.mem_filterMap.mpr ⟨X.env,Zd ..,z▸hf⟩);have nB:∀b o,B.get? b=some o->b≠x:=λb o e z=>by rw[z,fly6.2.1]at e;cases e
  have K6:=J6.track (x:=x) (o:=nY C x) xfree ?n0 nl ?nc ?np (HN hoe hcl6)
  case n0 =>
   cases e:X.s₀.heap.get? x with
   |none=>rfl
   |some o =>
    obtain⟨o1,e1⟩:=J1.base.there x o e (by rw[hx0];simp);obtain⟨u,e2⟩:=tB x o1 e1 nfr;exact Yg rfl (nB x u e2)
  case nc =>
   intro yy c e z;obtain⟨v,o,e1,e2⟩:=J6.cell yy c e;have e1:h6.get? c=some o:=e1;rw[z,hoe]at e1;cases e1;rw[hda]at e2;cases e2
  case np =>
   intro p hp;obtain⟨e1,e2,e3,e4,_⟩:=J1.pin p hp;refine nB p.1 p.2 (kB p.1 p.2 e1 e2 λm=>?_);rw[hst]at m;obtain⟨env,he,hf'⟩:=List.mem_filterMap.mp m;rcases Zn.mp he with rfl | he
   ·rw[hf]at hf';exact e3 (Option.some.inj hf').symm
   ·exact e4 (List.mem_filterMap.mpr ⟨env,he,hf'⟩)
  have K7:∀xe,Inv (qN X (X.pn++pins) xe x) [] σ1 (upd H' x (nY C x)) { s' with heap:=h6 }:=λxe=>K6.swap (by simp) rfl (λz=>by cases z);refine dD (X:=qN X (X.pn++pins) (λ_ _=>True) x) (v:=.ref x) (K7 _) nd hi (.inl hl) rfl (λs7 I7=>?_) (.inr hl);refine thn (hs (X.pn++pins) _ x [] s7 _ _ _ (I7.swap (A:=X.A.mark (some (.ref x))) (calm:=false) (pn:=X.pn++pins) (pins':=[]) (λp q=>q) rfl (λz=>by cases z)) (h2 x σ1 H' J1.len hE xfree)) ?_;intro f s8 hsp;dsimp only;have back:∀{σ8 H8},Inv (qN X (X.pn++pins) (λ_ _=>True) x) [] σ8 H8 s8->Inv X pins σ8 H8 s8:=λJ=>J.swap (A:=X.A) (calm:=X.calm) (pn:=X.pn) (xe:=X.xe) (pins':=pins) (by simp) rfl I.ok.hd;cases f with
  |next =>
   obtain⟨σ8,H8,J8,q⟩:=hsp;exact jN (back (J8.swap (A:=X.A.mark (some (.ref x))) (calm:=false) (pn:=X.pn++pins) (pins':=[]) (λp q=>q) rfl (λz=>by cases z))) nd hi hl λs9 I9=>⟨_,_,I9,q⟩
  |brk =>
   obtain⟨σ8,H8,J8,q⟩:=hsp;exact jN (back (J8.swap (A:=X.A.mark (some (.ref x))) (calm:=false) (pn:=X.pn++pins) (pins':=[]) (λp q=>q) rfl (λz=>by cases z))) nd hi hl λs9 I9=>⟨_,_,I9,q⟩
  |cont =>
   obtain⟨σ8,H8,J8,q⟩:=hsp;exact jN (back (J8.swap (A:=X.A.mark (some (.ref x))) (calm:=false) (pn:=X.pn++pins) (pins':=[]) (λp q=>q) rfl (λz=>by cases z))) nd hi hl λs9 I9=>⟨_,_,I9,q⟩
  |ret u =>
   obtain⟨v,σ8,H8,J8,r,q⟩:=hsp;exact jN (back (J8.swap (A:=X.A.mark (some (.ref x))) (calm:=false) (pn:=X.pn++pins) (pins':=[]) (λp q=>q) rfl (λz=>by cases z))) nd hi hl λs9 I9=>⟨v,_,_,I9,r,q⟩
end
end L2
namespace L2
open PySem PySem.Spec PyProof.Rows PySem.W
def isExc(C x:Addr)(h:Heap):Prop:=∃o,h.get? x=some o/\o.cls=.ref C
structure qU(K:Frag)(C:Addr):Prop where
 ga:findIn K (.ref C) "__getattribute__" = some (some (.builtin "BaseException.__getattribute__"))
 gt:findIn K (.ref C) "__getattr__" = some none
 cl:findIn K (.ref C) "__class__" = some (some (.builtin "object.__class__"))
 sb:subIn K (.ref C) (.type "BaseException")=some true
 so:subIn K (.ref C) (.type "object")=some true
 ic:isClsIn K C=true
section
variable{prog:Program}{w:World}{A:Around}{E:Value->Shared->Prop}{h:Heap}{g:Array GenState}{d:Drawn}{t:Nat}{os:OsState}{a C:Addr}{K:Frag}
theorem vQ{M:Model}(e:isExc C a h):Looks M h (typeOf (.ref a)) (.ref C):=by
 obtain⟨o,h1,h2⟩:=e;exact h2▸(Looks.ld h1).andThen .now
theorem yI{R:Result->Shared->Prop}(X:K.In h)(F1:qU K C)(e:isExc C a h)(hq:R (.ok (.ret (.ref C))) ⟨h,g,d,t,os⟩) :
  codeAny (model prog w) A (.call (.builtin "getset_descriptor.__get__") ⟨[.builtin "object.__class__",.ref a,.ref C],[]⟩) R ⟨h,g,d,t,os⟩:=by
 have L0:=vQ (M:=model prog w) e;have L1:Looks (model prog w) h (isSubtype (.ref C) (.type (".".intercalate ("object.__class__".cutAt '.').dropLast))) true:=by
  rw[F.owner_object_class];exact looks_subIn X F1.so
 have hT:(⟨h,g,d,t,os⟩:Shared).TypeIs (.builtin "object.__class__") "getset_descriptor":=F.typeOf_object_class;refine codeAny_call_builtin F.slot_gs_get.plain F.entry_gs_get (F.slot_gs_get.check _ _ _ _ _ _ _ _ hT (F.args_gs_get _ _ _) ?_)
 repeat (any_goals (first | assumption | (with_reducible refine L0.at ?_) | (with_reducible refine L1.at ?_) | wp_step))
 refine⟨Code.quiet_builtin _ (by decide +kernel),codeAny_builtin F.entry_object_class ?_⟩
 repeat (any_goals (first | assumption | (with_reducible refine L0.at ?_) | wp_step))
theorem tX{tk:Tok}{Q:Fin->Shared->Prop}(X:K.In h)(F1:qU K C)(e:isExc C a h)(hq:Q (.done (.ret (.ref C))) ⟨h,g,d,t,os⟩) :
  wpAny (model prog w) A (Builtin.«object.__getattribute__» ⟨[.ref a,.str "__class__" tk],[]⟩) Q E ⟨h,g,d,t,os⟩:=by
 have L0:=vQ (M:=model prog w) e;have L1:=looks_findIn (M:=model prog w) X F1.cl;have hT:(⟨h,g,d,t,os⟩:Shared).TypeIs (.builtin "object.__class__") "getset_descriptor":=F.typeOf_object_class;have f5:=F.typeOf_object_class;have f6:=F.slot_gs_get.lookup;have f7:=F.slot_gs_set.lookup
 repeat (any_goals (first | assumption | (with_reducible refine L0.at ?_) | (with_reducible refine L1.at ?_) | wp_step))
 refine yI X F1 e ?_
 repeat (any_goals (first | assumption | wp_step))
theorem vP{M:Model}{nameV:Value}{Q:Unit->Shared->Prop}(X:K.In h)(F1:qU K C)(e:isExc C a h)(hq:Q () ⟨h,g,d,t,os⟩) :
  wpAny M A (checkBuiltinCall "BaseException.__getattribute__" ⟨[.ref a,nameV],[]⟩) Q E ⟨h,g,d,t,os⟩:=by
 have hk:builtinKind "BaseException.__getattribute__" = some .slot:=by decide +kernel
 have hsplit:splitId "BaseException.__getattribute__" = some ("BaseException","__getattribute__"):=by decide +kernel
 have ha:=F.args_bexc_ga (.ref a) nameV;have L0:=vQ (M:=M) e;have L1:=looks_subIn (M:=M) X F1.sb;simp only[checkBuiltinCall,hk,hsplit];unfold isInstance
 repeat (first | (with_reducible refine L0.at ?_) | (with_reducible refine L1.at ?_) | wp_step)
 all_goals exact hq
theorem BS{tk:Tok}{Q:Value->Shared->Prop}(X:K.In h)(F1:qU K C)(e:isExc C a h)(hq:Q (.ref C) ⟨h,g,d,t,os⟩) :
  wpAny (model prog w) A (getAttrBy (.ref a) (.str "__class__" tk) false) Q E ⟨h,g,d,t,os⟩:=by
 have L0:=vQ (M:=model prog w) e;have L1:=looks_findIn (M:=model prog w) X F1.ga;have L2:=looks_findIn (M:=model prog w) X F1.gt;have f3:=(show Slot "ValueError" "__getattribute__" "BaseException.__getattribute__" from PySem.F.excAttr_ValueError.ga).bind (.ref a);have hx2:(Value.builtin "BaseException.__getattribute__"==Value.builtin "object.__getattribute__")=false:=by decide +kernel
 have hx1:(onTheHeap (Value.ref C)&&Value.builtin "BaseException.__getattribute__"==Value.builtin "object.__getattribute__")=false:=by rw[hx2];rfl
 repeat (any_goals (first | assumption | (with_reducible refine L0.at ?_) | (with_reducible refine L1.at ?_) | (with_reducible refine L2.at ?_) | wp_step))
 refine codeAny_call_builtin (PySem.F.excAttr_ValueError.ga).plain F.entry_bexc_ga (vP X F1 e (tX X F1 e ?_))
 repeat (any_goals (first | assumption | wp_step))
theorem vO{Q:Option Value->Shared->Prop}(X:K.In h)(F1:qU K C)(e:isExc C a h)(hq:Q (some (.ref C)) ⟨h,g,d,t+1,os⟩) :
  wpAny (model prog w) A (getAttr? (.ref a) "__class__") Q E ⟨h,g,d,t,os⟩:=by
 unfold getAttr? getAttrBy?
 repeat (any_goals (first | assumption | with_reducible apply BS X F1 e | wp_step))
end
theorem vE{K:Frag}{x C:Addr}(F1:qU K C):KitX K (.ref x) (.ref C) (isExc C x) where
 ty:=λ_ _ _ p=>vQ p
 it:=λ_ _ X _=>by
  have z:(clsIn K C).isSome=true:=F1.ic;unfold clsIn at z;split at z
  ·rename_i ho
   intro A' Q' E' s' k q;unfold isType loadHead;exact ZZ (wpAny_loadPart (k _ _ (X _ _ ho)) (ZY q))
  ·cases z
 ne:=λh tp dd its n sl X htp=>by
  refine Bool.eq_false_iff.mpr λq=>?_;have e:C=tp:=Value.ref.inj (beq_iff_eq.mp q);have z:(clsIn K C).isSome=true:=F1.ic;rw[e]at z;unfold clsIn at z;split at z
  ·rename_i ho
   have y:=(X _ _ ho).symm.trans htp;cases y
  ·cases z
 ca:=λ{_ _ _ _ _ s} X p k=>by
  obtain⟨h,g,d,t,os⟩:=s;exact vO X F1 p k
structure FT(K:Frag)(C D:Addr):Prop where
 ic:isClsIn K D=true
 ty:typeIn K (.ref D)=some (.type "type")
 sb:subIn K (.ref C) (.ref D)=some true
 ex:subIn K (.ref D) (.type "BaseException")=some true
structure oD(K:Frag)(C D:Addr):Prop where
 ic:isClsIn K D=true
 ty:typeIn K (.ref D)=some (.type "type")
 sb:subIn K (.ref C) (.ref D)=some false
 ne:(Value.ref C==Value.ref D)=false
theorem zM{K:Frag}{C D:Addr}{b:Bool}(ic:isClsIn K D=true)(ty:typeIn K (.ref D)=some (.type "type"))(sb:subIn K (.ref C) (.ref D)=some b):kitCls K (.ref C) (.ref D)=some b:=by
 have e:((clsIn K D).isSome&&typeIn K (.ref D)==some (.type "type"))=true:=by rw[show(clsIn K D).isSome=true from ic,ty];decide
 unfold kitCls;dsimp only;rw[Yb e,sb]
theorem FT.exm{K:Frag}{C D:Addr}(h:FT K C D):exmOne K (.ref C) (.ref D)=some true:=by
 unfold exmOne;rw[h.ex,Yb (by decide)];exact zM h.ic h.ty h.sb
theorem oD.one{K:Frag}{C D:Addr}(h:oD K C D):kitOne K (.ref C) (.ref D)=some false:=by
 unfold kitOne;rw[h.ne,Ya (by decide)];exact zM h.ic h.ty h.sb
theorem nP{K:Frag}{C:Addr}:∀{cs:List Addr},(∀D∈cs,oD K C D)->kitAny K (.ref C) (cs.map Value.ref)=some false
 |[],_=>rfl
 |D::cs,h=>by
  rw[ZI];unfold kitAny;rw[(h D Zd).one];exact nP λE hE=>h E (Zw _ hE)
theorem lZ{K:Frag}{C:Addr}:kitOne K (.ref C) (.ref C)=some true:=by
 unfold kitOne;rw[Yb (by simp)]
theorem LM{K:Frag}{C:Addr}(sb:subIn K (.ref C) (.type "ValueError")=some true):kitOne K (.ref C) (.type "ValueError")=some true:=by
 have e:kitMeta "ValueError" = true:=by decide +kernel
 unfold kitOne kitCls;dsimp only;rw[Ya (by intro q;cases beq_iff_eq.mp q),Yb e,sb]
section
variable{X:Cx}
def MI(c:V)(u:Value):Prop:=(∃D,c=.ref D/\u=.ref D)\/∃n,c=.ty n/\u=.type n
theorem MI.is{c:V}{u v:Value}(h:MI c u)(r:RelV c v):v=u:=by
 rcases h with⟨D,rfl,rfl⟩ | ⟨n,rfl,rfl⟩<;>exact r
theorem cY:dE X (.builtin "isinstance") (λxs H Q=>∃x C c u b,xs=[.ref x,c]/\MI c u/\H x=some (nY C x)/\qU X.K C/\kitOne X.K (.ref C) u=some b/\Q (.bl b) H):=by
 intro pins s σ H xs us Q I r h;obtain⟨x,C,c,u,b,rfl,rc,hx,F1,e,q⟩:=h;obtain⟨u1,v,rfl,r1,r2⟩:=vals2 r;cases (show u1=Value.ref x from r1);cases rc.is r2;have p:isExc C x s.heap:=(show bI X.prog X.w H s.heap x (nY C x) from I.hok x _ hx).1;exact kia_one (vE F1) I.kIn p e (by intro z;cases z) λtk=>⟨.bl b,H,I.tok tk,rfl,q⟩
theorem oX:∀{cs:List Addr}{us:List Value},aV (cs.map V.ref) us->us=cs.map Value.ref
 |[],_,.nil=>rfl
 |c::cs,_,.cons r t=>by rw[oX t,show _=Value.ref c from r];rfl
theorem qQ:dE X (.builtin "isinstance") (λxs H Q=>∃(x C p:Addr) (cs:List Addr) (b:Bool),xs=[.ref x,.ref p]/\H x=some (nY C x)/\H p=some (.tup (cs.map V.ref))/\qU X.K C/\kitAny X.K (.ref C) (cs.map Value.ref)=some b/\Q (.bl b) H):=by
 intro pins s σ H xs us Q I r h;obtain⟨x,C,p,cs,b,rfl,hx,hp,F1,e,q⟩:=h;obtain⟨u1,v,rfl,r1,r2⟩:=vals2 r;cases (show u1=Value.ref x from r1);cases (show v=Value.ref p from r2);have px:isExc C x s.heap:=(show bI X.prog X.w H s.heap x (nY C x) from I.hok x _ hx).1;obtain⟨_,its,r',o,ho,hc,n,hd⟩:=(show bI X.prog X.w H s.heap p (.tup (cs.map V.ref)) from I.hok p _ hp)
 cases oX r';obtain⟨c,dd,dt,sl⟩:=o;cases (show c=.type "tuple" from hc);cases (show dt=.seq (cs.map Value.ref).toArray n from hd);exact kia_tup (vE F1) I.kIn px ho e (by intro z;cases z) λtk=>⟨.bl b,H,I.tok tk,rfl,q⟩
end
end L2
namespace L2
open PySem PySem.Spec PyProof.Rows
section
variable{P:Program}{w:World}{K:PySem.W.Frag}{mg:Str->Option Value}{base:Heap}{N:List Str}{qual:Str}{scope:Scope}{f C:Addr}{cd:Value}{A:Around}{outer:List Env}{s₀:Shared}{H₀:Hp}{E:XK}
theorem rZ:kR (CXr P w C) (nZ (CXr P w C) P w K mg base N qual scope f cd A outer s₀ H₀ E) E:=by
 intro pins σ1 H1 s1 e s' J1 hc;obtain⟨x,a0,B,H',rfl,hos,bare,un,kB,tB,okB,fly,hE⟩:=hc;have fly:Heap.FlyingW B (envOfC qual scope s₀.heap.objs.size f cd::outer) x (.ref C) a0 s'.heap:=fly;have un:Un (frs (envOfC qual scope s₀.heap.objs.size f cd::outer)) [] H1 H' s1.heap s'.heap:=un;have kB:∀b o,s1.heap.get? b=some o->H1 b=none->b∉frs (envOfC qual scope s₀.heap.objs.size f cd::outer)->B.get? b=some o:=kB;have tB:∀b o,s1.heap.get? b=some o->b∉frs (envOfC qual scope s₀.heap.objs.size f cd::outer)->∃u,B.get? b=some u:=tB;have hfree:∀b∈frs (envOfC qual scope s₀.heap.objs.size f cd::outer),H1 b=none:=J1.stkFree;have hst:s1.heap.FunFrames base (envOfC qual scope s₀.heap.objs.size f cd::outer):=J1.stack;have old:∀b o,s₀.heap.get? b=some o->b∉frs outer->b∉frs (envOfC qual scope s₀.heap.objs.size f cd::outer):=λb o hb hn hm=>by
  obtain⟨env,he,hf⟩:=List.mem_filterMap.mp hm;rcases Zn.mp he with rfl | he
  ·have z:s₀.heap.objs.size=b:=Option.some.inj hf;exact YW _ (z▸YT hb)
  ·exact hn (List.mem_filterMap.mpr ⟨env,he,hf⟩)
 have next:∀h5,B.StaysIn h5->s'.heap.UpToSlots h5->Inv (nZ (CXr P w C) P w K mg base N qual scope f cd A outer s₀ H₀ E) pins σ1 H' { s' with heap:=h5 }:=λh5 f5 up=>by
  refine J1.call' (ch:=[]) hos ⟨λb o q n hb _=>f5 b o (kB b o q n hb),λb o q n hb hx=>?_,un.free,λb o q hx=>?_,un.tups,un.frzs,un.tbls⟩ (okB.kept f5) bare (λb z=>Yg z (by simp))
  ·obtain⟨sl,e1⟩:=un.slot b o q n hb hx;obtain⟨_,o',e2,nf⟩:=hst.mem hb;rw[q]at e2;cases e2;obtain⟨sl',e3⟩:=up b _ e1 nf;exact⟨sl',e3⟩
  ·cases e4:H1 b with
   |some ho =>
    obtain⟨u,z⟩:=tB b o q λhb=>by rw[hfree b hb]at e4;cases e4
    exact⟨u,f5 b u z⟩
   |none =>
    by_cases hb:b∈frs (envOfC qual scope s₀.heap.objs.size f cd::outer)
    ·obtain⟨sl,e1⟩:=un.slot b o q e4 hb hx;obtain⟨_,o',e2,nf⟩:=hst.mem hb;rw[q]at e2;cases e2;obtain⟨sl',e3⟩:=up b _ e1 nf;exact⟨_,e3⟩
    ·exact⟨_,f5 b o (kB b o q e4 hb)⟩
 have hub:Un (frs outer) [] H₀ H1 s₀.heap s1.heap:=J1.base;refine wpAny_leaves_onW J1.ok.frames rfl fly λh' f1 up=>?_;have J5:=next h' f1.1 up;refine⟨x,a0,B,H',rfl,J5.os,bare,J5.base,λb o q n hb=>kB b o (hub.keep b o q n hb (by simp)) (hub.free b o q n (by simp)) (old b o q hb),λb o q hb=>?_,okB,f1,hE⟩;obtain⟨o1,e1⟩:=hub.there b o q (by simp);exact tB b o1 e1 (old b o q hb)
end
section
variable{M:Model}{A:Around}{Ex:Value->Shared->Prop}{s:Shared}
end
section
variable{P:Program}{w:World}{K:PySem.W.Frag}{mg:Str->Option Value}{base:Heap}{N:List Str}{qual:Str}{scope:Scope}{f C:Addr}{cd:Value}{A:Around}{outer:List Env}{s₀:Shared}{H₀:Hp}{E:XK}
end
section
variable{X:Cx}{C:Addr}{E:XK}{N:List Str}{scope:Scope}{cl:List (Str×Addr)}{L:Addr}{fp:List Addr}{s:Shared}{H:Hp}
end
section
variable{prog:Program}{w:World}{A:Around}{E:Value->Shared->Prop}{R:Result->Shared->Prop}{s:Shared}
end
section
variable{X:Cx}{C0:Addr}{E0:XK}
end
section
variable{X:Cx}{CX:CXT}{k:Nat}{f:Addr}{fd:FuncData}{ps:List Str}{sp:Sp}{E:XK}{x y:Str}{p pos pos' spos:Pos}{e:Expr}{es:List Expr}{t:TA}{σ:St}{i:Nat}
end
section
variable{X:Cx}{C Cb:Addr}{E:XK}{body suite:List Stmt}{b₀:Stmt}{y n:Str}{i:Nat}{np hpos pos:Pos}{tb ts:TS}
end
section
variable{X:Cx}
end
section
variable{X:Cx}
theorem zY{x:V}:∀{xs:List V}{us:List Value},aV xs us->xs.all fL=true->us.countP (eqU x)=xs.countP λy=>eqV y x
 |_,_,.nil,_=>rfl
 |y::xs,u::us,.cons r t,f=>by
  rw[List.all_cons,Xb]at f;rw[List.countP_cons,List.countP_cons,nF r f.1,zY t f.2]
def GI:V->List V->Hp->VK->Prop:=λx vs H Q=>x.gr λl=>LC vs λk k_r=>L0 k_r <| ∃(xs:List V),H l=some (.lst xs)/\fL k=true/\xs.all fL=true/\Q (.int (xs.countP λy=>eqV y k:Nat)) H
theorem sE:MtM X "list.count" GI:=by
 intro pins s σ H x vs v us Q I rx rv h;obtain⟨l,rfl,z1⟩:=a8 h;obtain⟨k,rfl,z2⟩:=AE z1;obtain⟨xs,hH,fk,fx,q⟩:=z2;cases rx;obtain⟨u,rfl,ru⟩:=rv.one;obtain⟨z,its,n,r,hl,e⟩:=I.lstM hH;refine call_meets F.slot_list_count ⟨_,e,rfl⟩ F.entry_list_count (F.args_list_count_2 _ _) (SeqAt.list_countAt l its.toArray n none #[] u (eqU k)) ⟨e,λy hy=>dR ru fk r fx y (by simpa using hy),?_⟩;rw[show its.toArray.toList=its from rfl,zY r fx];exact⟨.int _,H,I.tok _,⟨_,rfl⟩,q⟩
def GF:V->List V->Hp->VK->Prop:=λx vs H Q=>x.gr λl=>LC vs λk k_r=>L0 k_r <| ∃(xs:List V) (j:Nat),H l=some (.lst xs)/\fL k=true/\xs.all fL=true/\(∃y,xs[j]?=some y/\eqV y k=true)/\(∀m y,m<j->xs[m]?=some y->eqV y k=false)/\Q (vn j) H
theorem sD:MtM X "list.index" GF:=by
 intro pins s σ H x vs v us Q I rx rv h;obtain⟨l,rfl,z1⟩:=a8 h;obtain⟨k,rfl,z2⟩:=AE z1;obtain⟨xs,j,hH,fk,fx,⟨y,ey,hy⟩,hm,q⟩:=z2;cases rx;obtain⟨u,rfl,ru⟩:=rv.one;obtain⟨z,its,n,r,hl,e⟩:=I.lstM hH;have hlen:=r.length;have hj:j<xs.length:=(Zj.mp ey).1;have item:∀(m:Nat) (hm:m<its.toArray.size) (y:V),xs[m]?=some y->eqU k its.toArray[m]=eqV y k:=λm hm' y hy=>by
  obtain⟨u',hu',ru'⟩:=r.get hy;have e1:its.toArray[m]=u':=by
   have:its[m]?=some its.toArray[m]:=by simp at hm' ⊢
   rw[this]at hu';exact Option.some.inj hu'
  rw[e1,nF ru' (List.all_eq_true.mp fx y (Zg hy))]
 have hsm:((j:Nat):Int)<2 ^ 63-1:=by
  have h1:=fZ
  lia
 refine call_meets F.slot_list_index ⟨_,e,rfl⟩ F.entry_list_index (F.args_list_index_2 _ _) (SeqAt.list_indexAt l its.toArray n none #[] u (eqU k) j (by rw[ZE];lia) hsm ?_ ?_) ⟨e,λy hy=>dR ru fk r fx y (by simpa using hy),⟨vn j,H,I.tok _,⟨_,rfl⟩,q⟩⟩
 ·rw[item j _ y ey];exact hy
 ·intro m hm' hlt;have hm2:m<xs.length:=by lia
  rw[item m hm' _ (Zz hm2)];exact hm m _ hlt (Zz hm2)
end
section
variable{X:Cx}{pos:Pos}
def MS(i j k:Nat)(ta:TA):TS:=λD σ H=>ta σ H λvs H1=>LC vs λu u_r=>LC u_r λv v_r=>LC v_r λw w_r=>L0 w_r <| D.nx (((σ.set i (some u)).set j (some v)).set k (some w)) H1
theorem GK{i j k:Nat}{x y z:Str}{a b c:Expr}{ta:TA}{px py pz pt:Pos}{kt k2 pt2}(hc:X.calm=true)(hN:X.N.Nodup)(hi:X.N[i]?=some x)(hj:X.N[j]?=some y)(hk:X.N[k]?=some z)(hij:i≠j)(hik:i≠k)(hjk:j≠k)
  (hx:X.env.scope.names.lookup x=some .local) (hy:X.env.scope.names.lookup y=some .local) (hz:X.env.scope.names.lookup z=some .local) (ha:PA X [a,b,c] ta)
  (hw:swappedStores [.Tuple [.Name x px,.Name y py,.Name z pz] kt pt] (.Tuple [a,b,c] k2 pt2) X.env=pure (some [x,y,z]))
  (hs:swapsWithSole [.Tuple [.Name x px,.Name y py,.Name z pz] kt pt] (.Tuple [a,b,c] k2 pt2) pos.line X.env=pure false) :
  PS X (.Assign [.Tuple [.Name x px,.Name y py,.Name z pz] kt pt] (.Tuple [a,b,c] k2 pt2) pos) (MS i j k ta):=by
 intro pins s σ H D I h;rw[exec_Assign_arm];refine ZZ (wpAny_standAt ?_);rw[hs];refine ZZ (ZY ?_);rw[Ya (by decide)];refine ZZ (Tuple_ (thn (ha _ pins s σ H _ I h) λus s1 z1=>?_));obtain⟨vs,H1,I1,r1,z1⟩:=z1;obtain⟨u,v,w,e1,q1⟩:=OF z1;subst e1;cases r1 with | cons r1 r=>cases r with | cons r2 r=>cases r with | cons r3 r =>
 cases r
 rename_i u1 u2 u3
 refine wpAny_newObj_type ?_ (show 3<=ZW by decide);have I2:Inv X pins σ H1 { s1 with heap:=s1.heap.push { cls:=.type "tuple",data:=.seq [u1,u2,u3].toArray } }:=I1.kept (t':=s1.toks) λ_ _ e=>YU _ e;rw[hw];refine ZZ (ZY ?_);show wpAny (model X.prog X.w) X.A (do
  rule "assign.swapped-stores"
  let items <-unpackItems (.ref s1.heap.objs.size) 3 none
  assignInOrder [λv=>bindName X.env z v,λv=>bindName X.env y v,λv=>bindName X.env x v] items.reverse
  pure Flow.next) _ _ _
 refine ZZ (wpAny_rule (ZZ (unpackItems_tuple (items:=#[u1,u2,u3]) (I.ok.hd hc) (IsTup.new s1.heap _) λh' hx'=>?_)));have I3:=I2.kept (h':=h') (t':=s1.toks) λb o e=>hx' b o (YZ (YT e)) e;show wpAny _ _ (assignInOrder [λv=>bindName X.env z v,λv=>bindName X.env y v,λv=>bindName X.env x v] [u3,u2,u1] >>= λ_=>pure Flow.next) _ _ _;refine ZZ (assignInOrder_cons (wpAny_bindName (dD I3 hN hk (.inl hz) r3 (λs2 I4=>?_) (.inr hz))));refine assignInOrder_cons (wpAny_bindName (dD I4 hN hj (.inl hy) r2 (λs3 I5=>?_) (.inr hy)));refine assignInOrder_cons (wpAny_bindName (dD I5 hN hi (.inl hx) r1 (λs4 I6=>assignInOrder_nil (ZY ⟨_,H1,?_,q1⟩)) (.inr hx)))
 rwa [List.set_comm _ _ (Yh hij),List.set_comm _ _ (Yh hik),List.set_comm _ _ (Yh hjk)]at I6
end
end L2
namespace PySem
set_option maxRecDepth 100000
abbrev rJ(h:Heap)(z TI TO T:Addr)(f:Bool):Prop :=
 h.get? z=some { cls:=.type "zip",dict:=none,data:=.fields #[rawInt T,.bool f,.bool false,.ref TI,.ref TO],slots:=#[] }
section
variable{prog:Program}{w:World}{A:Around}{E:Value->Shared->Prop}{s:Shared}
theorem AG{a:Addr}{o:Obj}{Q:Option Obj->Shared->Prop}(ho:s.heap.get? a=some o)(h:Q (some o) s):wpAny (model prog w) A (loadIfAlive a) Q E s:=by
 have h':Q (s.heap.get? a) s:=by rw[ho];exact h
 exact λ_ _ _=>h'
theorem uE{z TI TO T:Addr}{f:Bool}{oT:Obj}{Q:Bool->Shared->Prop}(hz:rJ s.heap z TI TO T f)(hT:s.heap.get? T=some oT)
  (hQ:∀h',rJ h' z TI TO T true->Heap.SameBut z s.heap h'->Q false { s with heap:=h' }):wpAny (model prog w) A (Builtin.SmallTypes.ownedTupleIsFree (.ref z)) Q E s:=by
 unfold Builtin.SmallTypes.ownedTupleIsFree;refine ZZ (wpAny_field hz rfl (x:=rawInt T) rfl ?_);show wpAny _ _ (loadIfAlive ((T:Int).toNat) >>= _) _ _ _;rw[Int.toNat_natCast];refine ZZ (AG hT ?_);simp only[Option.isNone_some,YN,if_false];refine ZZ (wpAny_field hz rfl (x:=.bool f) rfl ?_);cases f with
 |true =>
  rw[Ya (show ¬((Value.bool true != Value.bool true)=true) from YO)];exact ZY (hQ _ hz (Heap.SameBut.refl _ _))
 |false =>
  rw[Yb (show(Value.bool false != Value.bool true)=true from rfl)];exact ZZ (wpAny_setField_rec hz (by simp) λh₃ he₃ hs₃=>ZY (hQ h₃ he₃ hs₃))
theorem qV{z TI TO T i1 i2 l1 l2:Addr}{f:Bool}{oT:Obj}{k1 k2:Nat}{xs ys:Array Value}{x y:Value}{Q:Value->Shared->Prop}(D:ZipApart z TI TO i1 i2 l1 l2)
  (hz:rJ s.heap z TI TO T f) (hT:s.heap.get? T=some oT) (hTI:IsPair s.heap TI (.ref i1) (.ref i2))
  (h1:s.heap.IsListIter i1 l1 k1) (h2:s.heap.IsListIter i2 l2 k2) (hl1:s.heap.IsList l1 xs) (hl2:s.heap.IsList l2 ys) (hx:xs[k1]?=some x) (hy:ys[k2]?=some y)
  (hQ:∀h',rJ h' z TI TO T true->h'.IsListIter i1 l1 (k1+1)->h'.IsListIter i2 l2 (k2+1)->IsPair h' s.heap.objs.size x y->h'.objs.size=s.heap.objs.size+1 ->
   (∀c o,c≠z->c≠i1->c≠i2->s.heap.get? c=some o->h'.get? c=some o)->Q (.ref s.heap.objs.size) { s with heap:=h' }) :
  wpAny (model prog w) A (Builtin.«zip.__next__» ⟨[.ref z],[]⟩) (λfin s'=>∃v,fin=.done (.ret v)/\Q v s') E s:=by
 show wpAny _ _ (field (.ref z) 2 >>= _) _ _ _;refine ZZ (wpAny_field hz rfl (x:=.bool false) rfl ?_);show wpAny _ _ (field (.ref z) 3 >>= _) _ _ _;refine ZZ (wpAny_field hz rfl (x:=.ref TI) rfl ?_);refine ZZ (wpAny_seqItems hTI rfl ?_);show wpAny _ _ (Builtin.SmallTypes.ownedTupleIsFree (.ref z) >>= _) _ _ _;refine ZZ (uE hz hT λh₁ hz₁ hs₁=>?_);simp only[YN,if_false];refine ZZ ?_;simp only[<-Array.forIn_toList,List.forIn_cons,List.forIn_nil];refine ZZ (ZZ (ZU ?_));show wpAny _ _ (Builtin.SmallTypes.nextOf (.ref i1) >>= _) _ _ _;refine ZZ (wpAny_nextOf_list_item (h1.extBut hs₁.extBut D.i1z) (hl1.extBut hs₁.extBut D.l1z) hx λh₂ h1₂ hs₂=>ZY ?_);refine ZY ?_;refine ZZ (ZZ (ZU ?_));show wpAny _ _ (Builtin.SmallTypes.nextOf (.ref i2) >>= _) _ _ _;refine ZZ (wpAny_nextOf_list_item ((h2.extBut hs₁.extBut D.i2z).extBut hs₂.extBut D.i12.symm) ((hl2.extBut hs₁.extBut D.l2z).extBut hs₂.extBut D.l2i1) hy λh₃ h2₃ hs₃=>ZY ?_);refine ZY (ZY ?_);refine ZZ (wpAny_newTuple (hsz:=by show 2<=ZW;decide) ?_);have hsz:h₃.objs.size=s.heap.objs.size:=by rw[hs₃.1,hs₂.1,hs₁.1]
 refine ZY ⟨_,rfl,?_⟩;show Q (.ref h₃.objs.size) _;rw[hsz];have up:∀c o,c≠z->c≠i1->c≠i2->s.heap.get? c=some o->(h₃.push { cls:=.type "tuple",data:=.seq #[x,y] }).get? c=some o:=λc o c1 c2 c3 e=>YU _ (hs₃.extBut _ _ c3 (hs₂.extBut _ _ c2 (hs₁.extBut _ _ c1 e)));exact hQ _ (YU _ (hs₃.extBut _ _ D.i2z.symm (hs₂.extBut _ _ D.i1z.symm hz₁))) ((h1₂.extBut hs₃.extBut D.i12).at λo e=>YU _ e) (h2₃.at λo e=>YU _ e)
  (by rw[<-hsz];exact YS _ rfl) (by rw[Heap.size_push,hsz]) up
theorem sR{z TI TO T i1 i2 l1 l2:Addr}{f:Bool}{oT:Obj}{k1 k2:Nat}{xs ys:Array Value}{Q:Fin->Shared->Prop}(hh:A.handled=none)(D:ZipApart z TI TO i1 i2 l1 l2)
  (hz:rJ s.heap z TI TO T f) (hT:s.heap.get? T=some oT) (hTI:IsPair s.heap TI (.ref i1) (.ref i2))
  (h1:s.heap.IsListIter i1 l1 k1) (h2:s.heap.IsListIter i2 l2 k2) (hl1:s.heap.IsList l1 xs) (hl2:s.heap.IsList l2 ys) (hend:xs[k1]?=none\/ys[k2]?=none)
  (hE:∀h' e,(∀c o,c≠z->c≠i1->c≠i2->s.heap.get? c=some o->h'.get? c=some o)->(∃o,h'.get? e=some o/\o.cls=.type "StopIteration")->E (.ref e) { s with heap:=h' }) :
  wpAny (model prog w) A (Builtin.«zip.__next__» ⟨[.ref z],[]⟩) Q E s:=by
 show wpAny _ _ (field (.ref z) 2 >>= _) _ _ _;refine ZZ (wpAny_field hz rfl (x:=.bool false) rfl ?_);show wpAny _ _ (field (.ref z) 3 >>= _) _ _ _;refine ZZ (wpAny_field hz rfl (x:=.ref TI) rfl ?_);refine ZZ (wpAny_seqItems hTI rfl ?_);show wpAny _ _ (Builtin.SmallTypes.ownedTupleIsFree (.ref z) >>= _) _ _ _;refine ZZ (uE hz hT λh₁ hz₁ hs₁=>?_);simp only[YN,if_false];refine ZZ ?_;simp only[<-Array.forIn_toList,List.forIn_cons,List.forIn_nil];refine ZZ (ZZ (ZU ?_));show wpAny _ _ (Builtin.SmallTypes.nextOf (.ref i1) >>= _) _ _ _;cases hx:xs[k1]? with
 |none =>
  refine ZZ (wpAny_nextOf_list_end hh (h1.extBut hs₁.extBut D.i1z) (hl1.extBut hs₁.extBut D.l1z) hx λh₂ e hs₂ he=>?_);exact hE h₂ e (λc o c1 c3 _ x=>hs₂ _ _ c3 (hs₁.extBut _ _ c1 x)) he
 |some x =>
  have hy:ys[k2]?=none:=by rcases hend with h | h;rw[hx]at h;cases h;exact h
  refine ZZ (wpAny_nextOf_list_item (h1.extBut hs₁.extBut D.i1z) (hl1.extBut hs₁.extBut D.l1z) hx λh₂ h1₂ hs₂=>ZY ?_);refine ZY ?_;refine ZZ (ZZ (ZU ?_));show wpAny _ _ (Builtin.SmallTypes.nextOf (.ref i2) >>= _) _ _ _;refine ZZ (wpAny_nextOf_list_end hh ((h2.extBut hs₁.extBut D.i2z).extBut hs₂.extBut D.i12.symm) ((hl2.extBut hs₁.extBut D.l2z).extBut hs₂.extBut D.l2i1) hy λh₃ e hs₃ he=>?_);exact hE h₃ e (λc o c1 c3 c4 x=>hs₃ _ _ c4 (hs₂.extBut _ _ c3 (hs₁.extBut _ _ c1 x))) he
end
end PySem
namespace PySem
set_option maxRecDepth 100000
namespace F
theorem wG:typeLookup (.type "zip") "__len__" = pure none:=by rw[typeLookup_type,builtinLookup_eq_fast];kernel_rfl
theorem uD:typeLookup (.type "zip") "__length_hint__" = pure none:=by rw[typeLookup_type,builtinLookup_eq_fast];kernel_rfl
end F
section
variable{prog:Program}{w:World}{A:Around}{E:Value->Shared->Prop}{s:Shared}
theorem nU{z TI TO T i1 i2 l1 l2:Addr}{f:Bool}{oT:Obj}{k1 k2:Nat}{xs ys:Array Value}{x y:Value}{Q:Option Value->Shared->Prop}(D:ZipApart z TI TO i1 i2 l1 l2)
  (hz:rJ s.heap z TI TO T f) (hT:s.heap.get? T=some oT) (hTI:IsPair s.heap TI (.ref i1) (.ref i2))
  (h1:s.heap.IsListIter i1 l1 k1) (h2:s.heap.IsListIter i2 l2 k2) (hl1:s.heap.IsList l1 xs) (hl2:s.heap.IsList l2 ys) (hx:xs[k1]?=some x) (hy:ys[k2]?=some y)
  (hQ:∀h',rJ h' z TI TO T true->h'.IsListIter i1 l1 (k1+1)->h'.IsListIter i2 l2 (k2+1)->IsPair h' s.heap.objs.size x y->h'.objs.size=s.heap.objs.size+1 ->
   (∀c o,c≠z->c≠i1->c≠i2->s.heap.get? c=some o->h'.get? c=some o)->Q (some (.ref s.heap.objs.size)) { s with heap:=h' }) :
  wpAny (model prog w) A (pyNext (.ref z)) Q E s:=by
 have hT':s.TypeIs (.ref z) "zip":=⟨_,hz,rfl⟩
 unfold pyNext;exact ZZ (wpAny_attempt (wpAny_callSpecial?_slot (name:=ZT "__next__") hT' F.slot_zip_next
  (wpAny_call_entry F.slot_zip_next hT' F.entry_zip_next
   (qV D hz hT hTI h1 h2 hl1 hl2 hx hy λh' a1 a3 a4 a5 a6 a7=>ZY (hQ h' a1 a3 a4 a5 a6 a7)) (F.args_zip_next_1 _))))
theorem oR{z TI TO T i1 i2 l1 l2:Addr}{f:Bool}{oT:Obj}{k1 k2:Nat}{xs ys:Array Value}{Q:Option Value->Shared->Prop}(hh:A.handled=none)(D:ZipApart z TI TO i1 i2 l1 l2)
  (hz:rJ s.heap z TI TO T f) (hT:s.heap.get? T=some oT) (hTI:IsPair s.heap TI (.ref i1) (.ref i2))
  (h1:s.heap.IsListIter i1 l1 k1) (h2:s.heap.IsListIter i2 l2 k2) (hl1:s.heap.IsList l1 xs) (hl2:s.heap.IsList l2 ys) (hend:xs[k1]?=none\/ys[k2]?=none)
  (hQ:∀h',(∀c o,c≠z->c≠i1->c≠i2->s.heap.get? c=some o->h'.get? c=some o)->Q none { s with heap:=h' }):wpAny (model prog w) A (pyNext (.ref z)) Q E s:=by
 have hT':s.TypeIs (.ref z) "zip":=⟨_,hz,rfl⟩
 unfold pyNext;refine ZZ (wpAny_attempt (wpAny_callSpecial?_slot (name:=ZT "__next__") hT' F.slot_zip_next
  (wpAny_call_entry F.slot_zip_next hT' F.entry_zip_next (sR hh D hz hT hTI h1 h2 hl1 hl2 hend λh' e hk he=>?_) (F.args_zip_next_1 _))))
 obtain⟨o,ho,hc⟩:=he;refine ZZ (wpAny_isInstance (T:="StopIteration") (b:=true) ⟨o,ho,hc⟩ isSubtype_stop ?_);exact ZY (hQ _ hk)
end
structure ZSt(h:Heap)(n0 z TI TO i1 i2 l1 l2:Addr)(xs ys:Array Value)(i:Nat):Prop where
 ti:IsPair h TI (.ref i1) (.ref i2)
 to:∃a b,IsPair h TO a b
 a:h.IsListIter i1 l1 i
 b:h.IsListIter i2 l2 i
 x:h.IsList l1 xs
 y:h.IsList l2 ys
 z:IsZip h z TI TO .none\/∃T f oT,n0<=T/\rJ h z TI TO T f/\h.get? T=some oT
structure ZNe(S z TI TO i1 i2 l1 l2:Addr):Prop where
 z:S≠z
 ti:S≠TI
 to:S≠TO
 a:S≠i1
 b:S≠i2
 x:S≠l1
 y:S≠l2
theorem ZSt.keep{h h':Heap}{n0 S z TI TO i1 i2 l1 l2:Addr}{xs ys:Array Value}{i:Nat}(t:ZSt h n0 z TI TO i1 i2 l1 l2 xs ys i)(n:ZNe S z TI TO i1 i2 l1 l2)(hS:S<n0)
  (k:∀b o,b≠S->h.get? b=some o->h'.get? b=some o):ZSt h' n0 z TI TO i1 i2 l1 l2 xs ys i :=
 ⟨k _ _ n.ti.symm t.ti,(let⟨a,b,q⟩:=t.to;⟨a,b,k _ _ n.to.symm q⟩),t.a.at λo e=>k _ o n.a.symm e,t.b.at λo e=>k _ o n.b.symm e,t.x.at λo e=>k _ o n.x.symm e,t.y.at λo e=>k _ o n.y.symm e,
  t.z.elim (λq=>.inl (k _ _ n.z.symm q)) λ⟨T,f,oT,q1,q2,q3⟩=>.inr ⟨T,f,oT,q1,k _ _ n.z.symm q2,k _ _ (Nat.ne_of_gt (Xk hS q1)) q3⟩⟩
section
variable{prog:Program}{w:World}{A:Around}{R:Result->Shared->Prop}
theorem B3{n0 S z TI TO i1 i2 l1 l2:Addr}{xs ys:Array Value}(hh:A.handled=none)(D:ZipApart z TI TO i1 i2 l1 l2)(ne:ZNe S z TI TO i1 i2 l1 l2)(lS:S<n0)(lz:z<n0)(lO:TO<n0)(la:i1<n0)(lb:i2<n0)
  (hn:min xs.size ys.size<=ZW) (res:Value) :
  ∀(k i:Nat) (s:Shared) (acc:Array Value) (c:Nat),min xs.size ys.size-i=k->i<=min xs.size ys.size->n0<=s.heap.objs.size->ZSt s.heap n0 z TI TO i1 i2 l1 l2 xs ys i ->
  s.heap.get? S=some { cls:=.type "list",dict:=none,data:=.seq acc c,slots:=#[] }->acc.size=i ->
  (∀j,j<i->∃t:Addr,acc[j]?=some (.ref t)) ->
  (∀h' acc' c',(∀b o,b≠S->b≠z->b≠TO->b≠i1->b≠i2->s.heap.get? b=some o->h'.get? b=some o)->h'.get? S=some { cls:=.type "list",dict:=none,data:=.seq acc' c',slots:=#[] }->acc'.size=min xs.size ys.size ->
   (∀j,j<min xs.size ys.size->∃t:Addr,acc'[j]?=some (.ref t))->R (.ok (.ret res)) { s with heap:=h' }) ->
  codeAny (model prog w) A (.builtin "list.extend.loop" ⟨[.ref S,.ref z,res],[]⟩) R s:=by
 have up:∀{t:Addr},n0<=t->t≠S/\t≠z/\t≠TO/\t≠i1/\t≠i2:=λ{t} h=>by
  refine⟨?_,?_,?_,?_,?_⟩<;>(intro e;subst e;exact Yg h (Nat.not_le.mpr (by assumption)))
 intro k;induction k with
 |zero =>
  intro i s acc c hk hi hsz st hS hac hel hR;have hin:i=min xs.size ys.size:=by lia
  have hend:xs[i]?=none\/ys[i]?=none:=by
   rcases Nat.le_total xs.size ys.size with h | h
   ·exact .inl (Array.getElem?_eq_none (by lia))
   ·exact .inr (Array.getElem?_eq_none (by lia))
  refine codeAny_builtin F.entry_extend_loop ?_;rw[Around.under_plainId F.plain_extend_loop _];show wpAny _ A.in1 (pyNext (.ref z) >>= _) _ _ s;obtain⟨oa,ob,hTO⟩:=st.to;have fin:∀h',(∀b o,b≠z->b≠TO->b≠i1->b≠i2->s.heap.get? b=some o->h'.get? b=some o)->R (.ok (.ret res)) { s with heap:=h' }:=λh' hk' =>
   hR h' acc c (λb o _ b2 b3 b4 b5 e=>hk' b o b2 b3 b4 b5 e) (hk' S _ ne.z ne.to ne.a ne.b hS) (hac.trans hin) λj hj=>hel j (by lia)
  rcases st.z with hz | ⟨T,f,oT,_,hz,hT⟩
  ·exact ZZ (wpAny_pyNext_zip_end hh D hz st.ti hTO st.a st.b st.x st.y hend λh' hk'=>ZY (fin h' hk'))
  ·exact ZZ (oR hh D hz hT st.ti st.a st.b st.x st.y hend λh' hk'=>ZY (fin h' λb o b1 _ b3 b4 e=>hk' b o b1 b3 b4 e))
 |succ k ih =>
  intro i s acc c hk hi hsz st hS hac hel hR;have hlt:i<min xs.size ys.size:=by lia
  have hix:i<xs.size:=by lia
  have hiy:i<ys.size:=by lia
  refine codeAny_builtin F.entry_extend_loop ?_;rw[Around.under_plainId F.plain_extend_loop _];show wpAny _ A.in1 (pyNext (.ref z) >>= _) _ _ s;obtain⟨oa,ob,hTO⟩:=st.to;have go:∀h',(IsZip h' z TI TO .none\/∃T f oT,n0<=T/\rJ h' z TI TO T f/\h'.get? T=some oT)->(∃a b,IsPair h' TO a b)->h'.IsListIter i1 l1 (i+1)->h'.IsListIter i2 l2 (i+1)->h'.objs.size=s.heap.objs.size+1 ->
    (∀b o,b≠z->b≠TO->b≠i1->b≠i2->s.heap.get? b=some o->h'.get? b=some o) ->
    wpAny (model prog w) A.in1 (updateSeq S (·.push (.ref s.heap.objs.size)) >>= λ_=>again (.builtin "list.extend.loop" ⟨[.ref S,.ref z,res],[]⟩)) (λfin s'=>match fin with | .done f=>R (.ok f) s' | .again c'=>c'.quiet=true/\codeAny (model prog w) A c' R s') (λe s'=>R (.error e) s') { s with heap:=h' }:=by
   intro h' hz hTO' ha hb hs hk';have hS':=hk' S _ ne.z ne.to ne.a ne.b hS;have hTI':=hk' TI _ D.TIz D.TITO D.TIi1 D.TIi2 st.ti;have st':ZSt h' n0 z TI TO i1 i2 l1 l2 xs ys (i+1):=⟨hTI',hTO',ha,hb,st.x.at λo e=>hk' _ o D.l1z D.l1TO D.l1i1 D.l1i2 e,st.y.at λo e=>hk' _ o D.l2z D.l2TO D.l2i1 D.l2i2 e,hz⟩
   refine ZZ ?_;have oth:∀b o,b≠S->h'.get? b=some o->(h'.update S (Obj.mapSeq (·.push (Value.ref s.heap.objs.size)))).get? b=some o:=λb o hb e=>(YR _ _ (Yh hb)).trans e;refine wpAny_updateSeq hS' rfl (ZY ⟨plainId_quiet F.plain_extend_loop _,ih (i+1) _ (acc.push (.ref s.heap.objs.size)) _ (by lia) hlt ?_ (st'.keep ne lS oth) (Heap.get?_update_self _ hS' rfl) (by rw[Array.size_push,hac]) (λj hj=>?_) λh'' acc' c' q1 q2 q3 q4=>?_⟩)
    (by rw[hac];lia) (by show(acc.push _).size<=ZW+1;rw[Array.size_push,hac];lia)
   ·show n0<=(h'.update S _).objs.size;rw[Heap.size_update,hs];exact Nat.le_succ_of_le hsz
   ·by_cases c:j<i
    ·obtain⟨t,e1⟩:=hel j c;exact⟨t,by rw[Array.getElem?_push_lt (by lia)];rw[Array.getElem?_eq_getElem (by lia)]at e1;exact e1⟩
    ·have ej:j=i:=by lia
     subst ej;exact⟨s.heap.objs.size,by rw[<-hac];simp⟩
   ·exact hR h'' acc' c' (λb o b1 b2 b3 b4 b5 e=>q1 b o b1 b2 b3 b4 b5 (oth b o b1 (hk' b o b2 b3 b4 b5 e))) q2 q3 q4
  rcases st.z with hz | ⟨T,f,oT,n0T,hz,hT⟩
  ·refine ZZ (wpAny_pyNext_zip_item D hz st.ti hTO st.a st.b st.x st.y (Array.getElem?_eq_getElem hix) (Array.getElem?_eq_getElem hiy) λh' a1 a2 a3 a4 a5 a6 hk'=>?_);exact go h' (.inr ⟨_,false,_,hsz,a1,a5⟩) ⟨_,_,a2⟩ a3 a4 a6 hk'
  ·refine ZZ (nU D hz hT st.ti st.a st.b st.x st.y (Array.getElem?_eq_getElem hix) (Array.getElem?_eq_getElem hiy) λh' a1 a3 a4 a5 a6 hk'=>?_);have u:=up n0T;exact go h' (.inr ⟨T,true,oT,n0T,a1,hk' _ _ u.2.1 u.2.2.2.1 u.2.2.2.2 hT⟩) ⟨_,_,hk' _ _ D.TOz D.TOi1 D.TOi2 hTO⟩ a3 a4 a6 λb o b1 _ b3 b4 e=>hk' b o b1 b3 b4 e
theorem wH{s:Shared}{n0 S z TI TO i1 i2 l1 l2:Addr}{xs ys:Array Value}(hh:A.handled=none)(D:ZipApart z TI TO i1 i2 l1 l2)(ne:ZNe S z TI TO i1 i2 l1 l2)(lS:S<n0)(lz:z<n0)(lO:TO<n0)(la:i1<n0)(lb:i2<n0)
  (hn:min xs.size ys.size<=ZW) (res:Value) (c₀:Nat) (hsz:n0<=s.heap.objs.size) (st:ZSt s.heap n0 z TI TO i1 i2 l1 l2 xs ys 0) (hz:IsZip s.heap z TI TO .none) (hS:s.heap.get? S=some { cls:=.type "list",data:=.seq #[] c₀ })
  (hR:∀h' acc' c',(∀b o,b≠S->b≠z->b≠TO->b≠i1->b≠i2->s.heap.get? b=some o->h'.get? b=some o)->h'.get? S=some { cls:=.type "list",dict:=none,data:=.seq acc' c',slots:=#[] }->acc'.size=min xs.size ys.size ->
   (∀j,j<min xs.size ys.size->∃t:Addr,acc'[j]?=some (.ref t))->R (.ok (.ret res)) { s with heap:=h' }) :
  wpAny (model prog w) A.in1 (Builtin.List.listExtendWith (.ref S) (.ref z) res)
   (λfin s'=>match fin with | .done f=>R (.ok f) s' | .again c'=>c'.quiet=true/\codeAny (model prog w) A c' R s') (λe s'=>R (.error e) s') s:=by
 have hT:s.TypeIs (.ref z) "zip":=⟨_,hz,rfl⟩
 unfold Builtin.List.listExtendWith;refine ZZ (wpAny_typeOf hT ?_);have h1:Builtin.List.listSameRef (.ref S) (.ref z)=false:=by simp[Builtin.List.listSameRef,ne.z]
 have h2:(Value.type "zip"==Value.type "list")=false:=by decide
 have h3:(Value.type "zip"==Value.type "tuple")=false:=by decide
 simp only[h1,h2,h3,Bool.or_false,YN,if_false];refine ZZ (wpAny_pyIter_zip hz ?_);refine ZZ (ZU ?_);unfold Builtin.List.listLengthHint;refine ZZ (wpAny_specialOf hT F.wG ?_);show wpAny _ A.in1 (specialOf (Value.ref z) (ZT "__length_hint__") >>= _) _ _ _;refine ZZ (wpAny_specialOf hT F.uD ?_);refine ZY ?_;show wpAny _ A.in1 (rule "list.extend.makes-room" >>= λ_=>Builtin.List.listTouch (.ref S) >>= λ_ =>
  again (.builtin "list.extend.loop" ⟨[.ref S,.ref z,res],[]⟩)) _ _ _
 refine ZZ (wpAny_rule ?_);refine ZZ ?_;show wpAny _ A.in1 (updateSeq S (·.push .none) >>= λ_=>updateSeq S (·.pop)) _ _ _;refine ZZ (wpAny_updateSeq hS rfl ?_);have hS₂:=Heap.get?_update_self (Obj.mapSeq (·.push Value.none)) hS rfl;refine wpAny_updateSeq (hz:=by seq_fits) hS₂ rfl ?_;have hS₃:=Heap.get?_update_self (Obj.mapSeq (·.pop)) hS₂ rfl;have oth:∀b o,b≠S->s.heap.get? b=some o->((s.heap.update S (Obj.mapSeq (·.push Value.none))).update S (Obj.mapSeq (·.pop))).get? b=some o :=
  λb o hb e=>(YR _ _ (Yh hb)).trans ((YR _ _ (Yh hb)).trans e)
 refine ZY ⟨plainId_quiet F.plain_extend_loop _,B3 hh D ne lS lz lO la lb hn res _ 0 _ _ _ rfl (YX _) ?_ (st.keep ne lS oth) hS₃ rfl (λj hj=>Yg hj (Nat.not_lt_zero _)) λh' acc' c' q1 q2 q3 q4=>?_⟩
 ·show n0<=((s.heap.update S _).update S _).objs.size;rw[Heap.size_update,Heap.size_update];exact hsz
 ·exact hR h' acc' c' (λb o b1 b2 b3 b4 b5 e=>q1 b o b1 b2 b3 b4 b5 (oth b o b1 e)) q2 q3 q4
theorem qW{s:Shared}{n0 S z TI TO i1 i2 l1 l2:Addr}{xs ys:Array Value}(hh:A.handled=none)(D:ZipApart z TI TO i1 i2 l1 l2)(ne:ZNe S z TI TO i1 i2 l1 l2)(lS:S<n0)(lz:z<n0)(lO:TO<n0)(la:i1<n0)(lb:i2<n0)
  (hn:min xs.size ys.size<=ZW) (hsz:n0<=s.heap.objs.size) (st:ZSt s.heap n0 z TI TO i1 i2 l1 l2 xs ys 0) (hz:IsZip s.heap z TI TO .none) (hS:s.heap.get? S=some { cls:=.type "list",data:=.seq #[] })
  (hR:∀h' acc' c',(∀b o,b≠S->b≠z->b≠TO->b≠i1->b≠i2->s.heap.get? b=some o->h'.get? b=some o)->h'.get? S=some { cls:=.type "list",dict:=none,data:=.seq acc' c',slots:=#[] }->acc'.size=min xs.size ys.size ->
   (∀j,j<min xs.size ys.size->∃t:Addr,acc'[j]?=some (.ref t))->R (.ok (.ret .none)) { s with heap:=h' }) :
  wpAny (model prog w) A.in1 (Builtin.«list.__init__» ⟨[.ref S,.ref z],[]⟩)
   (λfin s'=>match fin with | .done f=>R (.ok f) s' | .again c'=>c'.quiet=true/\codeAny (model prog w) A c' R s') (λe s'=>R (.error e) s') s:=by
 show wpAny _ _ (do let old <-Builtin.List.listItems (.ref S);Builtin.List.listUpdate (.ref S) (λ_=>#[]);letGo old.toList.reverse;Builtin.List.listExtendWith (.ref S) (.ref z) .none) _ _ s;refine ZZ ?_;unfold Builtin.List.listItems;refine ZZ (wpAny_seqItems hS rfl (ZY ?_));show wpAny _ _ (updateSeq S (λ_=>#[]) >>= λ_=>letGo (#[]:Array Value).toList.reverse >>= λ_=>Builtin.List.listExtendWith (.ref S) (.ref z) .none) _ _ s;refine ZZ (wpAny_updateSeq hS rfl ?_);have hS₂:=Heap.get?_update_self (Obj.mapSeq (λ_=>(#[]:Array Value))) hS rfl;have oth:∀b o,b≠S->s.heap.get? b=some o->(s.heap.update S (Obj.mapSeq (λ_=>(#[]:Array Value)))).get? b=some o :=
  λb o hb e=>(YR _ _ (Yh hb)).trans e
 refine ZZ (wpAny_letGo ?_);refine wH (n0:=n0) hh D ne lS lz lO la lb hn .none _ ?_ (st.keep ne lS oth) (oth _ _ ne.z.symm hz) hS₂ λh' acc' c' q1 q2 q3 q4=>?_
 ·show n0<=(s.heap.update S _).objs.size;rw[Heap.size_update];exact hsz
 ·exact hR h' acc' c' (λb o b1 b2 b3 b4 b5 e=>q1 b o b1 b2 b3 b4 b5 (oth b o b1 e)) q2 q3 q4
end
section
variable{prog:Program}{w:World}{A:Around}{E:Value->Shared->Prop}{s:Shared}
theorem rG{Q:Value->Shared->Prop}{z TI TO i1 i2 l1 l2:Addr}{xs ys:Array Value}(hh:A.handled=none)(D:ZipApart z TI TO i1 i2 l1 l2)(hn:min xs.size ys.size<=ZW)(st:ZSt s.heap (s.heap.objs.size+1) z TI TO i1 i2 l1 l2 xs ys 0)(hz:IsZip s.heap z TI TO .none)
  (hQ:∀h' acc' c',(∀b o,b≠z->b≠TO->b≠i1->b≠i2->s.heap.get? b=some o->h'.get? b=some o)->h'.get? s.heap.objs.size=some { cls:=.type "list",dict:=none,data:=.seq acc' c',slots:=#[] }->acc'.size=min xs.size ys.size ->
   (∀j,j<min xs.size ys.size->∃t:Addr,acc'[j]?=some (.ref t))->Q (.ref s.heap.objs.size) { s with heap:=h' }) :
  wpAny (model prog w) A (call (.type "list") [.ref z]) Q E s:=by
 refine callType_codes (Q₁:=λobj s₁=>obj=.ref s.heap.objs.size/\s₁={ s with heap:=s.heap.push { cls:=.type "list",data:=.seq #[] } }) F.called_list (F.typeCall_list_1 _) F.entry_list_init
  (code_list_new _ ⟨rfl,rfl⟩) λobj s₁ h₁=>?_
 obtain⟨rfl,rfl⟩:=h₁;have hS:(s.heap.push { cls:=.type "list",data:=.seq #[] }).get? s.heap.objs.size=some { cls:=.type "list",data:=.seq #[] }:=YS _ rfl;have lt:∀{a:Addr}{o:Obj},s.heap.get? a=some o->a<s.heap.objs.size:=λe=>YT e;have nt:∀{a:Addr}{o:Obj},s.heap.get? a=some o->s.heap.objs.size≠a:=λe=>(YZ (YT e)).symm;obtain⟨oa,ob,hTO⟩:=st.to;obtain⟨o1,e1,_⟩:=id st.a;obtain⟨o2,e2,_⟩:=id st.b;obtain⟨o3,e3,_⟩:=id st.x;obtain⟨o4,e4,_⟩:=id st.y;have st':ZSt (s.heap.push { cls:=.type "list",data:=.seq #[] }) (s.heap.objs.size+1) z TI TO i1 i2 l1 l2 xs ys 0 :=
  ⟨YU _ st.ti,⟨_,_,YU _ hTO⟩,st.a.at λo e=>YU _ e,st.b.at λo e=>YU _ e,st.x.at λo e=>YU _ e,st.y.at λo e=>YU _ e,.inl (YU _ hz)⟩
 refine⟨⟨_,hS,rfl⟩,F.args_list_init_2 _ _,qW (A:=A.in1) (n0:=s.heap.objs.size+1) hh D ⟨nt hz,nt st.ti,nt hTO,nt e1,nt e2,nt e3,nt e4⟩ (Nat.lt_succ_self _) (Xv (lt hz)) (Xv (lt hTO)) (Xv (lt e1)) (Xv (lt e2)) hn ?_ st' (YU _ hz) hS λh' acc' c' q1 q2 q3 q4=>?_⟩
 ·show s.heap.objs.size+1<=(s.heap.push _).objs.size;rw[Heap.size_push];exact ZA _
 ·exact⟨rfl,hQ h' acc' c' (λb o b2 b3 b4 b5 e=>q1 b o (YZ (YT e)) b2 b3 b4 b5 (YU _ e)) q2 q3 q4⟩
end
end PySem
namespace L2
open PySem PySem.Spec PyProof.Rows
def refOf:Value->Addr
 |.ref t=>t
 |_=>0
section
variable{X:Cx}{e1 e2:Expr}{ta:TA}{p p2 pos pos2:Pos}
def tLZ(ta:TA):TE:=λσ H Q=>ta σ H λvs H1=>∃a b xs ys,vs=[.ref a,.ref b]/\SqL H1 a xs/\SqL H1 b ys /\
 ∀(r:Addr) (ts:List Addr),H1 r=none->ts.length=min xs.length ys.length->Q (.ref r) (upd H1 r (.lst (ts.map V.ref)))
theorem xO(hc:X.calm=true)(hg:Gl X "list")(hm:X.mg "list" = none)(hg2:Gl X "zip")(hm2:X.mg "zip" = none)(ha:PA X [e1,e2] ta)
  (hs:starEach [e1,e2] X.env=[(false,eval e1 X.env),(false,eval e2 X.env)]:=by rfl) (hs3:starEach [e2] X.env=[(false,eval e2 X.env)]:=by rfl) (hs2:starEach [.Call (.Name "zip" p2) [e1,e2] [] pos2] X.env=[(false,eval (.Call (.Name "zip" p2) [e1,e2] [] pos2) X.env)]:=by rfl) :
  PE X (.Call (.Name "list" p) [.Call (.Name "zip" p2) [e1,e2] [] pos2] [] pos) (tLZ ta):=by
 intro pins s σ H Q I h;refine wpAny_Call_Name_kw (iU I hg hm boot_list ?_);refine PyProof.Rows.callWith_type1 ?_ hs2 rfl;rw[hs2];refine Calls.spliced_cons ?_;refine wpAny_Call_Name_kw (iU I hg2 hm2 (show bootBuiltins "zip" = some (.type "zip") by decide +kernel) ?_);refine PyProof.Rows.callWith_type1 (oY (ha pos2 pins s σ H _ I h) λus s1 vs H1 I1 r1 q1=>?_) (by rw[hs,hs3]) (by rw[hs3];rfl);obtain⟨a,b,xs,ys,rfl,hx,hy,q⟩:=q1;obtain⟨u,u2,rfl,ru,ru2⟩:=vals2 r1;cases ru;cases ru2;obtain⟨its,rv,pl,hz⟩:=I1.list hx;obtain⟨its2,rv2,pl2,hz2⟩:=I1.list hy;have la:a<s1.heap.objs.size:=by obtain⟨o,ho,_⟩:=pl.isList;exact YT ho
 have lb:b<s1.heap.objs.size:=by obtain⟨o,ho,_⟩:=pl2.isList;exact YT ho
 have hl1:=rv.length;have hl2:=rv2.length;refine call_zip_2 pl.isList pl2.isList λh1 z1 z2 z3 z4 z5 z6 z7=>?_;refine Calls.spliced_nil ?_;have D:ZipApart (s1.heap.objs.size+4) (s1.heap.objs.size+2) (s1.heap.objs.size+3) s1.heap.objs.size (s1.heap.objs.size+1) a b:=by
  generalize s1.heap.objs.size=n at la lb;constructor<;>first | (show(_:Nat)≠_;lia) | exact YZ la | exact YZ lb | exact YZ (Xk la (Nat.le_add_right _ _)) | exact YZ (Xk lb (Nat.le_add_right _ _))
 have st:ZSt h1 (h1.objs.size+1) (s1.heap.objs.size+4) (s1.heap.objs.size+2) (s1.heap.objs.size+3) s1.heap.objs.size (s1.heap.objs.size+1) a b its.toArray its2.toArray 0 :=
  ⟨z2,⟨_,_,z3⟩,z4,z5,pl.isList.at λo e=>z7 _ o e,pl2.isList.at λo e=>z7 _ o e,.inl z1⟩
 refine rG (s:={ s1 with heap:=h1 }) (I1.ok.hd hc) D (Xz (Nat.min_le_left _ _) (by rw[ZE,<-hl1];exact hz)) st z1 λh2 acc c' k e' sz el=>?_
 replace sz:acc.size=min its.length its2.length:=sz
 have hsz1:h1.objs.size=s1.heap.objs.size+5:=z6;have hv:aV ((acc.toList.map refOf).map V.ref) acc.toList:=oH (by rw[Zq,Zq]) λj x u hx hu=>by
  rw[Zk,Zk,hu]at hx;cases hx;rw[Array.getElem?_toList]at hu;obtain⟨t,et⟩:=el j (by have:=(Array.getElem?_eq_some_iff.mp hu).1;rw[ZE,ZE];lia);obtain rfl:u=.ref t:=Option.some.inj (hu.symm.trans et);rfl
 have lenm:(acc.toList.map refOf).length=min xs.length ys.length:=by rw[Zq,Array.length_toList,sz,hl1,hl2]
 have keep:∀b u,s1.heap.get? b=some u->h2.get? b=some u:=λb u e=>by
  have lt:=YT e;exact k b u (YZ (Xk lt (Nat.le_add_right _ _))) (YZ (Xk lt (Nat.le_add_right _ _))) (YZ lt) (YZ (Xk lt (Nat.le_add_right _ _))) (z7 b u e)
 exact⟨.ref h1.objs.size,_,I1.laid (t':=s1.toks) keep (by rw[hsz1];exact Nat.le_add_right _ _) (show bI X.prog X.w _ h2 _ (.lst ((acc.toList.map refOf).map V.ref)) from⟨by rw[Zq,lenm];exact Xz (Nat.min_le_left _ _) hz,acc.toList,c',hv,by rw[e']⟩),rfl,q _ _ (I1.hok.fresh (by rw[hsz1];exact Nat.le_add_right _ _)) lenm⟩
end
section
variable{X:Cx}
theorem vY:dE X (.type "range") (λxs H Q=>∃i j:Int,xs=[.int i,.int j]/\∀p,H p=none->Q (.ref p) (upd H p (.rng i j))):=by
 intro pins s σ H xs us Q I r h;obtain⟨i,j,rfl,q⟩:=h;obtain⟨u,u2,rfl,⟨t,rfl⟩,⟨t2,rfl⟩⟩:=vals2 r;refine call_range_2 ?_;refine⟨.ref s.heap.objs.size,_,I.laid (o:=.rng i j) (λb o e=>YU _ e) (ZA _) ⟨_,_,_,YS _ rfl⟩,rfl,q _ I.fresh⟩
theorem qP(hc:X.calm=true):dE X (.type "list") (λxs H Q=>∃(p:Addr) (a m:Nat),xs=[.ref p]/\H p=some (.rng a ((a:Int)+(m:Int)))/\a<=1000000/\m<=10000/\∀l,H l=none->Q (.ref l) (upd H l (.lst (vns ((ZR m).map (a+·)))))):=by
 intro pins s σ H xs us Q I r h;obtain⟨p,a,m,rfl,hp,ha,hn,q⟩:=h;obtain⟨u,rfl,rx⟩:=vals1 r;cases rx;obtain⟨t,u,v,e⟩:=(show bI X.prog X.w H s.heap p (.rng a ((a:Int)+(m:Int))) from I.hok p _ hp)
 have hsz:Builtin.Range.rangeSize a ((a:Int)+(m:Int)) 1=m:=by rw[rangeSize_one];split<;>lia
 refine call_list_range (I.ok.hd hc) (show IsRange s.heap p a ((a:Int)+(m:Int)) 1 t u v from e) (small_one (by lia) (by lia) (by lia) (by lia)) hsz (by lia) λh' tk acc c' k e' it=>?_;have hv:aV (vns ((ZR m).map (a+·))) acc.toList:=by
  refine oH (by simp[it.1]) λj x u hx hu=>?_;unfold vns at hx;rw[Zk,Zk]at hx;obtain⟨z,hz,rfl⟩:=Xx.mp hx;obtain⟨z',hz',rfl⟩:=Xx.mp hz;obtain⟨hj,rfl⟩:=Zj.mp hz';obtain⟨t,rfl⟩:=it.2 j u (by simpa using hu);exact⟨t,by simp⟩
 exact⟨.ref s.heap.objs.size,_,I.laid (t':=tk) k (ZA _) (show bI X.prog X.w _ h' _ (.lst (vns ((ZR m).map (a+·)))) from⟨by simp;exact Xz hn (by decide),acc.toList,c',hv,by rw[e']⟩),rfl,q _ I.fresh⟩
end
end L2
namespace AW
abbrev Ts:=List (Int×Int)
abbrev Os:=List (List Int)
def plc(ts:Ts)(e:Nat):Int:=((ts[e / 2]?).map λt=>if e%2=0 then t.1 else t.2).getD (-1)
def InW(m:Int)(ts:Ts):Prop:=∀t∈ts,(0<=t.1/\t.1<m)/\0<=t.2/\t.2<m
def all2(ts:Ts):List Int:=(ZR (2*ts.length)).map λn:Nat=>(n:Int)
def endsAt(ts:Ts)(p:Int):List Int:=(all2 ts).filter λe=>plc ts e.toNat==p
inductive Rch(ts:Ts):Int->Prop
 |zero:Rch ts 0
 |fwd {t:Int×Int}:t∈ts->Rch ts t.1->Rch ts t.2
 |bwd {t:Int×Int}:t∈ts->Rch ts t.2->Rch ts t.1
def nS(m:Int)(ts:Ts):Prop:=∀p:Int,0<=p->p<m->Rch ts p
def Fit(ts:Ts)(os:Os):Prop:=∀(i:Nat) (o:List Int),os[i]?=some o->o.length<=4/\o.Perm (endsAt ts i)
def PZ(ts:Ts)(os:Os):Prop:=os.flatten.Perm (all2 ts)/\∀(i:Nat) (o:List Int),os[i]?=some o->o.length<=4/\∀e∈o,plc ts e.toNat=i
def OB(m:Int)(ts:Ts):Prop:=(1<=m/\m<=200)/\1<=ts.length/\ts.length<=400
def hJ(m:Int)(ts:Ts)(os:Os):Prop:=OB m ts/\InW m ts/\(os.length:Int)=m/\Fit ts os/\nS m ts
theorem lV{ts:Ts}{e:Int}:e∈all2 ts↔0<=e/\e<2*ts.length:=by
 unfold all2;rw[Zh];constructor
 ·rintro⟨n,hn,rfl⟩;have:=Zs.mp hn
  lia
 ·rintro⟨h0,h1⟩;exact⟨e.toNat,Zs.mpr (by lia),by lia⟩
theorem m7{α β:Type}{f:α->β}(hf:∀a b,f a=f b->a=b):∀{l:List α},l.Nodup->(l.map f).Nodup
 |[],_=>List.nodup_nil
 |a::l,h=>by
  obtain⟨h1,h2⟩:=List.nodup_cons.mp h;rw[ZI,List.nodup_cons];refine⟨λq=>?_,m7 hf h2⟩;obtain⟨b,hb,e⟩:=Zh.mp q;exact h1 (hf _ _ e▸hb)
theorem kJ(ts:Ts):(all2 ts).Nodup:=m7 (λa b h=>by lia) ZC
theorem iS{ts:Ts}{p e:Int}:e∈endsAt ts p↔(0<=e/\e<2*ts.length)/\plc ts e.toNat=p:=by
 unfold endsAt;rw[Yz,lV,beq_iff_eq]
theorem iQ(ts:Ts)(p:Int):(endsAt ts p).Nodup:=(kJ ts).filter _
theorem uX{l l':List Int}(h:l.Nodup)(h':l'.Nodup)(e:∀a,a∈l↔a∈l'):l.Perm l':=(List.perm_ext_iff_of_nodup h h').mpr e
theorem DK{m:Int}{ts:Ts}(h:InW m ts){e:Int}(h0:0<=e)(h1:e<2*ts.length):0<=plc ts e.toNat/\plc ts e.toNat<m:=by
 have hk:e.toNat / 2<ts.length:=by lia
 have e1:ts[e.toNat / 2]?=some ts[e.toNat / 2]:=Zz hk;have:=h _ (Zp hk);unfold plc;rw[e1];simp only[Option.map_some,YM];split<;>omega
theorem zQ{m:Int}{ts:Ts}{os:Os}(hw:InW m ts)(hl:(os.length:Int)=m):Fit ts os↔PZ ts os:=by
 constructor
 ·intro h;have mem:∀(i:Nat) (o:List Int) (e:Int),os[i]?=some o->(e∈o↔(0<=e/\e<2*ts.length)/\plc ts e.toNat=i):=λi o e hi=>((h i o hi).2.mem_iff).trans iS;refine⟨uX (List.pairwise_flatten.mpr ⟨λo ho=>?_,?_⟩) (kJ ts) λe=>?_,λi o hi=>⟨(h i o hi).1,λe he=>((mem i o e hi).mp he).2⟩⟩
  ·obtain⟨i,hi,rfl⟩:=Yd.mp ho;exact(h i _ (Zz hi)).2.nodup_iff.mpr (iQ ts i)
  ·rw[List.pairwise_iff_getElem];intro i j hi hj hij e h1 e' h2 q;subst q;have e1:=((mem i _ e (Zz hi)).mp h1).2;have e2:=((mem j _ e (Zz hj)).mp h2).2
   lia
  ·rw[List.mem_flatten,lV];constructor
   ·rintro⟨o,ho,he⟩;obtain⟨i,hi,rfl⟩:=Yd.mp ho;exact((mem i _ e (Zz hi)).mp he).1
   ·rintro⟨h0,h1⟩;obtain⟨p0,p1⟩:=DK hw h0 h1;have hi:(plc ts e.toNat).toNat<os.length:=by lia
    exact⟨_,Zp hi,(mem _ _ e (Zz hi)).mpr ⟨⟨h0,h1⟩,by lia⟩⟩
 ·rintro⟨hp,h⟩ i o hi;refine⟨(h i o hi).1,?_⟩;have nf:os.flatten.Nodup:=hp.nodup_iff.mpr (kJ ts);have no:o.Nodup:=(List.pairwise_flatten.mp nf).1 o (Zg hi);refine uX no (iQ ts i) λe=>?_;rw[iS,<-lV,<-hp.mem_iff];constructor
  ·exact λhe=>⟨List.mem_flatten.mpr ⟨o,Zg hi,he⟩,(h i o hi).2 e he⟩
  ·rintro⟨hf,hpl⟩;obtain⟨o',ho',he⟩:=List.mem_flatten.mp hf;obtain⟨j,hj,rfl⟩:=Yd.mp ho';have e1:=(h j _ (Zz hj)).2 e he;have:j=i:=by lia
   subst this;rw[Zz hj]at hi;cases hi;exact he
theorem AZ{l l':List Int}(p:l.Perm l')(h:l.Pairwise (·<=·))(h':l'.Pairwise (·<=·)):l=l' :=
 p.eq_of_pairwise (λa b _ _ h1 h2=>Int.le_antisymm h1 h2) h h'
theorem FV(ts:Ts):(all2 ts).Pairwise (·<=·):=by
 unfold all2;rw[List.pairwise_map];exact List.pairwise_lt_range.imp λh=>by lia
theorem AO(ts:Ts)(p:Int):(endsAt ts p).Pairwise (·<=·):=(FV ts).filter _
theorem GO{ts:Ts}{t:Int×Int}{e:Nat}(h:e<2*ts.length):plc (ts++[t]) e=plc ts e:=by
 unfold plc;rw[Zx (by lia)]
theorem DJ(ts:Ts)(t:Int×Int):plc (ts++[t]) (2*ts.length)=t.1:=by
 unfold plc;rw[show 2*ts.length / 2=ts.length by lia,Yy];show(if 2*ts.length%2=0 then t.1 else t.2)=t.1;rw[Yb (by lia)]
theorem DI(ts:Ts)(t:Int×Int):plc (ts++[t]) (2*ts.length+1)=t.2:=by
 unfold plc;rw[show(2*ts.length+1) / 2=ts.length by lia,Yy];show(if (2*ts.length+1)%2=0 then t.1 else t.2)=t.2;rw[Ya (by lia)]
theorem BZ(ts:Ts)(t:Int×Int):all2 (ts++[t])=all2 ts++[(2*ts.length:Int),2*ts.length+1]:=by
 unfold all2;rw[Zm,show 2*(ts.length+[t].length)=2*ts.length+1+1 by simp;lia,ZH,ZH];simp
theorem vS(ts:Ts)(t:Int×Int)(p:Int):endsAt (ts++[t]) p=endsAt ts p++((if t.1=p then [(2*ts.length:Int)] else [])++if t.2=p then [(2*ts.length+1:Int)] else []):=by
 unfold endsAt;rw[BZ,List.filter_append];congr 1
 ·refine List.filter_congr λe he=>?_;obtain⟨h0,h1⟩:=lV.mp he;rw[GO (by lia)]
 ·have e0:plc (ts++[t]) (2*(ts.length:Int)).toNat=t.1:=by rw[show(2*(ts.length:Int)).toNat=2*ts.length by lia,DJ]
  have e1:plc (ts++[t]) (2*(ts.length:Int)+1).toNat=t.2:=by rw[show(2*(ts.length:Int)+1).toNat=2*ts.length+1 by lia,DI]
  simp only[List.filter_cons,List.filter_nil,e0,e1,beq_iff_eq];by_cases h1:t.1=p<;>by_cases h2:t.2=p<;>simp[h1,h2]
def nb(t:Int×Int)(p:Int):List Int:=(if t.1=p then [t.2] else [])++if t.2=p then [t.1] else []
def nbs(ts:Ts)(p:Int):List Int:=ts.flatMap λt=>nb t p
theorem EF(ts:Ts)(t:Int×Int)(p:Int):nbs (ts++[t]) p=nbs ts p++nb t p:=by
 unfold nbs;rw[List.flatMap_append];simp
theorem jU{ts:Ts}{p q:Int}:q∈nbs ts p↔∃t∈ts,(t.1=p/\t.2=q)\/(t.2=p/\t.1=q):=by
 unfold nbs nb;rw[Yk];constructor
 ·rintro⟨t,ht,h⟩;refine⟨t,ht,?_⟩;rcases Zf.mp h with h | h
  ·split at h
   ·exact .inl ⟨by assumption,(Zb.mp h).symm⟩
   ·cases h
  ·split at h
   ·exact .inr ⟨by assumption,(Zb.mp h).symm⟩
   ·cases h
 ·rintro⟨t,ht,⟨h1,h2⟩ | ⟨h1,h2⟩⟩
  ·exact⟨t,ht,ZO _ (by rw[Yb h1,h2];simp)⟩
  ·exact⟨t,ht,ZN _ (by rw[Yb h1,h2];simp)⟩
theorem Rch.step{ts:Ts}{p q:Int}(h:Rch ts p)(hq:q∈nbs ts p):Rch ts q:=by
 obtain⟨t,ht,⟨rfl,rfl⟩ | ⟨rfl,rfl⟩⟩:=jU.mp hq
 ·exact h.fwd ht
 ·exact h.bwd ht
theorem x8{m:Int}{ts:Ts}(h:InW m ts){p q:Int}(hq:q∈nbs ts p):0<=q/\q<m:=by
 obtain⟨t,ht,⟨rfl,rfl⟩ | ⟨rfl,rfl⟩⟩:=jU.mp hq
 ·exact(h t ht).2
 ·exact(h t ht).1
theorem Rch.within{ts:Ts}{S:Int->Prop}(h0:S 0)(hs:∀p,S p->∀q∈nbs ts p,S q){p:Int}(h:Rch ts p):S p:=by
 induction h with
 |zero=>exact h0
 |fwd ht _ ih=>exact hs _ ih _ (jU.mpr ⟨_,ht,.inl ⟨rfl,rfl⟩⟩)
 |bwd ht _ ih=>exact hs _ ih _ (jU.mpr ⟨_,ht,.inr ⟨rfl,rfl⟩⟩)
structure uA(m:Nat)(ts:Ts)(R:List Bool)(W:List Int):Prop where
 len:R.length=m
 zero:R[0]?=some true
 ok:∀p:Nat,R[p]?=some true->Rch ts p
 win:∀p∈W,∃n:Nat,p=n/\R[n]?=some true
 cl:∀p:Nat,R[p]?=some true->(p:Int)∈W\/∀q∈nbs ts p,R[q.toNat]?=some true
structure jJ(m:Nat)(ts:Ts)(R:List Bool)(W:List Int)(p0 k:Nat):Prop where
 len:R.length=m
 zero:R[0]?=some true
 ok:∀p:Nat,R[p]?=some true->Rch ts p
 win:∀p∈W,∃n:Nat,p=n/\R[n]?=some true
 own:R[p0]?=some true
 cl:∀p:Nat,R[p]?=some true->(p:Int)∈W\/(p=p0/\∀(j:Nat) q,j<k->(nbs ts p0)[j]?=some q->R[q.toNat]?=some true)\/∀q∈nbs ts p,R[q.toNat]?=some true
theorem uA.start{m:Nat}{ts:Ts}(h:0<m):uA m ts ((ZR m).map λp=>decide (p=0)) [0] where
 len:=by simp
 zero:=by simp[h]
 ok:=λp hp=>by
  rw[Zk]at hp;cases e:(ZR m)[p]? with
  |none=>rw[e]at hp;cases hp
  |some n =>
   obtain⟨hn,rfl⟩:=Zj.mp e;rw[e]at hp;simp at hp;subst hp;exact .zero
 win:=λp hp=>⟨0,by simpa using hp,by simp[h]⟩
 cl:=λp hp=>by
  rw[Zk]at hp;cases e:(ZR m)[p]? with
  |none=>rw[e]at hp;cases hp
  |some n =>
   obtain⟨hn,rfl⟩:=Zj.mp e;rw[e]at hp;simp at hp;subst hp;exact .inl (by simp)
theorem uA.done{m:Nat}{ts:Ts}{R:List Bool}(hin:InW m ts)(h:uA m ts R []):R.all id=true↔nS m ts:=by
 rw[ZD];constructor
 ·intro ha p h0 h1;obtain⟨n,rfl⟩:=Xh h0;have hn:n<R.length:=by rw[h.len];lia
  refine h.ok n ?_;rw[Zz hn];have:=ha _ (Zp hn);exact congrArg some this
 ·intro hw b hb;obtain⟨n,hn,rfl⟩:=Yd.mp hb;have hr:Rch ts (n:Int):=hw n (by lia) (by rw[h.len]at hn;lia);have e:=(hr.within (S:=λp=>0<=p/\R[p.toNat]?=some true) ⟨Int.le_refl _,h.zero⟩ λp hp q hq=>by
   obtain⟨k,rfl⟩:=Xh hp.1;refine⟨(x8 hin hq).1,?_⟩;rcases h.cl k (by simpa using hp.2) with z | z
   ·cases z
   ·exact z q hq).2
  rw[show(n:Int).toNat=n by lia,Zz hn]at e;exact Option.some.inj e
theorem jJ.start{m:Nat}{ts:Ts}{R:List Bool}{W:List Int}{p0:Nat}(h:uA m ts R (W++[(p0:Int)])):jJ m ts R W p0 0 where
 len:=h.len
 zero:=h.zero
 ok:=h.ok
 win:=λp hp=>h.win p (ZO _ hp)
 own:=by
  obtain⟨n,e,hn⟩:=h.win (p0:Int) (by simp);have:n=p0:=by lia
  exact this▸hn
 cl:=λp hp=>by
  rcases h.cl p hp with z | z
  ·rcases Zf.mp z with z | z
   ·exact .inl z
   ·have:p=p0:=by have:=Zb.mp z;lia
    exact .inr (.inl ⟨this,λj q hj=>Yg hj (Nat.not_lt_zero _)⟩)
  ·exact .inr (.inr z)
theorem jJ.skip{m:Nat}{ts:Ts}{R:List Bool}{W:List Int}{p0 k:Nat}{q:Int}(h:jJ m ts R W p0 k)(hq:(nbs ts p0)[k]?=some q)(hr:R[q.toNat]?=some true):jJ m ts R W p0 (k+1) where
 len:=h.len
 zero:=h.zero
 ok:=h.ok
 win:=h.win
 own:=h.own
 cl:=λp hp=>by
  rcases h.cl p hp with z | ⟨z1,z2⟩ | z
  ·exact .inl z
  ·refine .inr (.inl ⟨z1,λj q' hj hq'=>?_⟩);by_cases hjk:j<k
   ·exact z2 j q' hjk hq'
   ·have:j=k:=by lia
    subst this;rw[hq]at hq';cases hq';exact hr
  ·exact .inr (.inr z)
theorem jD{R:List Bool}{i j:Nat}(hi:i<R.length):(R.set i true)[j]?=some true↔j=i\/R[j]?=some true:=by
 by_cases e:i=j
 ·subst e;rw[ZK hi];simp
 ·rw[ZJ e];constructor
  ·exact .inr
  ·rintro(z | z)
   ·exact Yg z.symm e
   ·exact z
theorem jJ.reach{m:Nat}{ts:Ts}{R:List Bool}{W:List Int}{p0 k q:Nat}(h:jJ m ts R W p0 k)(hq:(nbs ts p0)[k]?=some (q:Int))(hm:q<m):jJ m ts (R.set q true) (W++[(q:Int)]) p0 (k+1):=by
 have hl:q<R.length:=by rw[h.len];exact hm
 have up:∀j:Nat,R[j]?=some true->(R.set q true)[j]?=some true:=λj hj=>(jD hl).mpr (.inr hj);have hrq:Rch ts q:=(h.ok p0 h.own).step (Zg hq);refine⟨by rw[ZP];exact h.len,up 0 h.zero,λp hp=>?_,λp hp=>?_,up _ h.own,λp hp=>?_⟩
 ·rcases(jD hl).mp hp with rfl | hp
  ·exact hrq
  ·exact h.ok p hp
 ·rcases Zf.mp hp with z | z
  ·obtain⟨n,e,hn⟩:=h.win p z;exact⟨n,e,up n hn⟩
  ·exact⟨q,Zb.mp z,(jD hl).mpr (.inl rfl)⟩
 ·rcases(jD hl).mp hp with rfl | hp
  ·exact .inl (by simp)
  ·rcases h.cl p hp with z | ⟨z1,z2⟩ | z
   ·exact .inl (ZO _ z)
   ·refine .inr (.inl ⟨z1,λj q' hj hq'=>?_⟩);by_cases hjk:j<k
    ·exact up _ (z2 j q' hjk hq')
    ·have:j=k:=by lia
     subst this;rw[hq]at hq';cases hq';exact(jD hl).mpr (.inl (by lia))
   ·exact .inr (.inr λq' hq'=>up _ (z q' hq'))
theorem jJ.finish{m:Nat}{ts:Ts}{R:List Bool}{W:List Int}{p0 k:Nat}(h:jJ m ts R W p0 k)(hk:(nbs ts p0).length<=k):uA m ts R W where
 len:=h.len
 zero:=h.zero
 ok:=h.ok
 win:=h.win
 cl:=λp hp=>by
  rcases h.cl p hp with z | ⟨rfl,z2⟩ | z
  ·exact .inl z
  ·refine .inr λq hq=>?_;obtain⟨j,hj,e⟩:=Yd.mp hq;exact z2 j q (by lia) (by rw[Zz hj,e])
  ·exact .inr z
def gL(R:List Bool):Nat:=(R.filter (! ·)).length
theorem qG:∀{R:List Bool}{i:Nat},R[i]?=some false->gL (R.set i true)+1=gL R
 |[],_,h=>by simp at h
 |b::R,0,h=>by
  have e:b=false:=by simpa using h
  subst e;simp[gL]
 |b::R,i+1,h=>by
  have h':R[i]?=some false:=by simpa using h
  have ih:=qG h';unfold gL at ih ⊢;rw[List.set_cons_succ];cases b<;>simp<;>lia
theorem eT:∀(l m:List Int),l.Nodup->(∀x∈l,x∈m)->l.length<=m.length
 |[],_,_,_=>YX _
 |x::l,m,nd,h=>by
  have h1:=List.nodup_cons.mp nd;have ih:=eT l (m.erase x) h1.2 λy hy=>(List.mem_erase_of_ne (λz=>h1.1 (by rw[<-z];exact hy))).mpr (h y (Zw _ hy));have hx:=List.length_erase_of_mem (h x Zd);have:0<m.length:=List.length_pos_of_mem (h x Zd);simp only[Yq]
  lia
def upTo(m:Nat):List Int:=(ZR m).map λn:Nat=>(n:Int)
theorem mem_upTo{m:Nat}{p:Int}:p∈upTo m↔0<=p/\p<m:=by
 unfold upTo;rw[Zh];constructor
 ·rintro⟨n,hn,rfl⟩;have:=Zs.mp hn
  lia
 ·rintro⟨h0,h1⟩;exact⟨p.toNat,Zs.mpr (by lia),by lia⟩
theorem x6(m:Nat):(upTo m).Nodup:=m7 (λa b h=>by lia) ZC
theorem qB(m:Nat):(upTo m).length=m:=by simp[upTo]
structure eJ(m:Nat)(ts:Ts)(C:List Int):Prop where
 nd:C.Nodup
 zero:0∈C
 win:∀p∈C,0<=p/\p<m
 ok:∀p∈C,Rch ts p
def yN(ts:Ts)(C:List Int):Prop:=∀t∈ts,t.1∈C↔t.2∈C
theorem eJ.le{m:Nat}{ts:Ts}{C:List Int}(h:eJ m ts C):C.length<=m:=by
 have:=eT C (upTo m) h.nd λp hp=>mem_upTo.mpr (h.win p hp)
 rwa [qB]at this
theorem eJ.whole{m:Nat}{ts:Ts}{C:List Int}(h:eJ m ts C)(e:C.length=m):nS m ts:=λp h0 h1=>by
 by_cases hp:p∈C
 ·exact h.ok p hp
 ·have:=eT (p::C) (upTo m) (List.nodup_cons.mpr ⟨hp,h.nd⟩) λq hq=>by
   rcases Zn.mp hq with rfl | hq
   ·exact mem_upTo.mpr ⟨h0,h1⟩
   ·exact mem_upTo.mpr (h.win q hq)
  rw[qB,Yq]at this
  lia
theorem eJ.full{m:Nat}{ts:Ts}{C:List Int}(h:eJ m ts C)(c:yN ts C)(w:nS m ts):C.length=m:=by
 refine Nat.le_antisymm h.le ?_;have:=eT (upTo m) C (x6 m) λp hp=>by
  obtain⟨h0,h1⟩:=mem_upTo.mp hp;refine(w p h0 h1).within (S:=λp=>p∈C) h.zero λp hp q hq=>?_;obtain⟨t,ht,⟨rfl,rfl⟩ | ⟨rfl,rfl⟩⟩:=jU.mp hq
  ·exact(c t ht).mp hp
  ·exact(c t ht).mpr hp
 rwa [qB]at this
theorem eJ.start{m:Nat}{ts:Ts}(h:0<m):eJ m ts [0]:=⟨by simp,by simp,λp hp=>by have:=Zb.mp hp;lia,λp hp=>by rw[Zb.mp hp];exact .zero⟩
theorem eJ.add{m:Nat}{ts:Ts}{C:List Int}(h:eJ m ts C){p q:Int}(hp:p∈C)(hq:q∉C)(hn:q∈nbs ts p)(hw:InW m ts):eJ m ts (C++[q]) where
 nd:=by
  rw[List.nodup_append];exact⟨h.nd,by simp,λa ha b hb z=>by rw[Zb.mp hb]at z;exact hq (z▸ha)⟩
 zero:=ZO _ h.zero
 win:=λx hx=>by
  rcases Zf.mp hx with z | z
  ·exact h.win x z
  ·rw[Zb.mp z];exact x8 hw hn
 ok:=λx hx=>by
  rcases Zf.mp hx with z | z
  ·exact h.ok x z
  ·rw[Zb.mp z];exact(h.ok p hp).step hn
def half(C:List Int)(a b:Int):List Int:=if a∈C/\b∉C then C++[b] else C
theorem BR{m:Nat}{ts:Ts}{C:List Int}(h:eJ m ts C)(hw:InW m ts){a b:Int}(hn:b∈nbs ts a):eJ m ts (half C a b):=by
 unfold half;split
 ·rename_i c;exact h.add c.1 c.2 hn hw
 ·exact h
end AW
namespace TU
open MM
def tab:Nat:=68056125952849030505197046069070090834
noncomputable def dY{α:Type}(n:Nat)(k:Nat->α):α:=Nat.rec (k 0) (λm _=>k (Nat.succ m)) n
theorem dX{α:Type}(n:Nat)(k:Nat->α):dY n k=k n:=by cases n<;>rfl
def nq(a d:Nat):Nat :=
 bif Nat.beq (Nat.mod d 4) 0 then Nat.add d 4 else bif Nat.beq (Nat.mod d 4) 1 then Nat.sub (Nat.add d (Nat.mul 4 a)) 1 else bif Nat.beq (Nat.mod d 4) 2 then Nat.sub d 6 else Nat.sub d (Nat.add 3 (Nat.mul 4 a))
def nhd(D q h:Nat):Nat:=Nat.land (YV tab (Nat.mul 2 (Nat.add (Nat.mul 16 h) (Nat.land (YV D q) 15)))) 3
noncomputable def go(a D d0:Nat)(n:Nat):Nat->Nat->Nat->(Nat->Nat->Bool)->Bool:=Nat.rec (λ_ _ _ _=>false) (λ_ ih d t V k =>
  dY (nq a d) λq=>dY (nhd D q (Nat.mod d 4)) λh=>dY (Nat.add q h) λd' =>
  dY (Nat.sub (Nat.add t (Nat.mod (Nat.sub (Nat.add h 6) (Nat.mod d 4)) 4)) 2) λt'=>dY (Nat.xor V (Nat.shiftLeft 1 d)) λV' =>
  bif Nat.beq d' d0 then k t' V' else ih d' t' V' k) n
noncomputable def rB(a D:Nat)(n:Nat):Nat->Nat->Bool:=Nat.rec (λ_ _=>false) (λ_ ih V m=>bif Nat.beq V 0 then Nat.beq m 1 else
  dY (Nat.log2 V) λd0=>bif Nat.beq (Nat.land (YV D d0) 1) 1 then go a D d0 40 d0 100 V λt V'=>bif Nat.beq t 104 then ih V' m else bif Nat.beq t 96 then bif Nat.beq m 0 then ih V' 1 else false else false else false) n
def l9(a D R:Nat):Nat :=
 Nat.lor R (Nat.lor (Nat.lor (Nat.shiftLeft (Nat.land R D) 4) (Nat.shiftLeft (Nat.land R (YV D 1)) (Nat.mul 4 a))) (Nat.lor (YV (Nat.land R (YV D 2)) 4) (YV (Nat.land R (YV D 3)) (Nat.mul 4 a))))
noncomputable def fl(a D n:Nat):Nat->(Nat->Bool)->Bool:=Nat.rec (λR k=>k R) (λ_ ih R k=>dY (l9 a D R) λR'=>bif Nat.beq R' R then k R else ih R' k) n
def P4:Nat:=0x1111111111
noncomputable def chk(a D:Nat):Bool:=bif Nat.beq D 0 then true else
 dY (Nat.land (Nat.lor (Nat.lor D (YV D 1)) (Nat.lor (YV D 2) (YV D 3))) P4) λT =>
 fl a D 12 (Nat.shiftLeft 1 (Nat.log2 T)) λR=>bif Nat.beq (Nat.land T R) T then rB a D 14 D 0 else Nat.beq (l9 a D R) R
def nx(a D d:Nat):Nat:=nq a d+nhd D (nq a d) (d%4)
def tau(a D d:Nat):Int:=(((nhd D (nq a d) (d%4)+6-d%4)%4:Nat):Int)-2
def sm(f:Nat->Nat)(g:Nat->Int)(d:Nat):Nat->Int
 |0=>0
 |n+1=>sm f g d n+g (iter f n d)
theorem dU(f:Nat->Nat)(d:Nat)(n:Nat):iter f n (f d)=iter f (n+1) d:=by
 have:=bG f d 1 n;rw[Nat.add_comm 1 n]at this;exact this.symm
theorem sY(f:Nat->Nat)(g:Nat->Int)(d:Nat):∀n,sm f g d (n+1)=g d+sm f g (f d) n
 |0=>by show 0+g d=g d+0;lia
 |n+1=>by
  show sm f g d (n+1)+g (iter f (n+1) d)=g d+(sm f g (f d) n+g (iter f n (f d)))
  rw[sY f g d n,dU];lia
def j5(f:Nat->Nat)(g:Nat->Int)(d:Nat)(x:Int):Prop:=∃n,kC f d n/\sm f g d n=x
theorem j5.next{f:Nat->Nat}{g:Nat->Int}{d:Nat}{x:Int}(h:j5 f g d x):j5 f g (f d) x:=by
 obtain⟨n,⟨h0,h1,h2⟩,e⟩:=h;have key:∀j,iter f j (f d)=f d->iter f j d=d:=λj q=>by
  have e1:iter f n (f (iter f j d))=iter f n (f d):=by
   have:f (iter f j d)=f d:=by show iter f (j+1) d=f d;rw[<-dU];exact q
   rw[this]
  rw[dU,dU]at e1;have e2:∀y,iter f (n+1) y=f (iter f n y):=λ_=>rfl;have e3:iter f n (iter f j d)=iter f j (iter f n d):=by rw[<-bG,<-bG,Nat.add_comm]
  have e4:iter f (n-1) (iter f (j+1) d)=iter f (n-1) (iter f 1 d):=by
   have:iter f (j+1) d=iter f 1 d:=by rw[<-dU];exact q
   rw[this]
  rw[<-bG,<-bG,show j+1+(n-1)=n+j by lia,show 1+(n-1)=n by lia,h1,bG,h1]at e4;exact e4
 refine⟨n,⟨h0,?_,λj j0 jn q=>h2 j j0 jn (key j q)⟩,?_⟩
 ·rw[dU];show f (iter f n d)=f d;rw[h1]
 ·have a1:=sY f g d n;have a2:sm f g d (n+1)=sm f g d n+g (iter f n d):=rfl;rw[h1]at a2
  lia
theorem j5.iter{f:Nat->Nat}{g:Nat->Int}{d:Nat}{x:Int}(h:j5 f g d x):∀i,j5 f g (iter f i d) x
 |0=>h
 |i+1=>(h.iter i).next
theorem j5.uniq{f:Nat->Nat}{g:Nat->Int}{d:Nat}{x y:Int}(h:j5 f g d x)(h':j5 f g d y):x=y:=by
 obtain⟨n,r,e⟩:=h;obtain⟨n',r',e'⟩:=h';rw[<-e,<-e',pF r r']
theorem t5{a b:Nat}(h:Nat.beq a b=true):a=b:=Nat.eq_of_beq_eq_true h
theorem N9{a b:Nat}(h:Nat.beq a b=false):a≠b:=Nat.ne_of_beq_eq_false h
theorem IY{a D d0:Nat}{k:Nat->Nat->Bool}:∀{n d t V:Nat},2*n<=t->go a D d0 n d t V k=true->∃m t' V':Nat,0<m/\iter (nx a D) m d=d0/\(∀i,0<i->i<m->iter (nx a D) i d≠d0)/\(t':Int)=t+sm (nx a D) (tau a D) d m/\k t' V'=true/\∀e,V.testBit e=true->V'.testBit e=true\/∃i,i<m/\iter (nx a D) i d=e
 |0,_,_,_,_,h=>by cases h
 |n+1,d,t,V,ht,h=>by
  have h':(dY (nq a d) λq=>dY (nhd D q (Nat.mod d 4)) λh=>dY (Nat.add q h) λd' =>
   dY (Nat.sub (Nat.add t (Nat.mod (Nat.sub (Nat.add h 6) (Nat.mod d 4)) 4)) 2) λt'=>dY (Nat.xor V (Nat.shiftLeft 1 d)) λV' =>
   bif Nat.beq d' d0 then k t' V' else go a D d0 n d' t' V' k)=true:=h
  rw[dX,dX,dX,dX,dX]at h';have h2:(bif Nat.beq (nx a D d) d0 then k (t+(nhd D (nq a d) (d%4)+6-d%4)%4-2) (V ^^^ (1 <<< d)) else go a D d0 n (nx a D d) (t+(nhd D (nq a d) (d%4)+6-d%4)%4-2) (V ^^^ (1 <<< d)) k)=true:=h';have et:((t+(nhd D (nq a d) (d%4)+6-d%4)%4-2:Nat):Int)=t+tau a D d:=by unfold tau;lia
  have cov:∀e,V.testBit e=true->(V ^^^ (1 <<< d)).testBit e=true\/d=e:=λe he=>by
   by_cases z:d=e
   ·exact .inr z
   ·refine .inl ?_;rw[Nat.testBit_xor,he,Nat.one_shiftLeft,Nat.testBit_two_pow_of_ne z];rfl
  cases c:Nat.beq (nx a D d) d0 with
  |true =>
   rw[c]at h2;refine⟨1,_,_,Nat.one_pos,t5 c,λi i0 i1=>by lia,?_,h2,λe he=>?_⟩
   ·rw[et];show _=(t:Int)+(0+tau a D d);lia
   ·rcases cov e he with z | z
    ·exact .inl z
    ·exact .inr ⟨0,Nat.one_pos,z⟩
  |false =>
   rw[c]at h2;obtain⟨m,t',V',m0,e1,e2,e3,e4,e5⟩:=IY (by omega) h2;refine⟨m+1,t',V',by lia,by rw[<-dU];exact e1,λi i0 im=>?_,?_,e4,λe he=>?_⟩
   ·obtain⟨j,rfl⟩:∃j,i=j+1:=⟨i-1,by lia⟩
    rw[<-dU];by_cases z:j=0
    ·subst z;exact N9 c
    ·exact e2 j (by lia) (by lia)
   ·rw[e3,et,sY];lia
   ·rcases cov e he with z | z
    ·rcases e5 e z with y | ⟨i,hi,y⟩
     ·exact .inl y
     ·exact .inr ⟨i+1,by lia,by rw[<-dU];exact y⟩
    ·exact .inr ⟨0,by lia,z⟩
def FL(f:Nat->Nat)(g:Nat->Int)(D V:Nat):Prop:=∃s,D.testBit s=true/\j5 f g s (-4)/\∀d,V.testBit d=true->j5 f g d 4\/∃i,iter f i s=d
theorem tK{a D:Nat}:∀{n V m:Nat},rB a D n V m=true->m<=1->(m=1->∀d,V.testBit d=true->j5 (nx a D) (tau a D) d 4)/\(m=0->FL (nx a D) (tau a D) D V)
 |0,_,_,h,_=>by cases h
 |n+1,V,m,h,hm=>by
  have h':(bif Nat.beq V 0 then Nat.beq m 1 else
   dY (Nat.log2 V) λd0=>bif Nat.beq (Nat.land (YV D d0) 1) 1 then go a D d0 40 d0 100 V λt V'=>bif Nat.beq t 104 then rB a D n V' m else bif Nat.beq t 96 then bif Nat.beq m 0 then rB a D n V' 1 else false else false else false)=true:=h
  rw[dX]at h';cases c:Nat.beq V 0 with
  |true =>
   rw[c]at h';have em:=t5 h';refine⟨λ_ d hd=>?_,λz=>by lia⟩;rw[t5 c,Nat.zero_testBit]at hd;cases hd
  |false =>
   rw[c]at h';have h1:(bif Nat.beq (Nat.land (YV D V.log2) 1) 1 then go a D V.log2 40 V.log2 100 V λt V'=>bif Nat.beq t 104 then rB a D n V' m else bif Nat.beq t 96 then bif Nat.beq m 0 then rB a D n V' 1 else false else false else false)=true:=h';cases cb:Nat.beq (Nat.land (YV D V.log2) 1) 1 with
   |false=>rw[cb]at h1;cases h1
   |true =>
   rw[cb]at h1;have hs:D.testBit V.log2=true:=by
    have e:=t5 cb;show(1 &&& (D >>> V.log2) != 0)=true;rw[Nat.and_comm];have e':(D >>> V.log2) &&& 1=1:=e;rw[e'];rfl
   obtain⟨l,t,V',l0,e1,e2,e3,e4,e5⟩:=IY (n:=40) (t:=100) (by decide) (show go a D V.log2 40 V.log2 100 V _=true from h1);have on:j5 (nx a D) (tau a D) V.log2 ((t:Int)-100):=⟨l,⟨l0,e1,e2⟩,by lia⟩
   cases c1:Nat.beq t 104 with
   |true =>
    rw[c1]at e4;have ih:=tK e4 hm;rw[t5 c1]at on;have four:∀i,j5 (nx a D) (tau a D) (iter (nx a D) i V.log2) 4:=λi=>on.iter i;refine⟨λz d hd=>?_,λz=>?_⟩
    ·rcases e5 d hd with y | ⟨i,_,rfl⟩
     ·exact ih.1 z d y
     ·exact four i
    ·obtain⟨s,sb,hs,hall⟩:=ih.2 z;refine⟨s,sb,hs,λd hd=>?_⟩;rcases e5 d hd with y | ⟨i,_,rfl⟩
     ·exact hall d y
     ·exact .inl (four i)
   |false =>
    rw[c1]at e4;cases c2:Nat.beq t 96 with
    |false=>rw[c2]at e4;cases e4
    |true =>
     rw[c2]at e4;cases c3:Nat.beq m 0 with
     |false=>rw[c3]at e4;cases e4
     |true =>
      rw[c3]at e4;have m0:=t5 c3;have ih:=(tK e4 (ZA 1)).1 rfl;rw[t5 c2]at on;refine⟨λz=>by lia,λ_=>⟨V.log2,hs,on,λd hd=>?_⟩⟩;rcases e5 d hd with y | ⟨i,_,rfl⟩
      ·exact .inl (ih d y)
      ·exact .inr ⟨i,rfl⟩
def eps(a b:Nat):List (Nat×Nat):=(ZR (a*b)).flatMap λp=>(if p%a+1<a then [(4*p,4*(p+1)+2)] else [])++(if p / a+1<b then [(4*p+1,4*(p+a)+3)] else [])
noncomputable def iY(a:Nat):List (Nat×Nat)->Nat->Bool:=List.rec (λD=>chk a D) (λe _ ih D=>bif ih D then dY (Nat.lor D (Nat.lor (Nat.pow 2 e.1) (Nat.pow 2 e.2))) ih else false)
def mkD(S:Nat×Nat->Bool):List (Nat×Nat)->Nat->Nat
 |[],D=>D
 |e::es,D=>mkD S es (if S e=true then D ||| (2 ^ e.1 ||| 2 ^ e.2) else D)
theorem t9{a:Nat}(S:Nat×Nat->Bool):∀{es:List (Nat×Nat)}{D:Nat},iY a es D=true->chk a (mkD S es D)=true
 |[],D,h=>h
 |e::es,D,h=>by
  have h':(bif iY a es D then dY (Nat.lor D (Nat.lor (Nat.pow 2 e.1) (Nat.pow 2 e.2))) (iY a es) else false)=true:=h;rw[dX]at h';cases c:iY a es D with
  |false=>rw[c]at h';cases h'
  |true =>
   rw[c]at h';show chk a (mkD S es _)=true;split
   ·exact t9 S (show iY a es (D ||| (2 ^ e.1 ||| 2 ^ e.2))=true from h')
   ·exact t9 S c
theorem zJ{S:Nat×Nat->Bool}{i:Nat}:∀{es:List (Nat×Nat)}{D:Nat},(mkD S es D).testBit i=true↔D.testBit i=true\/∃e∈es,S e=true/\(e.1=i\/e.2=i)
 |[],D=>by simp[mkD]
 |e::es,D=>by
  show(mkD S es _).testBit i=true↔_;rw[zJ];by_cases c:S e=true
  ·rw[Yb c,Nat.testBit_or,Nat.testBit_or,Nat.testBit_two_pow,Nat.testBit_two_pow];simp only[Bool.or_eq_true,decide_eq_true_eq,Zn];constructor
   ·rintro((h | h) | ⟨x,hx,h⟩)
    ·exact .inl h
    ·exact .inr ⟨e,.inl rfl,c,h⟩
    ·exact .inr ⟨x,.inr hx,h⟩
   ·rintro(h | ⟨x,rfl | hx,h1,h⟩)
    ·exact .inl (.inl h)
    ·exact .inl (.inr h)
    ·exact .inr ⟨x,hx,h1,h⟩
  ·rw[Ya c];simp only[Zn];constructor
   ·rintro(h | ⟨x,hx,h⟩)
    ·exact .inl h
    ·exact .inr ⟨x,.inr hx,h⟩
   ·rintro(h | ⟨x,rfl | hx,h1,h⟩)
    ·exact .inl h
    ·exact Yg h1 c
    ·exact .inr ⟨x,hx,h1,h⟩
structure Stp(a b:Nat)(W:Nat->Nat->Option Nat):Prop where
 h4:∀{p h q},W p h=some q->h<4
 sym:∀{p h q},W p h=some q->W q ((h+2)%4)=some p
 e:∀{p q},W p 0=some q->p<a*b/\p%a+1<a/\q=p+1
 n:∀{p q},W p 1=some q->p<a*b/\p / a+1<b/\q=p+a
def DW(a b:Nat)(W:Nat->Nat->Option Nat):Nat:=mkD (λe=>(W (e.1 / 4) (e.1%4)).isSome) (eps a b) 0
section
variable{a b:Nat}{W:Nat->Nat->Option Nat}
theorem lU{x y:Nat}:(x,y)∈eps a b↔∃p,p<a*b/\((p%a+1<a/\x=4*p/\y=4*(p+1)+2)\/(p / a+1<b/\x=4*p+1/\y=4*(p+a)+3)):=by
 unfold eps;rw[Yk];constructor
 ·rintro⟨p,hp,h⟩;refine⟨p,Zs.mp hp,?_⟩;rcases Zf.mp h with h | h
  ·split at h
   ·rename_i c
    have:=Zb.mp h;cases this;exact .inl ⟨c,rfl,rfl⟩
   ·cases h
  ·split at h
   ·rename_i c
    have:=Zb.mp h;cases this;exact .inr ⟨c,rfl,rfl⟩
   ·cases h
 ·rintro⟨p,hp,h⟩;refine⟨p,Zs.mpr hp,?_⟩;rcases h with⟨c,rfl,rfl⟩ | ⟨c,rfl,rfl⟩
  ·rw[Yb c];exact ZO _ (.head _)
  ·rw[Yb c];exact ZN _ (.head _)
theorem kT(s:Stp a b W)(i:Nat):(DW a b W).testBit i=true↔(W (i / 4) (i%4)).isSome=true:=by
 unfold DW;rw[zJ];constructor
 ·rintro(h | ⟨⟨x,y⟩,hm,hs,h⟩)
  ·rw[Nat.zero_testBit]at h;cases h
  ·obtain⟨q,hq⟩:=Option.isSome_iff_exists.mp hs;rcases h with h | h
   ·have:x=i:=h;rw[<-this,hq];rfl
   ·have hy:y=i:=h;obtain⟨p,hp,⟨c,rfl,rfl⟩ | ⟨c,rfl,rfl⟩⟩:=lU.mp hm
    ·have hq':W p 0=some q:=by
      have e1:(4*p) / 4=p:=by lia
      have e2:(4*p)%4=0:=by lia
      have:=hq;dsimp only at this;rw[e1,e2]at this;exact this
     have e:=(s.e hq').2.2;have:=s.sym hq';rw[<-hy,show(4*(p+1)+2) / 4=p+1 by lia,show(4*(p+1)+2)%4=(0+2)%4 by lia,<-e,this];rfl
    ·have hq':W p 1=some q:=by
      have e1:(4*p+1) / 4=p:=by lia
      have e2:(4*p+1)%4=1:=by lia
      have:=hq;dsimp only at this;rw[e1,e2]at this;exact this
     have e:=(s.n hq').2.2;have:=s.sym hq';rw[<-hy,show(4*(p+a)+3) / 4=p+a by lia,show(4*(p+a)+3)%4=(1+2)%4 by lia,<-e,this];rfl
 ·intro h;obtain⟨q,hq⟩:=Option.isSome_iff_exists.mp h;refine .inr ?_;have h4:=s.h4 hq;have ei:i=4*(i / 4)+i%4:=by lia
  generalize hp:i / 4=p at hq ei;generalize hh:i%4=k at hq ei h4;have:k=0\/k=1\/k=2\/k=3:=by lia
  rcases this with rfl | rfl | rfl | rfl
  ·obtain⟨l1,l2,l3⟩:=s.e hq;exact⟨(4*p,4*(p+1)+2),lU.mpr ⟨p,l1,.inl ⟨l2,rfl,rfl⟩⟩,by show(W (4*p / 4) (4*p%4)).isSome=true;rw[show 4*p / 4=p by lia,show 4*p%4=0 by lia,hq];rfl,.inl (by show 4*p=i;lia)⟩
  ·obtain⟨l1,l2,l3⟩:=s.n hq;exact⟨(4*p+1,4*(p+a)+3),lU.mpr ⟨p,l1,.inr ⟨l2,rfl,rfl⟩⟩,by show(W ((4*p+1) / 4) ((4*p+1)%4)).isSome=true;rw[show(4*p+1) / 4=p by lia,show(4*p+1)%4=1 by lia,hq];rfl,.inl (by show 4*p+1=i;lia)⟩
  ·have hs:=s.sym hq;obtain⟨l1,l2,l3⟩:=s.e hs;exact⟨(4*q,4*(q+1)+2),lU.mpr ⟨q,l1,.inl ⟨l2,rfl,rfl⟩⟩,by show(W (4*q / 4) (4*q%4)).isSome=true;rw[show 4*q / 4=q by lia,show 4*q%4=(2+2)%4 by lia,hs];rfl,.inr (by show 4*(q+1)+2=i;lia)⟩
  ·have hs:=s.sym hq;obtain⟨l1,l2,l3⟩:=s.n hs;exact⟨(4*q+1,4*(q+a)+3),lU.mpr ⟨q,l1,.inr ⟨l2,rfl,rfl⟩⟩,by show(W ((4*q+1) / 4) ((4*q+1)%4)).isSome=true;rw[show(4*q+1) / 4=q by lia,show(4*q+1)%4=(3+2)%4 by lia,hs];rfl,.inr (by show 4*(q+a)+3=i;lia)⟩
def Cnn(W:Nat->Nat->Option Nat):Prop:=∀S:Nat->Prop,(∀p h q,S p->W p h=some q->S q)->∀p h q p' h' q',W p h=some q->W p' h'=some q'->S p->S p'
theorem JA{D:Nat}{k:Nat->Bool}:∀{n R:Nat},fl a D n R k=true->∃R',k R'=true/\∀i,R.testBit i=true->R'.testBit i=true
 |0,R,h=>⟨R,h,λ_ z=>z⟩
 |n+1,R,h=>by
  have h':(dY (l9 a D R) λR'=>bif Nat.beq R' R then k R else fl a D n R' k)=true:=h;rw[dX]at h';cases c:Nat.beq (l9 a D R) R with
  |true=>rw[c]at h';exact⟨R,h',λ_ z=>z⟩
  |false =>
   rw[c]at h';obtain⟨R',e1,e2⟩:=JA (show fl a D n (l9 a D R) k=true from h');refine⟨R',e1,λi hi=>e2 i ?_⟩;show(R ||| _).testBit i=true;rw[Nat.testBit_or,hi];rfl
theorem E3(s:Stp a b W){R:Nat}(h:l9 a (DW a b W) R=R){p k q:Nat}(hp:R.testBit (4*p)=true)(hw:W p k=some q):R.testBit (4*q)=true:=by
 have bit:∀{x k:Nat},k<4->(W x k).isSome=true->(DW a b W).testBit (4*x+k)=true:=λ{x k} hk hx=>(kT s _).mpr (by rw[show(4*x+k) / 4=x by lia,show(4*x+k)%4=k by lia];exact hx);have hb:=bit (s.h4 hw) (by rw[hw];rfl);have h4:=s.h4 hw;rw[<-h];show(R ||| ((((R &&& DW a b W) <<< 4) ||| ((R &&& (DW a b W >>> 1)) <<< (4*a))) ||| (((R &&& (DW a b W >>> 2)) >>> 4) ||| ((R &&& (DW a b W >>> 3)) >>> (4*a))))).testBit (4*q)=true;simp only[Nat.testBit_or,Nat.testBit_and,Nat.testBit_shiftLeft,Nat.testBit_shiftRight,Bool.or_eq_true,Xb,decide_eq_true_eq];have:k=0\/k=1\/k=2\/k=3:=by lia
 rcases this with rfl | rfl | rfl | rfl
 ·obtain⟨_,_,rfl⟩:=s.e hw;refine .inr (.inl (.inl ⟨by lia,?_⟩));rw[show 4*(p+1)-4=4*p by lia];exact⟨hp,hb⟩
 ·obtain⟨_,_,rfl⟩:=s.n hw;refine .inr (.inl (.inr ⟨by lia,?_⟩));rw[show 4*(p+a)-4*a=4*p by lia];exact⟨hp,by rw[Nat.add_comm];exact hb⟩
 ·obtain⟨_,_,e⟩:=s.e (s.sym hw);refine .inr (.inr (.inl ?_));rw[show 4+4*q=4*p by lia];exact⟨hp,by rw[Nat.add_comm];exact hb⟩
 ·obtain⟨_,_,e⟩:=s.n (s.sym hw);refine .inr (.inr (.inr ?_));rw[show 4*a+4*q=4*p by lia];exact⟨hp,by rw[Nat.add_comm];exact hb⟩
end
section
variable{a b:Nat}{W:Nat->Nat->Option Nat}
theorem FN{i:Nat}(h:P4.testBit i=true):i%4=0/\i<40:=by
 have lt:i<40:=by
  rcases Xw i 40 with z | z
  ·exact z
  ·rw[Nat.testBit_lt_two_pow (Xk (show P4<2 ^ 40 by decide) (Nat.pow_le_pow_right (by decide) z))]at h;cases h
 have:∀j:Fin 40,P4.testBit j.1=true->j.1%4=0:=by decide
 exact⟨this ⟨i,lt⟩ h,lt⟩
theorem OD{p:Nat}(h:p<10):P4.testBit (4*p)=true:=by
 have:∀j:Fin 10,P4.testBit (4*j.1)=true:=by decide
 exact this ⟨p,h⟩
theorem Stp.lt(s:Stp a b W){p h q:Nat}(hw:W p h=some q):p<a*b:=by
 have h4:=s.h4 hw;have:h=0\/h=1\/h=2\/h=3:=by lia
 rcases this with rfl | rfl | rfl | rfl
 ·exact(s.e hw).1
 ·exact(s.n hw).1
 ·obtain⟨l1,l2,rfl⟩:=s.e (s.sym hw);have ha:0<a:=by lia
  have:q / a<b:=Nat.div_lt_of_lt_mul l1;have e:=Nat.div_add_mod q a;have:a*(q / a)+a<=a*b:=by
   have:=Nat.mul_le_mul_left a (show q / a+1<=b by lia);rw[Nat.mul_add,Nat.mul_one]at this;exact this
  lia
 ·obtain⟨l1,l2,rfl⟩:=s.n (s.sym hw);have ha:0<a:=Nat.pos_of_ne_zero λz=>by subst z;lia
  have e:=Nat.div_add_mod q a;have lm:=Nat.mod_lt q ha;have:a*(q / a)+a+a<=a*b:=by
   have:=Nat.mul_le_mul_left a (show q / a+1+1<=b by lia);rw[Nat.mul_add,Nat.mul_add,Nat.mul_one]at this;exact this
  lia
theorem FW(s:Stp a b W)(hall:iY a (eps a b) 0=true)(h10:a*b<=10)(cn:Cnn W)(ne:∃p h q,W p h=some q):FL (nx a (DW a b W)) (tau a (DW a b W)) (DW a b W) (DW a b W):=by
 have hc:chk a (DW a b W)=true:=t9 _ hall;generalize hT:(((DW a b W ||| (DW a b W >>> 1)) ||| ((DW a b W >>> 2) ||| (DW a b W >>> 3))) &&& P4)=T;have hc':(bif Nat.beq (DW a b W) 0 then true else dY (((DW a b W ||| (DW a b W >>> 1)) ||| ((DW a b W >>> 2) ||| (DW a b W >>> 3))) &&& P4) λT=>fl a (DW a b W) 12 (Nat.shiftLeft 1 (Nat.log2 T)) λR=>bif Nat.beq (Nat.land T R) T then rB a (DW a b W) 14 (DW a b W) 0 else Nat.beq (l9 a (DW a b W) R) R)=true:=hc;rw[dX,hT]at hc';have bit:∀{x k q:Nat},W x k=some q->(DW a b W).testBit (4*x+k)=true:=λ{x k q} hx=>(kT s _).mpr (by have:=s.h4 hx;rw[show(4*x+k) / 4=x by lia,show(4*x+k)%4=k by lia,hx];rfl);have Tb:∀p,T.testBit (4*p)=true↔p<10/\∃h q,W p h=some q:=λp=>by
  rw[<-hT];simp only[Nat.testBit_and,Nat.testBit_or,Nat.testBit_shiftRight,Xb,Bool.or_eq_true];constructor
  ·rintro⟨h,hp⟩;refine⟨by have:=(FN hp).2;lia,?_⟩;have get:∀{k},k<4->(DW a b W).testBit (4*p+k)=true->∃h q,W p h=some q:=λ{k} hk z=>by
    have:=(kT s _).mp z;rw[show(4*p+k) / 4=p by lia,show(4*p+k)%4=k by lia]at this;obtain⟨q,hq⟩:=Option.isSome_iff_exists.mp this;exact⟨k,q,hq⟩
   rcases h with(h | h) | (h | h)
   ·exact get (k:=0) (by lia) h
   ·exact get (k:=1) (by lia) (by rw[Nat.add_comm];exact h)
   ·exact get (k:=2) (by lia) (by rw[Nat.add_comm];exact h)
   ·exact get (k:=3) (by lia) (by rw[Nat.add_comm];exact h)
  ·rintro⟨hp,h,q,hw⟩;refine⟨?_,OD hp⟩;have h4:=s.h4 hw;have hb:=bit hw;have:h=0\/h=1\/h=2\/h=3:=by lia
   rcases this with rfl | rfl | rfl | rfl
   ·exact .inl (.inl hb)
   ·exact .inl (.inr (by rw[Nat.add_comm];exact hb))
   ·exact .inr (.inl (by rw[Nat.add_comm];exact hb))
   ·exact .inr (.inr (by rw[Nat.add_comm];exact hb))
 have Tm:∀{i},T.testBit i=true->i%4=0:=λ{i} h=>by
  rw[<-hT,Nat.testBit_and,Xb]at h;exact(FN h.2).1
 obtain⟨p0,h0,q0,w0⟩:=ne;have D0:DW a b W≠0:=λz=>by have:=bit w0;rw[z,Nat.zero_testBit]at this;cases this
 have t0:=(Tb p0).mpr ⟨by have:=s.lt w0;lia,h0,q0,w0⟩;have T0:T≠0:=λz=>by rw[z,Nat.zero_testBit]at t0;cases t0
 cases c:Nat.beq (DW a b W) 0 with
 |true=>exact Yg (t5 c) D0
 |false =>
  rw[c]at hc';obtain⟨R,e1,e2⟩:=JA (k:=λR=>bif Nat.beq (Nat.land T R) T then rB a (DW a b W) 14 (DW a b W) 0 else Nat.beq (l9 a (DW a b W) R) R) (show fl a (DW a b W) 12 (Nat.shiftLeft 1 (Nat.log2 T)) (λR=>bif Nat.beq (Nat.land T R) T then rB a (DW a b W) 14 (DW a b W) 0 else Nat.beq (l9 a (DW a b W) R) R)=true from hc');cases c1:Nat.beq (Nat.land T R) T with
  |true =>
   rw[c1]at e1;exact(tK (show rB a (DW a b W) 14 (DW a b W) 0=true from e1) (by lia)).2 rfl
  |false =>
   rw[c1]at e1;have cl:=t5 e1;refine Yg ?_ (N9 c1);have lg:T.testBit T.log2=true:=Nat.testBit_log2 T0;obtain⟨m,em⟩:∃m,T.log2=4*m:=⟨T.log2 / 4,by have:=Tm lg;lia⟩
   have hR0:R.testBit (4*m)=true:=e2 _ (by show(1 <<< T.log2).testBit (4*m)=true;rw[Nat.one_shiftLeft,em,Nat.testBit_two_pow_self]);rw[em]at lg;obtain⟨_,hm,qm,wm⟩:=(Tb m).mp lg;refine Nat.eq_of_testBit_eq λi=>?_;show(T &&& R).testBit i=_;rw[Nat.testBit_and];cases ct:T.testBit i with
   |false=>rfl
   |true =>
    obtain⟨p,ep⟩:∃p,i=4*p:=⟨i / 4,by have:=Tm ct;lia⟩
    rw[ep]at ct;obtain⟨_,hh,qq,ww⟩:=(Tb p).mp ct;have:=cn (λx=>R.testBit (4*x)=true) (λx h q hx hw=>E3 s cl hx hw) m hm qm p hh qq wm ww hR0;rw[ep,this];rfl
def nh(W:Nat->Nat->Option Nat)(q h:Nat):Nat :=
 if (W q ((h+1)%4)).isSome=true then (h+1)%4 else if (W q h).isSome=true then h else if (W q ((h+3)%4)).isSome=true then (h+3)%4 else (h+2)%4
def MQ:Bool:=(ZR 4).all λh=>(ZR 16).all λm=>((tab >>> (2*(16*h+m))) &&& 3)==(if m.testBit ((h+1)%4)=true then (h+1)%4 else if m.testBit h=true then h else if m.testBit ((h+3)%4)=true then (h+3)%4 else (h+2)%4)
theorem JN{h m:Nat}(hh:h<4)(hm:m<16):((tab >>> (2*(16*h+m))) &&& 3)=(if m.testBit ((h+1)%4)=true then (h+1)%4 else if m.testBit h=true then h else if m.testBit ((h+3)%4)=true then (h+3)%4 else (h+2)%4):=by
 have:MQ=true:=by decide +kernel
 unfold MQ at this;rw[ZD]at this;have:=this h (Zs.mpr hh);rw[ZD]at this;exact beq_iff_eq.mp (this m (Zs.mpr hm))
theorem NV(s:Stp a b W){p h q:Nat}(hw:W p h=some q):nq a (4*p+h)=4*q:=by
 have h4:=s.h4 hw;have md:Nat.mod (4*p+h) 4=h:=by show(4*p+h)%4=h;lia
 unfold nq;rw[md];have:h=0\/h=1\/h=2\/h=3:=by lia
 rcases this with rfl | rfl | rfl | rfl
 ·obtain⟨_,_,rfl⟩:=s.e hw;show 4*p+0+4=_;lia
 ·obtain⟨_,_,rfl⟩:=s.n hw;show 4*p+1+4*a-1=_;lia
 ·obtain⟨_,_,e⟩:=s.e (s.sym hw);show 4*p+2-6=_;lia
 ·obtain⟨_,_,e⟩:=s.n (s.sym hw);show 4*p+3-(3+4*a)=_;lia
theorem LI(s:Stp a b W){q h:Nat}(hh:h<4):nhd (DW a b W) (4*q) h=nh W q h:=by
 show((tab >>> (2*(16*h+((DW a b W >>> (4*q)) &&& 15)))) &&& 3)=_;have hm:(DW a b W >>> (4*q)) &&& 15<16:=Xj Nat.and_le_right (by decide);rw[JN hh hm];have bit:∀{k},k<4->((DW a b W >>> (4*q)) &&& 15).testBit k=(W q k).isSome:=λ{k} hk=>by
  have e15:(15:Nat).testBit k=true:=by
   have:∀j:Fin 4,(15:Nat).testBit j.1=true:=by decide
   exact this ⟨k,hk⟩
  rw[Nat.testBit_and,Nat.testBit_shiftRight,e15,Bool.and_true];have:=kT s (4*q+k);rw[show(4*q+k) / 4=q by lia,show(4*q+k)%4=k by lia]at this;exact Xd.mpr this
 rw[bit (Nat.mod_lt _ (by decide)),bit hh,bit (Nat.mod_lt _ (by decide))];rfl
theorem EA(s:Stp a b W){p h q:Nat}(hw:W p h=some q):nx a (DW a b W) (4*p+h)=4*q+nh W q h/\tau a (DW a b W) (4*p+h)=(((nh W q h+6-h)%4:Nat):Int)-2:=by
 have h4:=s.h4 hw;unfold nx tau;rw[NV s hw,show(4*p+h)%4=h by lia,LI s h4];exact⟨rfl,rfl⟩
end
theorem g33:iY 3 (eps 3 3) 0=true:=by decide +kernel
theorem g52:iY 5 (eps 5 2) 0=true:=by decide +kernel
theorem g25:iY 2 (eps 2 5) 0=true:=by decide +kernel
theorem g42:iY 4 (eps 4 2) 0=true:=by decide +kernel
theorem g22:iY 2 (eps 2 2) 0=true:=by decide +kernel
theorem g32:iY 3 (eps 3 2) 0=true:=by decide +kernel
theorem g21:iY 2 (eps 2 1) 0=true:=by decide +kernel
theorem g14:iY 1 (eps 1 4) 0=true:=by decide +kernel
end TU
namespace L2
open PySem PySem.Spec PyProof.Rows
theorem scm{N P:List Str}{sc:Scope}(a:sc.kind=.function:=by rfl)(b:sc.isCoroutine=false:=by rfl)(c:sc.isGenerator=false:=by rfl)(d:N.Nodup:=by decide +kernel)(e:N.take P.length=P:=by rfl)(f:∀x∈P,sc.names.lookup x=some .local\/sc.names.lookup x=some .cell:=by decide +kernel)(g:∀y∈sc.names,y.2≠.free:=by decide +kernel):eE N P sc:=⟨a,b,c,d,e,f,g⟩
structure Fn4(K:PySem.W.Frag)(mg:Str->Option Value)(x:Str)(s:Stmt)(ps:List Str)(a:Addr)(d:FuncData):Prop where
 F:Fun K x x s a d
 m:mg x=some (.ref a)
 k:PySem.W.keepIn K (.ref a)=true
 b:Binds K d ps []
abbrev FnX(K:PySem.W.Frag)(x:Str)(s:Stmt):Prop:=∃f:Addr,PySem.W.nsIn K ZV x=some (some (.ref f))/\∃(oc:Value) (od:Option Addr) (kV dc pm:Value) (an:Option Addr) (cd ct:Value) (sl:Array (Option Value)),K.lookup f=some ⟨oc,od,.func (PySem.W.fnOf x x (fD s) (dA s) (bC s) .none kV dc pm an cd ct),sl⟩/\PySem.W.codeIn K cd x=true/\PySem.W.keepIn K (.ref f)=true
theorem P1{K:PySem.W.Frag}{mg:Str->Option Value}{h:Heap}{x:Str}{s:Stmt}{ps:List Str}(X:K.In h)(G:h.Ns ZV mg)(e:FnX K x s)(hb:∀(kV doc pm:Value) (an:Option Addr) (cdv ct:Value) (us:List Value),us.length=ps.length->bindArgs (PySem.W.fnOf x x (fD s) (dA s) (bC s) .none kV doc pm an cdv ct) ⟨us,[]⟩=pure (ps.zip us)):∃f d,Fn4 K mg x s ps f d:=by
 obtain⟨f,a,oc,od,kV,dc,pm,an,cd,ct,sl,l,c,k⟩:=e;have F:=E1 (st:=s) l c k;exact⟨f,_,F,PySem.W.mg_of X G a,k,F.binds hb⟩
theorem L7{K:PySem.W.Frag}{mg:Str->Option Value}{h:Heap}{x:Str}{s:Stmt}{ps:List Str}(X:K.In h)(G:h.Ns ZV mg)(e:FnX K x s)(hb:∀(kV doc pm:Value) (an:Option Addr) (cdv ct:Value) (us:List Value),us.length=ps.length->bindArgs (PySem.W.fnOf x x (fD s) (dA s) (bC s) .none kV doc pm an cdv ct) ⟨us,[]⟩=pure (ps.zip us)):∃f d,Fn4 K mg x s ps f d/\∀(s:Shared) (us:List Value),us.length=ps.length->BindsTo s d ⟨us,[]⟩ (ps.zip us):=by
 obtain⟨f,a,oc,od,kV,dc,pm,an,cd,ct,sl,l,c,k⟩:=e;have F:=E1 (st:=s) l c k;exact⟨f,_,⟨F,PySem.W.mg_of X G a,k,F.binds hb⟩,λs us hl=>.of_eq (hb _ _ _ _ _ _ us hl)⟩
theorem cM{X:Cx}{CX:CXT}{k:Nat}{f:Addr}{fd:FuncData}{ps:List Str}{sp:Sp}{E:XK}{x:Str}{p pos:Pos}{e:Expr}{es:List Expr}{s:Stmt}{t:TA}(F:kS X.prog X.w X.K X.mg X.base CX k f fd ps sp){j:Nat}(hr:fN j X.A)(c:Fn4 X.K X.mg x s ps f fd)(hx:kR CX X E)
  (ha:PA X (e::es) t) (hj:k<=j:=by decide) (hg:Gl X x:=by rfl) (hdb:(x==("__debug__" : Str))=false:=by decide) (he:starEach (e::es) X.env=(false,eval e X.env)::starEach es X.env:=by rfl) (hpl:(backTo pos (starEach es X.env)).any (·.1)=false:=by rfl) :
  PE X (.Call (.Name x p) (e::es) [] pos) (IH sp [] E t):=GS F (hr.mono hj) hg c.m c.k c.b .nil hx ha hdb he hpl
structure Mth(T:String)(name:Str)(id:String):Prop where
 a:PlainAttrs T
 b:Slot T name id
 c:typeOf (.builtin id)=pure (.type "method_descriptor")
theorem mAp:Mth "list" "append" "list.append":=⟨YL,PySem.F.slot_list_append,PySem.F.type_list_append⟩
theorem mSp:Mth "str" "split" "str.split":=⟨PySem.F.plainAttrs_str,PySem.F.slot_str_split,PySem.F.type_str_split⟩
theorem mJn:Mth "str" "join" "str.join":=⟨PySem.F.plainAttrs_str,PySem.F.slot_str_join,PySem.F.type_str_join⟩
theorem mCo:Mth "str" "count" "str.count":=⟨PySem.F.plainAttrs_str,PySem.F.slot_str_count,PySem.F.type_str_count⟩
theorem A7{X:Cx}{o e:Expr}{es:List Expr}{to:TE}{t:TA}{name:Str}{apos cpos:Pos}{T id:String}{r:V->List V->Hp->VK->Prop}(M:Mth T name id)(hm:MtR X id r)(ho:PE X o to)(ha:PA X (e::es) t)
  (hbase:attributeBase o name X.env (eval o X.env)=eval o X.env:=by rfl)
  (hfew:((backTo cpos (starEach (e::es) X.env)).all (λx=>!x.1)&&(backToKw cpos (keywordEach [] X.env)).all (λx=>x.1.isSome)
   && decide ((e::es).length+([]:List Keyword).length+(if ([]:List Keyword).isEmpty then 0 else 1)<30))=true:=by rfl)
  (hline:(apos.endLine==cpos.line)=true:=by rfl) (hs:starEach (e::es) X.env=(false,eval e X.env)::starEach es X.env:=by rfl) (hplain:(backTo cpos (starEach es X.env)).any (·.1)=false:=by rfl) :
  PE X (.Call (.Attribute o name apos) (e::es) [] cpos) (tBM T r to t):=fS M.a M.b M.c hm ho ha hbase hfew hline hs hplain
theorem cS{X:Cx}{pos:Pos}(i:Nat){x:Str}{e:Expr}{te:TE}{pos':Pos}(hN:X.N.Nodup)(he:PE X e te)(hi:X.N[i]?=some x:=by rfl)(hx:Loc X.env.scope x:=by first | exact Or.inl rfl | exact Or.inr rfl)(hs:swapsWith e (some (.Name x pos')) pos.line X.env=pure false:=by rfl)(hf:X.fn x=true\/X.env.scope.names.lookup x=some .local:=by first | exact .inl rfl | exact .inr rfl | assumption) :
  PS X (.Assign [.Name x pos'] e pos) (AU te (cJ i)):=xG hN hi hx he hs hf
def dG(s:Stmt):List Str:=(fD s).args.map (·.arg)
def tO(s:Stmt):List Str:=((bC s).names.filter λy=>match y.2 with | .local=>true | .cell=>true | _=>false).map (·.1)
structure Adr where
 a:Nat->Addr
 d:Nat->FuncData
 c:Nat->Addr
structure Prg where
 top:Nat->Stmt
 ix:List (Nat×Str)
 zs:List (Nat×Str)
 gs:List (Nat×Str×Int)
 cs:List (Nat×Str)
 es:List (Nat×Str)
def AlL{β:Type}(p:Nat->β->Prop):List (Nat×β)->Prop
 |[]=>True
 |(i,x)::l=>p i x/\AlL p l
theorem AlL.get{β:Type}{p:Nat->β->Prop}:∀{l:List (Nat×β)},AlL p l->∀{i x},l.lookup i=some x->p i x
 |(j,y)::l,h,i,x,e=>by
  rw[List.lookup_cons]at e;split at e
  ·rename_i q
   cases e;exact Yi q▸h.1
  ·exact AlL.get h.2 e
def BA(x:Str)(s:Stmt):Prop:=∃n,(dG s).length=n/\∀(kV doc pm:Value) (an:Option Addr) (cdv ct:Value) (us:List Value),us.length=n->bindArgs (PySem.W.fnOf x x (fD s) (dA s) (bC s) .none kV doc pm an cdv ct) ⟨us,[]⟩=pure ((dG s).zip us)
structure ExG(K:PySem.W.Frag)(t:Adr)(cs:List (Nat×Str))(i:Nat):Prop where
 xi:PySem.W.excIn K (t.c i) [.type "ValueError",.type "Exception",.type "BaseException",.type "object"] "ValueError.__new__" = true
 xu:FT K (t.c i) (t.c 0)
 xv:PySem.W.subIn K (.ref (t.c i)) (.type "ValueError")=some true
 xk:qU K (t.c i)
 xn:∀j x,cs.lookup j=some x->(j==0||j==i)=true\/oD K (t.c i) (t.c j)
theorem LZ{K:PySem.W.Frag}{x:Str}{s:Stmt}{f:Addr}{oc:Value}{od:Option Addr}{kV dc pm:Value}{an:Option Addr}{cd ct:Value}{sl:Array (Option Value)}(a:PySem.W.nsIn K ZV x=some (some (.ref f)))(b:K.lookup f=some ⟨oc,od,.func (PySem.W.fnOf x x (fD s) (dA s) (bC s) .none kV dc pm an cd ct),sl⟩)(c:PySem.W.codeIn K cd x=true)(k:PySem.W.keepIn K (.ref f)=true):FnX K x s:=⟨f,a,oc,od,kV,dc,pm,an,cd,ct,sl,b,c,k⟩
abbrev EX(K:PySem.W.Frag)(cs:List (Nat×Str))(i:Nat)(x:Str):Prop:=∃c,PySem.W.nsIn K ZV x=some (some (.ref c))/\PySem.W.excIn K c [.type "ValueError",.type "Exception",.type "BaseException",.type "object"] "ValueError.__new__" = true/\(∃y b,cs.lookup 0=some y/\PySem.W.nsIn K ZV y=some (some (.ref b))/\FT K c b) /\
 PySem.W.subIn K (.ref c) (.type "ValueError")=some true/\qU K c/\AlL (λj y=>(j==0||j==i)=true\/∃b,PySem.W.nsIn K ZV y=some (some (.ref b))/\oD K c b) cs
structure gN(p:Prg)(K:PySem.W.Frag)(mg:Str->Option Value)(t:Adr):Prop where
 fs:∀i x,p.ix.lookup i=some x->Fn4 K mg x (p.top i) (dG (p.top i)) (t.a i) (t.d i)
 bt:∀i x,p.ix.lookup i=some x->∀(s:Shared) (us:List Value),us.length=(dG (p.top i)).length->BindsTo s (t.d i) ⟨us,[]⟩ ((dG (p.top i)).zip us)
 zs:∀i x,p.zs.lookup i=some x->mg x=none
 gs:∀i x,p.gs.lookup i=some x->∃q,mg x.1=some (.int x.2 q)
 cs:∀i x,p.cs.lookup i=some x->mg x=some (.ref (t.c i))
 es:∀i x,p.es.lookup i=some x->ExG K t p.cs i
 ss:∀i x,p.ix.lookup i=some x->eE (tO (p.top i)) (dG (p.top i)) (bC (p.top i))
theorem gN.f{p:Prg}{K:PySem.W.Frag}{mg:Str->Option Value}{t:Adr}(T:gN p K mg t)(i:Nat){x:Str}(h:p.ix.lookup i=some x:=by rfl):Fn4 K mg x (p.top i) (dG (p.top i)) (t.a i) (t.d i):=T.fs i x h
theorem gN.z{p:Prg}{K:PySem.W.Frag}{mg:Str->Option Value}{t:Adr}(T:gN p K mg t)(i:Nat){x:Str}(h:p.zs.lookup i=some x:=by rfl):mg x=none:=T.zs i x h
theorem gN.m{p:Prg}{K:PySem.W.Frag}{mg:Str->Option Value}{t:Adr}(T:gN p K mg t)(i:Nat){x:Str}(h:p.cs.lookup i=some x:=by rfl):mg x=some (.ref (t.c i)):=T.cs i x h
theorem gN.e{p:Prg}{K:PySem.W.Frag}{mg:Str->Option Value}{t:Adr}(T:gN p K mg t)(i:Nat){x:Str}(h:p.es.lookup i=some x:=by rfl):ExG K t p.cs i:=T.es i x h
theorem gN.n{p:Prg}{K:PySem.W.Frag}{mg:Str->Option Value}{t:Adr}(T:gN p K mg t)(i j:Nat){x y:Str}(h:p.es.lookup i=some x:=by rfl)(h':p.cs.lookup j=some y:=by rfl)(z:(j==0||j==i)=false:=by rfl):oD K (t.c i) (t.c j) :=
 ((T.es i x h).xn j y h').resolve_left λq=>by rw[z]at q;cases q
abbrev OkG(p:Prg)(P:Program)(w:World)(K:PySem.W.Frag)(mg:Str->Option Value)(base:Heap)(t:Adr)(CX:CXT)(i k:Nat)(sp:Sp):Prop:=kS P w K mg base CX k (t.a i) (t.d i) (dG (p.top i)) sp
theorem gN.mk'{p:Prg}{K:PySem.W.Frag}{mg:Str->Option Value}{h:Heap}(X:K.In h)(G:h.Ns ZV mg)
  (hf:AlL (λi x=>FnX K x (p.top i)/\BA x (p.top i)/\eE (tO (p.top i)) (dG (p.top i)) (bC (p.top i))) p.ix)
  (hz:AlL (λ_ x=>PySem.W.nsIn K ZV x=some none) p.zs)
  (hg:AlL (λ_ x=>∃q,PySem.W.nsIn K ZV x.1=some (some (.int x.2 q))) p.gs)
  (hc:AlL (λ_ x=>∃c,PySem.W.nsIn K ZV x=some (some (.ref c))) p.cs) (he:AlL (λi x=>p.cs.lookup i=some x/\EX K p.cs i x) p.es) (L:Nat) {y:Str}(hL:p.ix.lookup L=some y):∃t,gN p K mg t:=by
 have mk:∀i x,p.ix.lookup i=some x->∃f d,Fn4 K mg x (p.top i) (dG (p.top i)) f d/\∀(s:Shared) (us:List Value),us.length=(dG (p.top i)).length->BindsTo s d ⟨us,[]⟩ ((dG (p.top i)).zip us):=λi x e=>by
  obtain⟨h1,⟨n,hn,h2⟩,_⟩:=hf.get e;exact L7 X G h1 λ_ _ _ _ _ _ us hl=>h2 _ _ _ _ _ _ us (hl.trans hn)
 obtain⟨f0,d0,-⟩:=mk L y hL
 haveI:Nonempty FuncData:=⟨d0⟩
 have same:∀{x:Str}{c d:Addr},PySem.W.nsIn K ZV x=some (some (.ref c))->PySem.W.nsIn K ZV x=some (some (.ref d))->c=d:=λa b=>by have:=a.symm.trans b;cases this;rfl
 let A:Nat->Addr:=λi=>Classical.epsilon λa=>∀x,p.ix.lookup i=some x->mg x=some (.ref a)
 let D:Nat->FuncData:=λi=>Classical.epsilon λd=>∀x,p.ix.lookup i=some x->Fn4 K mg x (p.top i) (dG (p.top i)) (A i) d/\∀(s:Shared) (us:List Value),us.length=(dG (p.top i)).length->BindsTo s d ⟨us,[]⟩ ((dG (p.top i)).zip us)
 let C:Nat->Addr:=λi=>Classical.epsilon λa=>∀x,p.cs.lookup i=some x->PySem.W.nsIn K ZV x=some (some (.ref a))
 have hA:∀i x,p.ix.lookup i=some x->mg x=some (.ref (A i)):=λi x e=>by
  refine Classical.epsilon_spec (p:=λa=>∀x,p.ix.lookup i=some x->mg x=some (.ref a)) ?_ x e;obtain⟨f,d,h1,-⟩:=mk i x e;exact⟨f,λx' e'=>by rw[e]at e';cases e';exact h1.m⟩
 have hD:∀i x,p.ix.lookup i=some x->Fn4 K mg x (p.top i) (dG (p.top i)) (A i) (D i)/\∀(s:Shared) (us:List Value),us.length=(dG (p.top i)).length->BindsTo s (D i) ⟨us,[]⟩ ((dG (p.top i)).zip us):=λi x e=>by
  refine Classical.epsilon_spec (p:=λd=>∀x,p.ix.lookup i=some x->Fn4 K mg x (p.top i) (dG (p.top i)) (A i) d/\∀(s:Shared) (us:List Value),us.length=(dG (p.top i)).length->BindsTo s d ⟨us,[]⟩ ((dG (p.top i)).zip us)) ?_ x e;obtain⟨f,d,h1,h2⟩:=mk i x e;have e2:f=A i:=by have:=h1.m.symm.trans (hA i x e);cases this;rfl
  subst e2;exact⟨d,λx' e'=>by rw[e]at e';cases e';exact⟨h1,h2⟩⟩
 have hC:∀i x,p.cs.lookup i=some x->PySem.W.nsIn K ZV x=some (some (.ref (C i))):=λi x e=>by
  refine Classical.epsilon_spec (p:=λa=>∀x,p.cs.lookup i=some x->PySem.W.nsIn K ZV x=some (some (.ref a))) ?_ x e;obtain⟨c,h1⟩:=hc.get e;exact⟨c,λx' e'=>by rw[e]at e';cases e';exact h1⟩
 refine⟨⟨A,D,C⟩,⟨λi x e=>(hD i x e).1,λi x e=>(hD i x e).2,λi x e=>PySem.W.mg_none_of X G (hz.get e),λi x e=>(hg.get e).imp λq h=>PySem.W.mg_of X G h,λi x e=>PySem.W.mg_of X G (hC i x e),λi x e=>?_,λi x e=>(hf.get e).2.2⟩⟩;obtain⟨e',c,h1,h2,⟨y0,b,h3,h4,h5⟩,h6,h7,h8⟩:=he.get e;have ec:=same h1 (hC i x e');have eb:=same h4 (hC 0 y0 h3);subst ec eb;exact⟨h2,h5,h6,h7,λj z e=>(h8.get e).imp id λ⟨b,q1,q2⟩=>by
  have e3:=same q1 (hC j z e);subst e3;exact q2⟩
def noL(K:PySem.W.Frag):Bool:=K.all λp=>match p.2.cls with | .type n=>n != "list" | _=>true
theorem LH{K:PySem.W.Frag}(h:noL K=true){a:Addr}{o:Obj}(e:K.lookup a=some o):o.cls≠.type "list":=λc=>by
 unfold noL at h;have hm:(a,o)∈K:=by
  clear h;induction K with
  |nil=>cases e
  |cons p l ih =>
   rw[List.lookup_cons]at e;split at e
   ·rename_i q;cases e;rw[Yi q];exact Zd
   ·exact Zw _ (ih e)
 have:=List.all_eq_true.mp h _ hm;dsimp only at this;rw[c]at this;simp at this
theorem MO(p:Prg)(L:Nat){k:Nat}{sp:Sp}{l:PySem.W.OpenLaw}{q:Program}{loose:List Str}{XP:(Str->Option Value)->Heap->Prop}{YP:World->Heap->Prop}{d:DefRec}{K:Params->PySem.W.Frag}(hn:l.most=some 63)(hdf:d.params.defaults=[])
  (hr:fN k callerA) (hL:p.ix.lookup L=some d.name) (hps:dG (p.top L)=[("_law_script" : Str)])
  (hY:∀(w:World) (h:Heap),YP w h->(K w.params).In h)
  (hsp:∀(a:Addr) (ns:List Int) (H:Hp),ns.length<=63->IA H->SqL H a (ns.map V.int)->sp [.ref a] H (λv _=>v=.bl true) λ_ _ _=>False)
  (ok:∀{w:World}{K:PySem.W.Frag}{mg:Str->Option Value}{base:Heap}{t:Adr},gN p K mg t->kS l.prog w K mg base CX0 k (t.a L) (t.d L) (dG (p.top L)) sp)
  (hk:∀w:World,noL (K w.params)=true)
  (hf:∀w:World,AlL (λi x=>FnX (K w.params) x (p.top i)/\BA x (p.top i)/\eE (tO (p.top i)) (dG (p.top i)) (bC (p.top i))) p.ix)
  (hz:∀w:World,AlL (λ_ x=>PySem.W.nsIn (K w.params) ZV x=some none) p.zs)
  (hg:∀w:World,AlL (λ_ x=>∃q,PySem.W.nsIn (K w.params) ZV x.1=some (some (.int x.2 q))) p.gs)
  (hc:∀w:World,AlL (λ_ x=>∃c,PySem.W.nsIn (K w.params) ZV x=some (some (.ref c))) p.cs) (he:∀w:World,AlL (λi x=>p.cs.lookup i=some x/\EX (K w.params) p.cs i x) p.es) :
  PySem.W.WalkO q loose XP YP l.row.toRowW d [] (λf vs=>PySem.call f vs) :=
 FU (n:=63) (k:=k) (x:="_law_script") (CX:=λ_=>CX0) (sp:=λ_=>sp) hn (by decide) hdf hr hY (λw mg fa h KX G hm=>by
  obtain⟨t,T⟩:=gN.mk' KX G (hf w) (hz w) (hg w) (hc w) (he w) L hL;have e:=hm.symm.trans (T.f L hL).m;cases e;refine⟨t.d L,λs u=>?_,λbase _ _=>hps▸ok T⟩;have:=T.bt L _ hL s [u] (by rw[hps];rfl);rw[hps]at this;exact this) (λw a o e=>LH (hk w) e) (λw H a ns hl hO hS=>hsp a ns H hl hO hS) λ_ _ _ _ _ z=>z
theorem gN.g{p:Prg}{K:PySem.W.Frag}{mg:Str->Option Value}{t:Adr}(T:gN p K mg t)(i:Nat){x:Str}{v:Int}(h:p.gs.lookup i=some (x,v):=by rfl):∃q,mg x=some (.int v q):=T.gs i _ h
theorem j7{X:Cx}{x:Str}{v:Int}{pos:Pos}(hm:∃q,X.mg x=some (.int v q))(hg:Gl X x:=by rfl)(hd:(x==("__debug__" : Str))=false:=by decide):PE X (.Name x pos) (tC (.int v)):=by
 obtain⟨q,h⟩:=hm;exact bL (v:=.int v) hg h ⟨_,rfl⟩ hd
theorem EE{l:List Str}(h:decide l.Nodup=true):l.Nodup:=Yf h
theorem O8{X:Cx}{pos:Pos}(i:Nat){x:Str}(hi:X.N[i]?=some x:=by rfl)(hx:Loc X.env.scope x:=by first | exact Or.inl rfl | exact Or.inr rfl)(hf:X.fn x=true\/X.env.scope.names.lookup x=some .local:=by first | exact .inl rfl | exact .inr rfl | assumption)(hN:X.N.Nodup:=by first | assumption | exact EE rfl):PG X (.Name x pos) (cJ i):=bZ hN hi hx hf
theorem O7{X:Cx}{pos:Pos}(i:Nat){x:Str}{e:Expr}{te:TE}{pos':Pos}(he:PE X e te)(hi:X.N[i]?=some x:=by rfl)(hx:Loc X.env.scope x:=by first | exact Or.inl rfl | exact Or.inr rfl)(hs:swapsWith e (some (.Name x pos')) pos.line X.env=pure false:=by rfl)(hf:X.fn x=true\/X.env.scope.names.lookup x=some .local:=by first | exact .inl rfl | exact .inr rfl | assumption)(hN:X.N.Nodup:=by first | assumption | exact EE rfl) :
  PS X (.Assign [.Name x pos'] e pos) (AU te (cJ i)):=xG hN hi hx he hs hf
theorem gN.ok{p:Prg}{P:Program}{w:World}{K:PySem.W.Frag}{mg:Str->Option Value}{base:Heap}{t:Adr}(T:gN p K mg t)(i:Nat){x:Str}{k:Nat}{sp:Sp}(len:∀vs H Q E,sp vs H Q E->vs.length=(dG (p.top i)).length)
  (hbody:∀(cdv:Value) (A:Around) (outer:List Env) (s:Shared) (H:Hp) (vs:List V) (Q:VK) (E:XK),fN k (A.deeper (envOfC x (bC (p.top i)) s.heap.objs.size (t.a i) cdv))->sp vs H Q E->(tO (p.top i)).Nodup ->
   let X:=(nZ CX0 P w K mg base (tO (p.top i)) x (bC (p.top i)) (t.a i) cdv A outer s H E).nox
   ∃t,PSs X (dA (p.top i)) t/\t { nx:=λ_ H'=>Q .non H',rt:=Q } (start (tO (p.top i)) vs) H) (h:p.ix.lookup i=some x:=by rfl):kS P w K mg base CX0 (k+1) (t.a i) (t.d i) (dG (p.top i)) sp :=
 (T.fs i x h).F.ok (T.ss i x h) len λcdv A outer s H vs Q E hr q=>hbody cdv A outer s H vs Q E hr q (T.ss i x h).nd
theorem gN.okN{p:Prg}{P:Program}{w:World}{K:PySem.W.Frag}{mg:Str->Option Value}{base:Heap}{t:Adr}(T:gN p K mg t)(i:Nat){N:List Str}(S:eE N (dG (p.top i)) (bC (p.top i))){x:Str}{k:Nat}{sp:Sp}(len:∀vs H Q E,sp vs H Q E->vs.length=(dG (p.top i)).length)
  (hbody:∀(cdv:Value) (A:Around) (outer:List Env) (s:Shared) (H:Hp) (vs:List V) (Q:VK) (E:XK),fN k (A.deeper (envOfC x (bC (p.top i)) s.heap.objs.size (t.a i) cdv))->sp vs H Q E->N.Nodup ->
   let X:=(nZ CX0 P w K mg base N x (bC (p.top i)) (t.a i) cdv A outer s H E).nox
   ∃t,PSs X (dA (p.top i)) t/\t { nx:=λ_ H'=>Q .non H',rt:=Q } (start N vs) H) (h:p.ix.lookup i=some x:=by rfl):kS P w K mg base CX0 (k+1) (t.a i) (t.d i) (dG (p.top i)) sp :=
 (T.fs i x h).F.ok S len λcdv A outer s H vs Q E hr q=>hbody cdv A outer s H vs Q E hr q S.nd
theorem eK{X:Cx}(N':List Str)(js:List (Option Nat)){scope:Scope}{target iter elt:Expr}{ifs:List Expr}{pos:Pos}{wi:TI}{g:TG}{tc:TT}{te:TE}(hi:PI X target iter wi)
  (hg:∀cl C fp s H,PG (X.comp N' scope cl C fp s H) target g) (hf:∀cl C fp s H,PF (X.comp N' scope cl C fp s H) ifs tc) (he:∀cl C fp s H,PE (X.comp N' scope cl C fp s H) elt te) (hc:X.calm=true:=by rfl)
  (hk:scope.kind=.function:=by rfl) (hcell:(scope.names.all λy=>y.2 != .cell)=true:=by rfl) (hfree:(scope.names.all λy=>y.2 != .free||(X.env.kindOf y.1==some .cell||X.env.kindOf y.1==some .free))=true:=by rfl)
  (hnames:(scope.names.all λy=>y.2 != .local||scope.names.lookup y.1==some .local)=true:=by rfl) (hjs:tU X.N scope N' js=true:=by rfl) (hs:∀x,foldedSetIterable iter X.env x=pure x:=by intro _;rfl) :
  PE X (.ListComp elt [⟨target,iter,ifs,0⟩] scope pos) (yS js wi g tc te):=lK hc hi hg hf he hk hcell hfree hnames hjs hs
theorem nO{X:Cx}(i:Nat)(N':List Str)(js:List (Option Nat)){scope:Scope}{target iter elt:Expr}{ifs:List Expr}{pos pos' spos:Pos}{x:Str}{wi:TI}{g:TG}{tc:TT}{te:TE}(hi:PI X target iter wi)
  (hg:∀cl C fp s H,PG (X.comp N' scope cl C fp s H) target g) (hf:∀cl C fp s H,PF (X.comp N' scope cl C fp s H) ifs tc) (he:∀cl C fp s H,PE (X.comp N' scope cl C fp s H) elt te)
  (hi':X.N[i]?=some x:=by rfl) (hx:Loc X.env.scope x:=by first | exact Or.inl rfl | exact Or.inr rfl) (hc:X.calm=true:=by rfl)
  (hsw:swapsWith (.ListComp elt [⟨target,iter,ifs,0⟩] scope pos) (some (.Name x pos')) spos.line X.env=pure true:=by rfl)
  (hk:scope.kind=.function:=by rfl) (hcell:(scope.names.all λy=>y.2 != .cell)=true:=by rfl) (hfree:(scope.names.all λy=>y.2 != .free||(X.env.kindOf y.1==some .cell||X.env.kindOf y.1==some .free))=true:=by rfl)
  (hnames:(scope.names.all λy=>y.2 != .local||scope.names.lookup y.1==some .local)=true:=by rfl) (hjs:tU X.N scope N' js=true:=by rfl) (hs:∀x,foldedSetIterable iter X.env x=pure x:=by intro _;rfl)
  (hfn:X.fn x=true\/X.env.scope.names.lookup x=some .local:=by first | exact .inl rfl | exact .inr rfl | assumption) (hN:X.N.Nodup:=by first | assumption | exact EE rfl) :
  PS X (.Assign [.Name x pos'] (.ListComp elt [⟨target,iter,ifs,0⟩] scope pos) spos) (AU (yS js wi g tc te) (cJ i)):=kG hN hi' hx hc hi hg hf he hsw hk hcell hfree hnames hjs hs hfn
theorem FI(env:Env):∀es:List Expr,(assignEach es env).length=es.length
 |[]=>rfl
 |e::es=>by cases e<;>exact congrArg (·+1) (FI env es)
theorem uW{X:Cx}{pos:Pos}{es:List Expr}{k:Nat}{t:TGs}(h:PGs X es t)(hc:X.calm=true:=by rfl)(hst:(assignEach es X.env).findIdx? (·.1)=none:=by rfl):PG X (.Tuple es k pos) (LY es.length t):=DN hc h (FI _ _) hst
theorem gN.okX{p:Prg}{P:Program}{w:World}{K:PySem.W.Frag}{mg:Str->Option Value}{base:Heap}{t:Adr}(T:gN p K mg t)(i:Nat){C:Addr}{x:Str}{k:Nat}{sp:Sp}(len:∀vs H Q E,sp vs H Q E->vs.length=(dG (p.top i)).length)
  (hbody:∀(cdv:Value) (A:Around) (outer:List Env) (s:Shared) (H:Hp) (vs:List V) (Q:VK) (E:XK),fN k (A.deeper (envOfC x (bC (p.top i)) s.heap.objs.size (t.a i) cdv))->sp vs H Q E->(tO (p.top i)).Nodup ->
   let X:=nZ (CXr P w C) P w K mg base (tO (p.top i)) x (bC (p.top i)) (t.a i) cdv A outer s H E
   ∃t,PSs X (dA (p.top i)) t/\t { nx:=λ_ H'=>Q .non H',rt:=Q } (start (tO (p.top i)) vs) H) (h:p.ix.lookup i=some x:=by rfl):kS P w K mg base (CXr P w C) (k+1) (t.a i) (t.d i) (dG (p.top i)) sp:=by
 obtain⟨oc,od,kV,doc,pm,an,cdv,ct,osl,hfd,lk,hcd⟩:=(T.fs i x h).F.ex;rw[hfd]at lk ⊢;exact I0 lk hcd (T.ss i x h) len λA outer s H vs Q E hr q=>hbody cdv A outer s H vs Q E hr q (T.ss i x h).nd
end L2
namespace K38
open PySem L2
abbrev nm(i:Nat)(x:Str):Nat×Str:=(i,x)
abbrev prg:Prg:=⟨λi=>PySem.Challenge.pw_fewbends_k38_laying_out_refused.main.body.getD i (.Pass ⟨0,0,0,0⟩),[nm 14 "opposite",nm 19 "check_map",nm 20 "ties_name_places",nm 21 "orders_fit",nm 22 "ends_at_places",nm 23 "hangs_together",nm 24 "other_end",nm 25 "place_of",nm 26 "goes_to",nm 27 "behind",nm 28 "lands",nm 29 "land_from",nm 30 "is_flat",nm 31 "check_flat",nm 32 "check_outer",nm 34 "is_shape",nm 35 "places_close",nm 36 "lands_close",nm 37 "wanted_sum",nm 38 "land_sum",nm 40 "laid_out",nm 41 "end_headings",nm 42 "piece_headings",nm 44 "_law_cell_at",nm 45 "_law_mix",nm 46 "_law_turned",nm 47 "_law_other",nm 48 "_law_place",nm 49 "_law_behind",nm 50 "_law_lands",nm 51 "_law_sum",nm 52 "_law_near",nm 53 "_law_ways",nm 54 "_law_spots",nm 55 "_law_line",nm 56 "_law_turns_of",nm 57 "_law_heads_on",nm 58 "_law_heads",nm 59 "_law_picture",nm 60 "_law_read",nm 61 "_law_outer",nm 62 "_law_walked",nm 63 "_law_shaped",nm 64 "_law_bent",nm 65 "_law_is_map",nm 66 "_law_is_shape",nm 67 "_law_due",nm 68 "_law_refused",nm 69 "law"],[(0,"all"),(1,"enumerate"),(2,"int"),(3,"isinstance"),(4,"len"),(5,"list"),(6,"max"),(7,"min"),(8,"range"),(9,"sorted"),(10,"sum"),(11,"zip"),(12,"ValueError")],[(0,"QUARTERS_ROUND",4),(1,"MOST_PLACES",200),(2,"MOST_TIES",400),(3,"MOST_ENDS_AT_A_PLACE",4)],[(0,"BendError"),(1,"NoMap"),(2,"NotFlat"),(3,"NoLand"),(4,"NoNet"),(5,"NoShape"),(6,"NoLaid"),(7,"NoText"),(8,"NoPicture"),(9,"NoRow"),(10,"NoThing")],[(1,"NoMap"),(2,"NotFlat"),(3,"NoLand"),(5,"NoShape")]⟩
abbrev Txt:=gN prg
abbrev Ok(P:Program)(w:World)(base:Heap){K:PySem.W.Frag}{mg:Str->Option Value}{t:Adr}(_:Txt K mg t)(i k:Nat)(sp:Sp):Prop:=OkG prg P w K mg base t CX0 i k sp
abbrev OkX(P:Program)(w:World)(base:Heap){K:PySem.W.Frag}{mg:Str->Option Value}{t:Adr}(_:Txt K mg t)(C:Addr)(i k:Nat)(sp:Sp):Prop:=OkG prg P w K mg base t (CXr P w C) i k sp
end K38
open PySem L2 PyProof.Rows
set_option compiler.extract_closed false
set_option hygiene false in
local macro_rules
 |`(tactic| left)=>`(tactic| ((first | refine T.ok _ (λvs H Q E h=>?_) ?_ | refine T.okX _ (λvs H Q E h=>?_) ?_);(focus repeat first | (obtain⟨rfl,_⟩:=h;rfl) | obtain⟨_,h⟩:=h);intro cdv A outer s H vs Q E hr h nd X))
set_option hygiene false in
local macro_rules
 |`(tactic| and_intros)=>`(tactic| repeat (first | (change (_:Type);rotate_left) | (guard_target=PE _ _ _;first | (guard_target=PE _ (.Constant _ _ _) _;first | exact aQ | exact DS | exact KO | exact DP) | (guard_target=PE _ (.BinOp _ .Sub _ _) _;refine' bQ tM ?_ ?_) | (guard_target=PE _ (.BinOp _ .Mult _ _) _;refine' bQ tN ?_ ?_) | (guard_target=PE _ (.BinOp _ .Mod _ _) _;refine' bQ hV ?_ ?_) | (guard_target=PE _ (.Tuple _ _ _) _;refine' dH ?_) | (guard_target=PE _ (.List _ _) _;refine' fO ?_) | (guard_target=PE _ (.UnaryOp .USub _ _) _;refine' y9 sV ?_) | (guard_target=PE _ (.Call (.Name "len" _) [_] [] _) _;refine' aP b9 rfl (T.z 4) PySem.boot_len ?_) | (guard_target=PE _ (.Call (.Attribute _ "append" _) [_] [] _) _;refine' A7 mAp eU ?_ ?_) | (guard_target=PE _ (.Compare _ [.Lt] _ _) _;refine' zA r6 ?_ ?_ ?_)) | (guard_target=PA _ _ _;first | (guard_target=PA _ [] _;exact aK) | refine' aE ?_ ?_) | (guard_target=PSs _ _ _;first | (guard_target=PSs _ (_::_::_) _;refine' aM ?_ ?_) | (guard_target=PSs _ [_] _;refine' bX ?_) | (guard_target=PSs _ [] _;exact iK) | (guard_target=PSs _ (dA _) _;first | refine' bX ?_ | refine' aM ?_ ?_)) | (guard_target=PS _ _ _;first | (guard_target=PS _ (.Return (some _) _) _;refine' xH ?_) | (guard_target=PS _ (.Expr _ _) _;refine' bK ?_) | (guard_target=PS _ (.If _ _ _ _) _;refine' pL ?_ ?_ ?_) | (guard_target=PS _ (.While _ _ _ _) _;refine' DB PassesOwn.never ?_ ?_) | (guard_target=PS _ (.For _ _ _ _ _) _;refine' mU PassesOwn.never rfl ?_ ?_ ?_) | (guard_target=PS _ (.Return none _) _;exact ps_retN) | (guard_target=PS _ (.Break _) _;exact DC) | (guard_target=PS _ (.Continue _) _;exact ps_continue) | (guard_target=PS _ (.Pass _) _;exact ps_pass)) | (guard_target=PT _ _ _;first | (guard_target=PT _ (.BoolOp .And _ _) _;refine' PW.pt (tG ?_ ?_)) | (guard_target=PT _ (.BoolOp .Or _ _) _;refine' PW.pt (IQ ?_ ?_)) | (guard_target=PT _ (.UnaryOp .Not _ _) _;refine' pI ?_) | (guard_target=PT _ (.Compare _ [.Lt] _ _) _;refine' gU r6 ?_ ?_ ?_) | (guard_target=PT _ (.Compare _ [.LtE] _ _) _;refine' gU lM ?_ ?_ ?_) | (guard_target=PT _ (.Compare _ [.GtE] _ _) _;refine' gU NQ ?_ ?_ ?_) | (guard_target=PT _ (.Compare _ [.Gt] _ _) _;refine' gU IU ?_ ?_ ?_)) | (guard_target=PW _ _ _;first | (guard_target=PW _ (.BoolOp .And (_::_::_) _) _;refine' tG ?_ ?_) | (guard_target=PW _ (.BoolOp .Or (_::_::_) _) _;refine' IQ ?_ ?_) | (guard_target=PW _ (.BoolOp .And _ _) _;refine' tF ?_) | (guard_target=PW _ (.BoolOp .Or _ _) _;refine' KF ?_)) | (guard_target=PI _ _ _ _;first | (guard_target=PI _ _ (.Call (.Name "range" _) [_] [] _) _;refine' h9 rfl (T.z 8) ?_) | (guard_target=PI _ _ (.Call (.Name "range" _) [_,_] [] _) _;refine' A3 rfl (T.z 8) ?_)) | (guard_target=PG _ (.Tuple _ _ _) _;refine' uW ?_) | (guard_target=PGs _ (_::_) _;refine' dP ?_ ?_) | (guard_target=PGs _ [] _;exact lF) | (guard_target=behindInMarks _ _=false;first | exact tP _ | rfl) | (guard_target=PF _ [] _;exact mW) | (guard_target=AC _;exact λ_ _=>rfl)))
set_option hygiene false in
local macro_rules
 |`(tactic| exists $t:term)=>`(tactic| (and_intros;(first | (guard_target=PE _ (.Call (.Name _ _) _ [] _) _;refine' cM ($t T) hr (T.f _) bW ?_) | (guard_target=PE _ (.Subscript _ _ _) _;first | refine' cU $t ?_ ?_ ?_ | refine' cU ($t (K:=K) rfl) ?_ ?_ ?_) | (guard_target=PE _ (.BinOp _ _ _ _) _;refine' bQ $t ?_ ?_) | (guard_target=PE _ (.Compare _ _ _ _) _;refine' zA $t ?_ ?_ ?_) | (guard_target=PT _ (.Compare _ _ _ _) _;refine' gU $t ?_ ?_ ?_) | (guard_target=PE _ (.ListComp _ _ _ _) _;refine' $t ?_ (λ_ _ _ _ _=>?_) (λ_ _ _ _ _=>?_) (λ_ _ _ _ _=>?_)) | (guard_target=PS _ (.Assign _ (.ListComp _ _ _ _) _) _;refine' $t ?_ (λ_ _ _ _ _=>?_) (λ_ _ _ _ _=>?_) (λ_ _ _ _ _=>?_)) | refine' $t);and_intros))
 |`(tactic| exists $t:term,$ts:term,*)=>`(tactic| (exists $t;exists $ts,*))
local macro_rules
 |`(tactic| exists $n:num)=>`(tactic| (and_intros;(first | (guard_target=PE _ (.Name _ _) _;exact pv $n) | (guard_target=PG _ (.Name _ _) _;exact O8 $n) | (guard_target=PS _ (.Assign [.Name _ _] _ _) _;refine' O7 $n ?_));and_intros))
abbrev K38.lawK:Nat:=60
namespace L2
open PySem PyProof.Rows
def TsI(H:Hp)(a:Addr)(ts:AW.Ts):Prop:=∃tr:List Addr,H a=some (.lst (tr.map V.ref))/\tr.length=ts.length/\∀(i:Nat) t,ts[i]?=some t->∃r,tr[i]?=some r/\H r=some (.tup [.int t.1,.int t.2])
def OsI(H:Hp)(a:Addr)(os:AW.Os):Prop:=∃tr:List Addr,H a=some (.lst (tr.map V.ref))/\tr.length=os.length/\∀(i:Nat) l,os[i]?=some l->∃r,tr[i]?=some r/\H r=some (.lst (l.map V.int))
def iG(H:Hp)(w:Addr)(m:Int)(ts:AW.Ts)(os:AW.Os):Prop:=∃tA oA:Addr,H w=some (.tup [.int m,.ref tA,.ref oA])/\TsI H tA ts/\OsI H oA os
theorem TsI.same{H H':Hp}{a:Addr}{ts:AW.Ts}(h:TsI H a ts)(g:aJ H H'):TsI H' a ts:=by
 obtain⟨tr,h1,h2,h3⟩:=h;exact⟨tr,g _ _ h1,h2,λi t e=>let⟨r,q1,q2⟩:=h3 i t e;⟨r,q1,g _ _ q2⟩⟩
theorem OsI.same{H H':Hp}{a:Addr}{os:AW.Os}(h:OsI H a os)(g:aJ H H'):OsI H' a os:=by
 obtain⟨tr,h1,h2,h3⟩:=h;exact⟨tr,g _ _ h1,h2,λi t e=>let⟨r,q1,q2⟩:=h3 i t e;⟨r,q1,g _ _ q2⟩⟩
theorem iG.same{H H':Hp}{w:Addr}{m:Int}{ts:AW.Ts}{os:AW.Os}(h:iG H w m ts os)(g:aJ H H'):iG H' w m ts os:=by
 obtain⟨tA,oA,h1,h2,h3⟩:=h;exact⟨tA,oA,g _ _ h1,h2.same g,h3.same g⟩
theorem TsI.nth{H:Hp}{a:Addr}{ts:AW.Ts}{tr:List Addr}(h1:tr.length=ts.length)(h2:∀(i:Nat) t,ts[i]?=some t->∃r,tr[i]?=some r/\H r=some (.tup [.int t.1,.int t.2])){i:Nat}{x:V}(hx:(tr.map V.ref)[i]?=some x) :
  ∃t r,ts[i]?=some t/\x=.ref r/\H r=some (.tup [.int t.1,.int t.2]):=by
 rw[Zk]at hx;cases e:ts[i]? with
 |none =>
  have:tr[i]?=none:=Zr (by rw[h1];exact List.getElem?_eq_none_iff.mp e);rw[this]at hx;cases hx
 |some t =>
  obtain⟨r,q1,q2⟩:=h2 i t e;rw[q1]at hx;cases hx;exact⟨t,r,rfl,rfl,q2⟩
theorem OsI.nth{H:Hp}{os:AW.Os}{tr:List Addr}(h1:tr.length=os.length)(h2:∀(i:Nat) l,os[i]?=some l->∃r,tr[i]?=some r/\H r=some (.lst (l.map V.int))){i:Nat}{x:V}(hx:(tr.map V.ref)[i]?=some x) :
  ∃l r,os[i]?=some l/\x=.ref r/\H r=some (.lst (l.map V.int)):=by
 rw[Zk]at hx;cases e:os[i]? with
 |none =>
  have:tr[i]?=none:=Zr (by rw[h1];exact List.getElem?_eq_none_iff.mp e);rw[this]at hx;cases hx
 |some t =>
  obtain⟨r,q1,q2⟩:=h2 i t e;rw[q1]at hx;cases hx;exact⟨t,r,rfl,rfl,q2⟩
structure dO(H H':Hp)(r:Addr)(rr:List Addr)(ls:List (List V)):Prop where
 at_:H' r=some (.lst (rr.map V.ref))
 len:rr.length=ls.length
 row:∀(i:Nat) l,ls[i]?=some l->∃x,rr[i]?=some x/\H' x=some (.lst l)
 nd:rr.Nodup
 nin:r∉rr
 new:H r=none
 news:∀x∈rr,H x=none
theorem dO.keep{H H' H2:Hp}{r:Addr}{rr:List Addr}{ls:List (List V)}(n:dO H H' r rr ls)(g:aJ H' H2):dO H H2 r rr ls :=
 ⟨g _ _ n.at_,n.len,λi l h=>let⟨x,h1,h2⟩:=n.row i l h;⟨x,h1,g _ _ h2⟩,n.nd,n.nin,n.new,n.news⟩
theorem aJ.fresh{H H':Hp}(g:aJ H H'){x:Addr}(hx:H x=none)(o:HO):aJ H (upd H' x o):=λb u h=>by rw[aF (aI h hx)];exact g _ _ h
theorem dO.set{H0 H:Hp}{o x:Addr}{rr:List Addr}{ls:List (List V)}(n:dO H0 H o rr ls){p:Nat}{l:List V}(hx:rr[p]?=some x):dO H0 (upd H x (.lst l)) o rr (ls.set p l) where
 at_:=by rw[aF (show o≠x from λz=>n.nin (z▸Zg hx))];exact n.at_
 len:=by rw[ZP];exact n.len
 row:=λi m h=>by
  by_cases e:p=i
  ·subst e;have hp:p<ls.length:=n.len▸(Zj.mp hx).1;rw[ZK hp]at h;cases h;exact⟨x,hx,aA⟩
  ·rw[ZJ e]at h;obtain⟨y,h1,h2⟩:=n.row i m h;refine⟨y,h1,?_⟩;have ne:y≠x:=by
    rintro rfl;obtain⟨a1,b1⟩:=Zj.mp h1;obtain⟨a2,b2⟩:=Zj.mp hx;exact e ((List.getElem_inj n.nd).mp (b2.trans b1.symm))
   rw[aF ne];exact h2
 nd:=n.nd
 nin:=n.nin
 new:=n.new
 news:=n.news
theorem dO.os{H H':Hp}{r:Addr}{rr:List Addr}{os:AW.Os}(n:dO H H' r rr (os.map λl=>l.map V.int)):OsI H' r os :=
 ⟨rr,n.at_,by rw[n.len,Zq],λi l h=>n.row i _ (by rw[Zk,h];rfl)⟩
theorem jX{J:It}{js:List (Option Nat)}{σ:St}{H1:Hp}{R:Hp->Prop}{D:Addr}{g:TG}{te:TE}(n:Nat)(fs:Nat->List V)(hD:H1 D=none)(hn:n<=100000)
  (go:∀i H',i<n->aJ H1 H'->J.go i H') (stop:∀H',aJ H1 H'->J.stop n H')
  (hs:∀i H' x H'' (k:V->Hp->Prop),i<n->aJ H1 H'->J.yld i H' x H''->(∀a H4,H' a=none->aJ H' H4->H4 a=some (.lst (fs i))->k (.ref a) H4)->g x (inner js σ) H'' λσ2 H2=>Fills (inner js σ) σ2/\te σ2 H2 k)
  (hd:∀(rr:List Addr) H',dO H1 H' D rr ((ZR n).map fs)->aJ H1 H'->R H') :
  ∃W:Nat->Nat->List V->Hp->Prop,(∃m,W 0 m [] (upd H1 D (.lst []))) /\
   ∀i m ys H,W i m ys H->(J.stop i H/\R H)\/(J.go i H/\∃N:List V->Hp->Prop,(∀ys' H',N ys' H'->∃m',m' < m/\W (i+1) m' ys' H')/\∀x H',J.yld i H x H'->g x (inner js σ) H' λσ2 H2=>Fills (inner js σ) σ2/\nN σ2 H2 λb H3 =>
    If b (te σ2 H3 λy H4=>H4 D=some (.lst ys)/\ys.length<ZW/\N (ys++[y]) (upd H4 D (.lst (ys++[y])))) (N ys H3)):=by
 refine comp_map n (λi ys H'=>∃rr:List Addr,ys=rr.map V.ref/\dO H1 H' D rr ((ZR i).map fs)/\aJ H1 H') ⟨[],rfl,⟨aA,rfl,λi l h=>by simp at h,List.nodup_nil,by simp,hD,by simp⟩,aC hD _⟩ ?_ ?_
 ·rintro i ys H' hi ⟨rr,rfl,w,g1⟩;have hl:rr.length=i:=by rw[w.len];simp
  refine⟨go i H' hi g1,λx H'' hy=>hs i H' x H'' _ hi g1 hy λa H4 ha g4 e4=>⟨g4 _ _ w.at_,?_,rr++[a],?_,?_,?_⟩⟩
  ·rw[Zq,hl];exact Xk hi (Xz hn (by decide))
  ·rw[Zt];rfl
  ·have aD:a≠D:=λz=>by rw[z,w.at_]at ha;cases ha
   have ain:a∉rr:=λz=>by
    obtain⟨j,hj,e⟩:=Yd.mp z;have hj':j<((ZR i).map fs).length:=w.len▸hj;obtain⟨y,h1,h2⟩:=w.row j _ (Zz hj');rw[Zz hj,e]at h1;cases h1;rw[ha]at h2;cases h2
   refine⟨by rw[Zt];exact aA,by simp[hl],λj l h=>?_,?_,?_,hD,?_⟩
   ·by_cases hj:j<i
    ·have e:((ZR (i+1)).map fs)[j]?=((ZR i).map fs)[j]?:=by simp[hj,Xv hj]
     rw[e]at h;obtain⟨y,h1,h2⟩:=w.row j l h;have yD:y≠D:=λz=>w.nin (z▸Zg h1);exact⟨y,by rw[Zx (by lia)];exact h1,by rw[aF yD];exact g4 _ _ h2⟩
    ·have hj2:j=i:=by
      have:=(Zj.mp h).1;simp at this;lia
     subst hj2;have e:l=fs j:=by simpa using h.symm
     subst e;exact⟨a,by rw[<-hl,Yy],by rw[aF aD];exact e4⟩
   ·rw[List.nodup_append];refine⟨w.nd,by simp,λb hb c hc z=>?_⟩;have e:c=a:=by simpa using hc
    subst e;subst z;exact ain hb
   ·intro z;rcases Zf.mp z with z | z
    ·exact w.nin z
    ·exact aD (Zb.mp z).symm
   ·intro y hy;rcases Zf.mp hy with z | z
    ·exact w.news y z
    ·rw[Zb.mp z];exact g1.free ha
  ·exact(g1.trans g4).fresh hD _
 ·rintro ys H' ⟨rr,rfl,w,g1⟩;exact⟨stop H' g1,hd rr H' w g1⟩
theorem dO.item{H0 H:Hp}{o:Addr}{rr:List Addr}{n:Nat}{f:Nat->List V}(w:dO H0 H o rr ((ZR n).map f)){p:Nat}(hp:p<n) :
  ∃x,rr[p]?=some x/\H x=some (.lst (f p))/\H0 x=none/\atI (rr.map V.ref) (p:Int)=some (.ref x):=by
 obtain⟨x,h1,h2⟩:=w.row p (f p) (by simp[hp]);exact⟨x,h1,h2,w.news x (Zg h1),bB (by rw[Zk,h1];rfl)⟩
theorem set_range{n p:Nat}{f:Nat->List V}{v:List V}:((ZR n).map f).set p v=(ZR n).map λi=>if i=p then v else f i:=by
 refine YQ λi=>?_;rw[List.getElem?_set];by_cases e:p=i
 ·subst e;by_cases h:p<n<;>simp[h]
 ·rw[Ya e];by_cases h:i<n
  ·simp[h,Yh e]
  ·simp[h]
theorem dO.put{H0 H:Hp}{o x:Addr}{rr:List Addr}{n p:Nat}{f:Nat->List V}(w:dO H0 H o rr ((ZR n).map f))(hx:rr[p]?=some x)(l:List V) :
  dO H0 (upd H x (.lst l)) o rr ((ZR n).map λi=>if i=p then l else f i):=by
 rw[<-set_range];exact w.set hx
theorem dO.other{H0 H:Hp}{o x:Addr}{rr:List Addr}{ls:List (List V)}(n:dO H0 H o rr ls)(h1:x≠o)(h2:x∉rr)(u:HO):dO H0 (upd H x u) o rr ls :=
 ⟨by rw[aF (Yh h1)];exact n.at_,n.len,λi l h=>by
  obtain⟨y,a,b⟩:=n.row i l h;have ne:y≠x:=λz=>h2 (by rw[<-z];exact Zg a);exact⟨y,a,by rw[aF ne];exact b⟩,n.nd,n.nin,n.new,n.news⟩
theorem dO.notIn{H0 H:Hp}{o x:Addr}{rr:List Addr}{ls:List (List V)}(n:dO H0 H o rr ls)(hx:H x=none):x∉rr:=λz=>by
 obtain⟨i,hi,e⟩:=Yd.mp z;obtain⟨y,a,b⟩:=n.row i _ (Zz (n.len▸hi));rw[Zz hi,e]at a;cases a;rw[hx]at b;cases b
theorem nV{tt r:TS}{D:Ends}{σ:St}{H:Hp}(I:St->Hp->Prop)(ht:∀N:St->Hp->Prop,(∀σ' H',I σ' H'->N σ' H')->tt { D with nx:=N } σ H)(hr:∀σ' H',I σ' H'->r D σ' H'):wY tt r D σ H:=ht _ hr
abbrev vv(os:AW.Os):List (List V):=os.map λl=>l.map V.int
theorem dO.at'{H0 H:Hp}{o:Addr}{rr:List Addr}{os:AW.Os}(w:dO H0 H o rr (vv os)){p:Nat}(hp:p<os.length) :
  ∃x,rr[p]?=some x/\H x=some (.lst (os[p].map V.int))/\H0 x=none/\atI (rr.map V.ref) (p:Int)=some (.ref x):=by
 obtain⟨x,h1,h2⟩:=w.row p (os[p].map V.int) (by rw[Zk,Zz hp];rfl);exact⟨x,h1,h2,w.news x (Zg h1),bB (by rw[Zk,h1];rfl)⟩
theorem dO.setI{H0 H:Hp}{o x:Addr}{rr:List Addr}{os:AW.Os}(w:dO H0 H o rr (vv os)){p:Nat}(hx:rr[p]?=some x)(l:List Int):dO H0 (upd H x (.lst (l.map V.int))) o rr (vv (os.set p l)):=by
 have:=w.set (l:=l.map V.int) hx
 rwa [show(vv os).set p (l.map V.int)=vv (os.set p l) from(ZG ..).symm]at this
end L2
namespace AW
theorem gK:∀(os:Os) (p:Nat) (l:List Int) (h:p<os.length),(os.set p l).flatten.length+os[p].length=os.flatten.length+l.length
 |[],p,_,h=>Yg h (Nat.not_lt_zero _)
 |o::os,0,l,_=>by simp;lia
 |o::os,p+1,l,h=>by
  have:=gK os p l (by simpa using h);simp only[List.set_cons_succ,List.flatten_cons,Zm,List.getElem_cons_succ]
  lia
def BP(m:Int)(ts:Ts):Bool:=ts.all λt=>(decide (0<=t.1)&&decide (t.1<m))&&(decide (0<=t.2)&&decide (t.2<m))
theorem vJ{m:Int}{ts:Ts}:BP m ts=true↔InW m ts:=by
 unfold BP InW;rw[ZD];simp only[Xb,decide_eq_true_eq]
end AW
variable{P:PySem.Program}{w:PySem.World}{K:PySem.W.Frag}{mg:PySem.Str->Option PySem.Value}{base:PySem.Heap}{t:L2.Adr}
namespace K38
open PySem L2 PyProof.Rows
theorem ch0{σ:L2.St}{H:Hp}{Q:VK}{i j:Nat}{x m:Int}(h1:σ[i]?=some (some (.int x)))(h2:σ[j]?=some (some (.int m)))(q:Q (.bl (decide (0<=x)&&decide (x<m))) H) :
  pA (rI0 λi j=>V.bl (decide (i<=j))) (rI0 λi j=>V.bl (decide (i<j))) (tC (V.int 0)) (FY i) (FY j) σ H Q:=by
 show St.at σ i _;refine qS h1 (i2 (λc=>?_) λc=>?_)
 ·rw[c,Bool.true_and]at q;exact qS h2 q
 ·rw[Bool.eq_false_iff.mpr c,Bool.false_and]at q;exact q
def MZ:Sp:=λvs H Q _=>∃(m:Int) (a:Addr) (ts:AW.Ts),vs=[.int m,.ref a]/\TsI H a ts/\ts.length<=1000/\∀H',aJ H H'->Q (.bl (AW.BP m ts)) H'
theorem KS(T:Txt K mg t):Ok P w base T 20 1 MZ:=by
 left
 obtain⟨m,a,ts,rfl,⟨tr,e1,e2,e3⟩,hl,q⟩:=h;refine⟨_,(by exists aP (nI rfl) rfl (T.z 0) boot_all ?_,(eK ["a","b","many"] [none,none,some 0]),aW ?_,1,0,1,xQ ?_ ?_,uY lM r6 aQ (pv 0) (pv 2),xN ?_,uY lM r6 aQ (pv 1) (pv 2)),?_⟩;refine⟨⟨_,aB e1⟩,λD hD=>?_⟩
 let fs:Nat->Bool:=λk=>(ts[k]?).any λt=>(decide (0<=t.1)&&decide (t.1<m))&&(decide (0<=t.2)&&decide (t.2<m))
 refine bH ts.length (λk=>.bl (fs k)) hD (by lia) (λi H' hi g2=>?_) (λH' g2=>⟨_,aB (g2 _ _ e1),by rw[Zq];lia⟩) ?_ ?_
 ·obtain⟨r,q1,_⟩:=e3 i ts[i] (Zz hi);exact⟨_,.ref r,aB (g2 _ _ e1),by rw[Zk,q1];rfl⟩
 ·rintro i H' x H'' k hi g2 ⟨rfl,hx⟩ hk;obtain⟨t,r,et,rfl,er⟩:=TsI.nth (a:=a) e2 e3 (hx _ (aB (g2 _ _ e1)));have hf:fs i=((decide (0<=t.1)&&decide (t.1<m))&&(decide (0<=t.2)&&decide (t.2<m))):=by show(ts[i]?).any _=_;rw[et];rfl
  have hk0:=hk H'' (aJ.refl _);rw[hf]at hk0;refine⟨_,aH (g2 _ _ er),rfl,?_⟩;refine⟨((Fills.refl _).set _ rfl).set _ rfl,?_⟩;refine ch0 (x:=t.1) (m:=m) rfl rfl (i2 (λc=>?_) λc=>?_)
  ·rw[c,Bool.true_and]at hk0;exact ch0 (x:=t.2) (m:=m) rfl rfl hk0
  ·rw[Bool.eq_false_iff.mpr c,Bool.false_and]at hk0;exact hk0
 ·intro H' g2 hD';rw[show(ZR ts.length).map (λk=>V.bl (fs k))=((ZR ts.length).map fs).map V.bl by rw[Yn];rfl]at hD';refine(aN D _ rfl (aB hD') ?_);have e:((ZR ts.length).map fs).all id=AW.BP m ts:=by
   unfold AW.BP;rw[Xd,ZD,ZD];constructor
   ·intro h x hx;obtain⟨i,hi,rfl⟩:=Yd.mp hx;have:=h (fs i) (Zh.mpr ⟨i,Zs.mpr hi,rfl⟩);have e:fs i=_:=(show(ts[i]?).any _=_ from by rw[Zz hi])
    rw[e]at this;exact this
   ·intro h b hb;obtain⟨i,hi,rfl⟩:=Zh.mp hb;have hi:=Zs.mp hi;have e:fs i=_:=(show(ts[i]?).any _=_ from by rw[Zz hi])
    rw[e];exact h _ (Zp hi)
  rw[e];exact q H' g2
def M6:Sp:=λvs H Q _=>∃(m:Nat) (a:Addr) (ts:AW.Ts),vs=[vn m,.ref a]/\TsI H a ts/\AW.InW m ts/\m<=1000/\ts.length<=1000 /\
 ∀(r:Addr) (H':Hp),aJ H H'->OsI H' r ((ZR m).map λp:Nat=>AW.endsAt ts p)->Q (.ref r) H'
theorem K5(T:Txt K mg t):Ok P w base T 22 1 M6:=by
 left
 obtain⟨m,a,ts,rfl,⟨tr,e1,e2,e3⟩,hw,hm,hl,q⟩:=h;refine⟨_,(by exists (nO 2 ["place"] [none]),0,0,iM rfl (T.z 1) ?_,1,3,4,aG,2,aL,4,3,aG,2,aL,4,aU,3,2),?_⟩;refine(cR (m:Int) rfl (by lia) (by lia) (λD hD=>?_));refine jX m (λ_=>[]) hD (by lia) (λi H' hi g2=>?_) (λH' g2=>?_) ?_ ?_
 ·show i<((m:Int)-0).toNat;lia
 ·show((m:Int)-0).toNat<=m;lia
 ·rintro i H' x H'' k hi g2 hy hk;obtain⟨e,y⟩:=hy;subst e;exact⟨(Fills.refl _).set _ rfl,(by show 0<=ZW;decide),λl hl'=>hk l _ hl' (aC hl' _) aA⟩
 ·intro rr H1 w1 g1
  let F:Nat->Nat->List V:=λk p=>(AW.endsAt (ts.take k) p).map V.int
  refine⟨a,rfl,⟨_,aB (g1 _ _ e1)⟩,gJ (a:=a) (xs:=tr.map V.ref) (λk σ H'=>(∃v3 v4,σ=[some (vn m),some (.ref a),some (.ref D),v3,v4])/\dO H H' D rr ((ZR m).map (F k))/\aJ H H') ⟨⟨_,_,rfl⟩,?_,g1⟩ ?_ ?_ ?_⟩
  ·have e:F 0=λ_=>[]:=by funext p;show(AW.endsAt (ts.take 0) p).map V.int=[];rw[List.take_zero];rfl
   rw[e];exact w1
  ·rintro i σ H' hi ⟨_,_,g2⟩;exact aB (g2 _ _ e1)
  ·rintro i x σ H' Tp hx ⟨⟨v3,v4,rfl⟩,w2,g2⟩ hTp;obtain⟨⟨u,v⟩,r,et,rfl,er⟩:=TsI.nth (a:=a) e2 e3 hx;obtain⟨⟨u0,u1⟩,v0,v1⟩:=hw _ (Zg et);obtain⟨p1,rfl⟩:=Xh u0;obtain⟨p2,rfl⟩:=Xh v0;have u1:p1<m:=Int.ofNat_lt.mp u1;have v1:p2<m:=Int.ofNat_lt.mp v1;have hi:i<ts.length:=(Zj.mp et).1;have g3:=g2.trans (aC hTp (.tup [vn i,.ref r]));have w3:=w2.keep (aC hTp (.tup [vn i,.ref r]));have small:∀(k p:Nat),(F k p).length<ZW:=λk p=>by
    show((AW.endsAt (ts.take k) p).map V.int).length<ZW;have h1:(AW.endsAt (ts.take k) p).length<=(AW.all2 (ts.take k)).length:=List.length_filter_le ..;have h2:(AW.all2 (ts.take k)).length<=2000:=by unfold AW.all2;rw[Zq,Yj,Yx];lia
    rw[Zq];exact Xj (Xz h1 h2) (by decide)
   refine⟨_,aH aA,rfl,?_⟩;obtain⟨x1,a1,b1,c1,d1⟩:=w3.item u1;refine(aN _ _ (aH (g3 _ _ er)) rfl (bP _ _ (aB w3.at_) d1 (.inl ⟨rfl,_,aB b1⟩) (.inl ⟨by decide,by decide⟩) ⟨ _,b1,small i p1,?_⟩));have w4:=w3.put a1 (F i p1++[V.int (2*(i:Int))]);have g4:=g3.fresh c1 (.lst (F i p1++[V.int (2*(i:Int))]));obtain⟨x2,a2,b2,c2,d2⟩:=w4.item v1;refine(aN _ _ (aH (g4 _ _ er)) rfl (bP _ _ (aB w4.at_) d2 (.inl ⟨rfl,_,aB b2⟩) (.inl ⟨by decide,by decide⟩) (mM _ b2 ?_ ⟨_,_,rfl⟩ ?_ (g4.fresh c2 _))))
   ·show(if p2=p1 then F i p1++[V.int (2*(i:Int))] else F i p2).length<ZW;have h1:=small i p1;have h2:=small i p2;split
    ·rw[Zm];have h3:(AW.endsAt (ts.take i) p1).length<=(AW.all2 (ts.take i)).length:=List.length_filter_le ..;have h4:(AW.all2 (ts.take i)).length<=2000:=by unfold AW.all2;rw[Zq,Yj,Yx];lia
     have h5:(F i p1).length=(AW.endsAt (ts.take i) p1).length:=Zq ..;exact Xj (show _<=2001 by rw[h5];simp;lia) (by decide)
    ·exact h2
   ·have w5:=w4.put a2 ((if p2=p1 then F i p1++[V.int (2*(i:Int))] else F i p2)++[V.int (2*(i:Int)+1)]);have e:(λj=>if j=p2 then (if p2=p1 then F i p1++[V.int (2*(i:Int))] else F i p2)++[V.int (2*(i:Int)+1)] else if j=p1 then F i p1++[V.int (2*(i:Int))] else F i j)=F (i+1):=by
     funext j
     have ht:ts.take (i+1)=ts.take i++[((p1:Int),(p2:Int))]:=by rw[List.take_add_one,et];rfl
     have hlt:(ts.take i).length=i:=by rw[Yx];lia
     show _=(AW.endsAt (ts.take (i+1)) j).map V.int;rw[ht,AW.vS,hlt,Zt,Zt];have c1:((p1:Int)=(j:Int))↔(j=p1):=by lia
     have c2:((p2:Int)=(j:Int))↔(j=p2):=by lia
     simp only[c1,c2];by_cases k2:j=p2
     ·subst k2;by_cases k1:j=p1
      ·subst k1;simp[F]
      ·simp[F,k1]
     ·by_cases k1:j=p1
      ·subst k1;simp[F,k2]
      ·simp[F,k1,k2]
    rw[e]at w5;exact w5
  ·rintro σ H' ⟨⟨v3,v4,rfl⟩,w2,g2⟩;refine(q D H' g2 ?_);have e:F (tr.map V.ref).length=λp:Nat=>(AW.endsAt ts p).map V.int:=by funext p;show(AW.endsAt (ts.take _) p).map V.int=_;rw[Zq,e2,Yw]
   rw[e]at w2;refine dO.os (rr:=rr) (H:=H) ?_;rw[Yn];exact w2
def JY:Sp:=λvs H Q _=>∃(wa:Addr) (m:Nat) (ts:AW.Ts) (os:AW.Os),vs=[.ref wa]/\iG H wa m ts os/\AW.InW m ts/\m<=1000/\ts.length<=1000 /\
 ∀(b:Bool) (H':Hp),aJ H H'->(b=true↔os.length=m/\AW.Fit ts os)->Q (.bl b) H'
theorem GY(T:Txt K mg t):Ok P w base T 21 2 JY:=by
 left
 obtain⟨wa,m,ts,os,rfl,⟨tA,oA,hw,hT,or,o1,o2,o3⟩,hin,hm,hl,q⟩:=h;refine⟨_,(by exists 1,aL,0,eO,1,aL,0,KJ rfl (T.z 11) ?_,1,K5,aL,0,aL,0,2,3,2,j7 (T.g 3),(kI hr.units),aP mD rfl (T.z 9) boot_sorted ?_,2,3),?_⟩;refine(aN _ _ (aH hw) rfl ?_);refine(bU oA _ rfl (.inl (aB o1)) _ _ (aH hw) rfl (i2 (λc=>?_) (λc=>?_)))
 ·refine q false H (aJ.refl _) ⟨λz=>Bool.noConfusion z,λz=>?_⟩;rw[Zq,o2,z.1]at c;simp at c
 have hlen:os.length=m:=by
  rw[Zq,o2]at c;apply ZS;intro z;apply c;simp only[Bool.not_eq_true',decide_eq_false_iff_not];intro z2;exact z (Int.ofNat.inj (V.int.inj z2))
 refine(bU _ _ (aH hw) rfl _ _ (aH hw) rfl (mK m tA ts rfl hT hin hm hl (λr H1 g1 hE=>?_)));obtain⟨er,r1,r2,r3⟩:=hE;refine(B5 oA r _ _ rfl (g1 _ _ o1) r1 (HJ (xs:=or.map V.ref) (ys:=er.map V.ref) (λk σ H'=>(∃v2 v3,σ=[some (.ref wa),some (.ref oA),v2,v3])/\aJ H1 H'/\∀(i:Nat) o,i<k->os[i]?=some o->o.length<=4/\o.Perm (AW.endsAt ts i)) ?_ ⟨⟨_,_,rfl⟩,aJ.refl _,λi o hi=>by lia⟩ ?_ ?_ ?_))
 ·rw[Zq,Zq,o2,r2,Zq,Yj,hlen]
 ·rintro i σ H' hi ⟨_,g2,_⟩;exact⟨g2 _ _ (g1 _ _ o1),g2 _ _ r1⟩
 ·rintro i x y σ H' Tp hx hy ⟨⟨v2,v3,rfl⟩,g2,ih⟩ hTp;obtain⟨o,ra,eo,rfl,era⟩:=OsI.nth o2 o3 hx;obtain⟨l,rb,el,rfl,erb⟩:=OsI.nth r2 r3 hy;have hi:i<m:=by rw[<-hlen];exact(Zj.mp eo).1
  have el2:l=AW.endsAt ts i:=by
   have:((ZR m).map λp:Nat=>AW.endsAt ts p)[i]?=some (AW.endsAt ts i):=by simp[hi]
   rw[this]at el;exact(Option.some.inj el).symm
  subst el2;have g3:=g2.trans (aC hTp (.tup [.ref ra,.ref rb]));refine⟨_,aH aA,rfl,?_⟩;refine(aN ra _ rfl (.inl (aB (g3 _ _ (g1 _ _ era)))) (i2 (λc=>iT ?_) (λc=>?_)))
  ·have c:(4:Int)<((o.map V.int).length:Nat):=Yf c;rw[Zq]at c;refine q false _ (g1.trans g3) ⟨λz=>Bool.noConfusion z,λz=>?_⟩;have:=(z.2 i o eo).1
   lia
  have c4:o.length<=4:=by
   rw[Zq]at c;simp only[decide_eq_true_eq]at c
   lia
  refine(bS ra o rfl (aB (g3 _ _ (g1 _ _ era))) (by lia) (λls ns' hls p1 p2=>?_));have g4:=g3.trans (aC hls (.lst (ns'.map V.int)));refine(bP _ _ (dZ aA) (dZ (g4 _ _ erb)) (shaped_ints _) (shaped_ints _) ?_);rw[iB];by_cases e:ns'=AW.endsAt ts i
  ·rw[Ye e];refine iF ⟨⟨_,_,rfl⟩,g4,λj o' hj ho'=>?_⟩;by_cases hj2:j<i
   ·exact ih j o' hj2 ho'
   ·have:j=i:=by lia
    subst this;rw[eo]at ho';cases ho';exact⟨c4,e▸p1.symm⟩
  ·rw[Yc e];refine iT (q false _ (g1.trans g4) ⟨λz=>Bool.noConfusion z,λz=>?_⟩);exact Yg (AW.AZ (p1.trans (z.2 i o eo).2) p2 (AW.AO ts i)) e
 ·rintro σ H' ⟨⟨v2,v3,rfl⟩,g2,ih⟩;refine q true H' (g1.trans g2) ⟨λ_=>⟨hlen,λi o hio=>ih i o ?_ hio⟩,λ_=>rfl⟩;rw[Zq,o2];exact(Zj.mp hio).1
def J2:Sp:=λvs H Q _=>∃(m:Nat) (a:Addr) (ts:AW.Ts),vs=[vn m,.ref a]/\TsI H a ts/\AW.InW m ts/\0<m/\m<=1000/\ts.length<=1000 /\
 ∀(b:Bool) (H':Hp),aJ H H'->(b=true↔AW.nS m ts)->Q (.bl b) H'
def FR(H:Hp)(m:Nat)(ts:AW.Ts)(D rA wA:Addr)(rr:List Addr)(R:List Bool)(W:List Int)(H':Hp):Prop :=
 dO H H' D rr ((ZR m).map λp:Nat=>(AW.nbs ts p).map V.int)/\H' rA=some (.lst (R.map V.bl))/\H' wA=some (.lst (W.map V.int))/\aJ H H'
theorem G7(ts:AW.Ts)(p:Int):(AW.nbs ts p).length<=2*ts.length:=by
 induction ts with
 |nil=>exact ZA _
 |cons t ts ih =>
  unfold AW.nbs AW.nb at ih ⊢;rw[List.flatMap_cons,Zm,Yq,Zm];have h1:(if t.1=p then [t.2] else []).length<=1:=by split<;>simp
  have h2:(if t.2=p then [t.1] else []).length<=1:=by split<;>simp
  lia
theorem G3(T:Txt K mg t):Ok P w base T 23 1 J2:=by
 refine T.okN 23 (scm:eE ["many","ties","near","a","b","reached","waiting","place","neighbour"] _ _) (λvs H Q E h=>?_) ?_
 ·obtain⟨m,a,ts,rfl,_⟩:=h;rfl
 intro cdv A outer s H vs Q E hr h nd X;obtain⟨m,a,ts,rfl,⟨tr,e1,e2,e3⟩,hw,hm0,hm,hl,q⟩:=h;refine⟨_,(by exists (nO 2 ["place"] [none]),0,0,aW ?_,1,3,4,aG,2,3,4,aG,2,4,3,(nO 5 ["place"] [none]),0,0,cI,0,6,bR (pv 6) (λ_=>rfl),7,xP YL PySem.F.slot_list_pop PySem.F.type_list_pop x9 (pv 6),aW ?_,aG,2,7,8,bR ?_ (λ_=>rfl),aG,5,8,cH ?_ ?_,dB ?_ ?_ set_list,5,8,6,8,aP (nI rfl) rfl (T.z 0) boot_all ?_,5),?_⟩;refine(cR (m:Int) rfl (by lia) (by lia) (λD hD=>?_));refine jX m (λ_=>[]) hD (by lia) (λi H' hi g2=>?_) (λH' g2=>?_) ?_ ?_
 ·show i<((m:Int)-0).toNat;lia
 ·show((m:Int)-0).toNat<=m;lia
 ·rintro i H' x H'' k hi g2 ⟨e,y⟩ hk;subst e;exact⟨(Fills.refl _).set _ rfl,(by show 0<=ZW;decide),λl hl'=>hk l _ hl' (aC hl' _) aA⟩
 intro rr H1 w1 g1
 let F:Nat->Nat->List V:=λk p=>(AW.nbs (ts.take k) p).map V.int
 have small:∀(k p:Nat),(F k p).length<=2000:=λk p=>by
  show((AW.nbs (ts.take k) p).map V.int).length<=2000;have h1:=G7 (ts.take k) p;rw[Yx]at h1;rw[Zq];lia
 refine⟨⟨_,aB (g1 _ _ e1)⟩,cV (a:=a) (xs:=tr.map V.ref) (λk σ H'=>(∃v3 v4,σ=[some (vn m),some (.ref a),some (.ref D),v3,v4,none,none,none,none])/\dO H H' D rr ((ZR m).map (F k))/\aJ H H') ⟨⟨_,_,rfl⟩,?_,g1⟩ ?_ ?_ ?_⟩
 ·have e:F 0=λ_=>[]:=by funext p;show(AW.nbs (ts.take 0) p).map V.int=[];rw[List.take_zero];rfl
  rw[e];exact w1
 ·rintro i σ H' hi ⟨_,_,g2⟩;exact aB (g2 _ _ e1)
 ·rintro i x σ H' hx ⟨⟨v3,v4,rfl⟩,w2,g2⟩;obtain⟨⟨u,v⟩,r,et,rfl,er⟩:=TsI.nth (a:=a) e2 e3 hx;obtain⟨⟨u0,u1⟩,v0,v1⟩:=hw _ (Zg et);obtain⟨p1,rfl⟩:=Xh u0;obtain⟨p2,rfl⟩:=Xh v0;have u1:p1<m:=Int.ofNat_lt.mp u1;have v1:p2<m:=Int.ofNat_lt.mp v1;refine⟨_,aH (g2 _ _ er),rfl,?_⟩;obtain⟨x1,a1,b1,c1,d1⟩:=w2.item u1;refine(bS _ _ (aB w2.at_) d1 (.inl ⟨rfl,_,aB b1⟩) ⟨ _,b1,Xj (small i p1) (by decide),?_⟩);have w4:=w2.put a1 (F i p1++[V.int (p2:Int)]);have g4:=g2.fresh c1 (.lst (F i p1++[V.int (p2:Int)]));obtain⟨x2,a2,b2,c2,d2⟩:=w4.item v1;refine(bS _ _ (aB w4.at_) d2 (.inl ⟨rfl,_,aB b2⟩) (mM _ b2 ?_ ⟨_,_,rfl⟩ ?_ (g4.fresh c2 _)))
  ·show(if p2=p1 then F i p1++[V.int (p2:Int)] else F i p2).length<ZW;have h1:=small i p1;have h2:=small i p2;refine Xj (show _<=2001 from ?_) (by decide);split
   ·rw[Zm];simp;lia
   ·lia
  ·have w5:=w4.put a2 ((if p2=p1 then F i p1++[V.int (p2:Int)] else F i p2)++[V.int (p1:Int)]);have e:(λj=>if j=p2 then (if p2=p1 then F i p1++[V.int (p2:Int)] else F i p2)++[V.int (p1:Int)] else if j=p1 then F i p1++[V.int (p2:Int)] else F i j)=F (i+1):=by
    funext j
    have ht:ts.take (i+1)=ts.take i++[((p1:Int),(p2:Int))]:=by rw[List.take_add_one,et];rfl
    show _=(AW.nbs (ts.take (i+1)) j).map V.int;rw[ht,AW.EF,Zt];unfold AW.nb;have c1:((p1:Int)=(j:Int))↔(j=p1):=by lia
    have c2:((p2:Int)=(j:Int))↔(j=p2):=by lia
    simp only[c1,c2];by_cases k2:j=p2
    ·subst k2;by_cases k1:j=p1
     ·subst k1;simp[F]
     ·simp[F,k1]
    ·by_cases k1:j=p1
     ·subst k1;simp[F,k2]
     ·simp[F,k1,k2]
   rw[e]at w5;exact w5
 rintro σ H2 ⟨⟨v3,v4,rfl⟩,w2,g2⟩;have eF:F (tr.map V.ref).length=λp:Nat=>(AW.nbs ts p).map V.int:=by funext p;show(AW.nbs (ts.take _) p).map V.int=_;rw[Zq,e2,Yw]
 rw[eF]at w2;refine(cR (m:Int) rfl (by lia) (by lia) (λrA hrA=>?_));refine bH m (λp=>.bl (decide ((V.int (0+(p:Int)))=V.int 0))) hrA (by lia) (λi H' hi g3=>?_) (λH' g3=>?_) ?_ ?_
 ·show i<((m:Int)-0).toNat;lia
 ·show((m:Int)-0).toNat<=m;lia
 ·rintro i H' x H'' k hi g3 ⟨e,y⟩ hk;subst e;subst y;exact⟨(Fills.refl _).set _ rfl,hk _ (aJ.refl _)⟩
 intro H3 g3 eR;have eR0:(ZR m).map (λp:Nat=>V.bl (decide ((V.int (0+(p:Int)))=V.int 0)))=((ZR m).map λp=>decide (p=0)).map V.bl:=by
  rw[Yn];refine Yt λp _=>?_;show V.bl (decide _)=V.bl (decide (p=0));have hp:(V.int (0+(p:Int))=V.int 0)↔p=0:=⟨λz=>by have:=V.int.inj z;lia,λz=>by rw[z];rfl⟩
  simp only[hp]
 rw[eR0]at eR;refine⟨(by show 1<=ZW;decide),λwA hwA=>?_⟩;have w3:=w2.keep g3;have g23:=g2.trans g3;have rD:rA≠D:=λz=>by rw[z,w2.at_]at hrA;cases hrA
 have rin:rA∉rr:=w2.notIn hrA;have wD:wA≠D:=λz=>by rw[z,w3.at_]at hwA;cases hwA
 have win:wA∉rr:=w3.notIn hwA;have wr:wA≠rA:=λz=>by rw[z,eR]at hwA;cases hwA
 have r0:H rA=none:=g2.free hrA;have w0:H wA=none:=g23.free hwA;refine⟨λM σ H'=>∃R W v3 v4 v7 v8,(M=2*AW.gL R+W.length/\M<=2001)/\σ=[some (vn m),some (.ref a),some (.ref D),v3,v4,some (.ref rA),some (.ref wA),v7,v8]/\FR H m ts D rA wA rr R W H'/\AW.uA m ts R W,
  (oS _ _ _ _ _ _ _ ⟨rfl,?bnd⟩ rfl ⟨ ⟨w3.other wD win _,by rw[aF (Yh wr)];exact eR,by exact aA,g23.fresh w0 _⟩,AW.uA.start hm0⟩),?_⟩
 case bnd =>
  have h1:AW.gL ((ZR m).map λp=>decide (p=0))<=m:=by
   unfold AW.gL;exact Xz (List.length_filter_le ..) (by simp)
  show _+1<=2001
  lia
 rintro M σ H' ⟨R,W,v3,v4,v7,v8,⟨rfl,hB⟩,rfl,⟨w4,hR,hW,g4⟩,hS⟩;refine⟨_,.inl ⟨_,aB hW,rfl⟩,?_⟩;rcases List.eq_nil_or_concat W with rfl | ⟨W0,pz,rfl⟩
 ·refine iF (aN rA R rfl (aB hR) (q _ H' g4 (hS.done hw)))
 rw[List.concat_eq_append]at *;obtain⟨p0,rfl,hp0⟩:=hS.win pz (by simp);have hpm:p0<m:=by rw[<-hS.len];exact(Zj.mp hp0).1
 have eW:(W0++[(p0:Int)]).map V.int=W0.map V.int++[vn p0]:=by rw[Zt];rfl
 rw[eW];rw[show(!(W0.map V.int++[vn p0]).isEmpty)=true by simp];refine iT ⟨λσ' H''=>∃R' W' v3 v4 v7 v8,2*AW.gL R'+W'.length<2*AW.gL R+(W0++[(p0:Int)]).length/\σ'=[some (vn m),some (.ref a),some (.ref D),v3,v4,some (.ref rA),some (.ref wA),v7,v8]/\FR H m ts D rA wA rr R' W' H''/\AW.uA m ts R' W',?_,?_⟩
 ·rintro σ' H'' ⟨R',W',v3,v4,v7,v8,hM,rfl,hI,hS'⟩;exact(oV _ hM R' W' _ _ _ _ ⟨rfl,by lia⟩ ⟨ rfl,hI,hS'⟩)
 rw[eW]at hW;refine(eS (.inl ⟨rfl,_,aB hW⟩) _ (vn p0) hW (by rw[Zm];simp) ?_);rw[List.dropLast_concat];have w5:=w4.other wD win (.lst (W0.map V.int));have g5:=g4.fresh w0 (.lst (W0.map V.int));obtain⟨x1,a1,b1,c1,d1⟩:=w5.item hpm;have hlen:(W0++[(p0:Int)]).length=W0.length+1:=by simp
 rw[hlen];refine(aN _ _ (aB w5.at_) d1 ⟨ ⟨_,aB b1⟩,cV (a:=x1) (xs:=(AW.nbs ts p0).map V.int) (λk σ H''=>∃R' W' v8,2*AW.gL R'+W'.length<2*AW.gL R+(W0.length+1) /\
  σ=[some (vn m),some (.ref a),some (.ref D),v3,v4,some (.ref rA),some (.ref wA),some (vn p0),v8]/\FR H m ts D rA wA rr R' W' H''/\AW.jJ m ts R' W' p0 k) (eY R W0 _ (by lia) rfl ⟨w5,by rw[aF (Yh wr)];exact hR,aA,g5⟩ (.start hS)) ?_ ?_ ?_⟩)
 ·rintro i σ H'' hi ⟨R',W',v8,_,_,⟨w6,_⟩,_⟩;obtain⟨x2,a2,b2,_⟩:=w6.item hpm;rw[a1]at a2;cases a2;exact aB b2
 ·rintro i x σ H'' hx ⟨R',W',v8,hM,rfl,⟨w6,hR',hW',g6⟩,hI⟩;rw[Zk]at hx;cases eq':(AW.nbs ts p0)[i]? with
  |none=>rw[eq']at hx;cases hx
  |some qz =>
   rw[eq']at hx;cases hx;obtain⟨q0,q1⟩:=AW.x8 hw (Zg eq');obtain⟨qn,rfl⟩:=Xh q0;have q1:qn<m:=Int.ofNat_lt.mp q1;have hql:qn<R'.length:=by rw[hI.len];exact q1
   have eb:R'[qn]?=some R'[qn]:=Zz hql;refine(sT _ (.bl R'[qn]) (aB hR') (bB (by rw[Zk,eb];rfl)) (R'[qn]) rfl ?_);cases hb:R'[qn]with
   |true =>
    refine iF (eY R' W' _ hM rfl ⟨w6,hR',hW',g6⟩ (hI.skip eq' ?_));rw[show((qn:Int)).toNat=qn from rfl,eb,hb]
   |false =>
    rw[hb]at eb;have hset:(R'.map V.bl).set qn (.bl true)=(R'.set qn true).map V.bl:=by rw[ZG]
    have hf:=AW.qG eb;refine iT (aN _ qn hR' ?_ ?_)
    ·exact dC (by rw[Zq];exact hql) rfl
    rw[hset];refine(kU (.inl ⟨rfl,_,aB (by rw[aF wr];exact hW')⟩) _ (by rw[aF wr];exact hW') ?_ ?_)
    ·rw[Zq];exact Xj (show _<=2001 by rw[hlen]at hB;lia) (by decide)
    refine(eY (R'.set qn true) (W'++[(qn:Int)]) _ ?_ rfl ⟨(w6.other rD rin _).other wD win _,?_,?_,(g6.fresh r0 _).fresh w0 _⟩ (hI.reach eq' q1))
    ·rw[Zm];simp;lia
    ·rw[aF (Yh wr)];exact aA
    ·rw[Zt];exact aA
 ·rintro σ H'' ⟨R',W',v8,hM,rfl,hI,hS'⟩;exact(fX R' W' _ _ _ _ (by simpa using hM) rfl hI (hS'.finish (by rw[Zq];exact ZA _)))
end K38
namespace L2
open PySem PySem.Spec PyProof.Rows
end L2
namespace K38
open PySem L2 PyProof.Rows
theorem N8{σ:L2.St}{H:Hp}{Q:VK}{a c x:Int}{tb:TE}(hb:∀R:VK,R (.int x) H->tb σ H R)(q:Q (.bl (decide (a<=x)&&decide (x<=c))) H) :
  pA (rI0 λi j=>V.bl (decide (i<=j))) (rI0 λi j=>V.bl (decide (i<=j))) (tC (V.int a)) tb (tC (V.int c)) σ H Q:=by
 refine hb _ (i2 (λh=>?_) λh=>?_)
 ·rw[h,Bool.true_and]at q;exact q
 ·rw[Bool.eq_false_iff.mpr h,Bool.false_and]at q;exact q
def GA:Sp:=λvs H Q E=>∃(wa:Addr) (m:Int) (ts:AW.Ts) (os:AW.Os),vs=[.ref wa]/\iG H wa m ts os/\ts.length<=1000 /\
 (AW.hJ m ts os->∀H',aJ H H'->Q .non H')/\(¬AW.hJ m ts os->∀x H',aJ H H'->E (.ref x) none H')
theorem pT(T:Txt K mg t):OkX P w base T (t.c 1) 19 3 GA:=by
 left
 obtain⟨wa,m,ts,os,rfl,⟨tA,oA,hw,hT,hO⟩,hl,q1,q2⟩:=h;refine⟨_,(by exists 1,aL,0,2,aL,0,lD lM lM aQ (pv 1) ?_,j7 (T.g 1),fI (T.e 1).xi YK (T.m 1),lD lM lM aQ ?_ ?_,2,j7 (T.g 2),fI (T.e 1).xi YK (T.m 1),bR ?_ (λ_=>rfl),KS,1,2,fI (T.e 1).xi YK (T.m 1),bR ?_ (λ_=>rfl),GY,0,fI (T.e 1).xi YK (T.m 1),bR ?_ (λ_=>rfl),G3,1,2,fI (T.e 1).xi YK (T.m 1)),?_⟩;refine(aN _ _ (aH hw) rfl ?_);refine(aN _ _ (aH hw) rfl ?_);dsimp only[cJ,wY,CQ,CP,rP];refine N8 (x:=m) ?h1 ?h2
 case h1=>exact λR h=>(h)
 by_cases c1:1<=m/\m<=200
 case neg =>
  rw[show(decide ((1:Int)<=m)&&decide (m<=200))=false by rw[<-Bool.decide_and];exact Yc c1];exact iT λx=>q2 (λz=>c1 z.1.1) x H (aJ.refl _)
 rw[show(decide ((1:Int)<=m)&&decide (m<=200))=true by rw[<-Bool.decide_and];exact Ye c1];refine iF ?_;obtain⟨tr,e1,e2,e3⟩:=id hT;dsimp only[yR,wY,CQ,CP,rP];refine N8 (x:=((tr.map V.ref).length:Nat)) ?h3 ?h4
 case h3=>exact λR h=>(aN tA _ rfl (.inl (aB e1)) h)
 rw[Zq,e2];by_cases c2:1<=ts.length/\ts.length<=400
 case neg =>
  rw[show(decide ((1:Int)<=(ts.length:Nat))&&decide (((ts.length:Nat):Int)<=400))=false by rw[<-Bool.decide_and];exact Yc (λz=>c2 (by lia))];exact iT λx=>q2 (λz=>c2 z.1.2) x H (aJ.refl _)
 rw[show(decide ((1:Int)<=(ts.length:Nat))&&decide (((ts.length:Nat):Int)<=400))=true by rw[<-Bool.decide_and];exact Ye (by lia)];refine iF (eY m tA ts rfl hT hl (λH1 g1=>⟨_,rfl,?_⟩));by_cases c3:AW.InW m ts
 case neg =>
  rw[show AW.BP m ts=false from Bool.eq_false_iff.mpr λz=>c3 (AW.vJ.mp z)];exact iT λx=>q2 (λz=>c3 z.2.1) x H1 g1
 rw[AW.vJ.mpr c3];obtain⟨n,rfl⟩:=Xh (show 0<=m by lia);refine iF (wJ wa n ts os rfl (aN tA oA (g1 _ _ hw) (hT.same g1) (hO.same g1)) c3 (by lia) hl (λb H2 g2 hb=>⟨_,rfl,?_⟩));cases b with
 |false=>exact iT λx=>q2 (λz=>Bool.noConfusion (hb.mpr ⟨Int.ofNat.inj z.2.2.1,z.2.2.2.1⟩)) x H2 (g1.trans g2)
 |true =>
  obtain⟨f1,f2⟩:=hb.mp rfl;refine iF (oU n tA ts rfl ((hT.same g1).same g2) c3 (by lia) (by lia) hl (λb H3 g3 hb=>⟨_,rfl,?_⟩));cases b with
  |false=>exact iT λx=>q2 (λz=>Bool.noConfusion (hb.mpr z.2.2.2.2)) x H3 ((g1.trans g2).trans g3)
  |true=>exact iF (q1 (fR ⟨c1,c2⟩ c3 (congrArg Int.ofNat f1) f2 (hb.mp rfl)) H3 ((g1.trans g2).trans g3))
def J7:Sp:=λvs H Q _=>∃(a:Addr) (ns:List Int) (k:Int),vs=[.ref a,.int k]/\SqL H a (ns.map V.int)/\0<=k/\∀c:Int,Q (.int c) H
theorem MG{ns:List Int}{k:Int}(h0:0<=k)(h:k<(ns.length:Int)):∃v:Int,atI (ns.map V.int) k=some (.int v):=by
 have hk:k.toNat<ns.length:=by lia
 have ek:k=((k.toNat:Nat):Int):=by lia
 have q:atI (ns.map V.int) ((k.toNat:Nat):Int)=some (.int ns[k.toNat]):=bB (by rw[Zk,Zz hk]<;>rfl);rw[<-ek]at q;exact⟨_,q⟩
theorem cP(T:Txt K mg t):Ok P w base T 44 1 (J7):=by
 left
 obtain⟨a,ns,k,rfl,hS,h0,q⟩:=h;refine⟨_,(by exists 1,0,aG,0,1),?_⟩;refine(aN a _ rfl (.inl hS) ?_);refine i2 (λc=>?_) (λc=>?_)
 ·have c':k<(((ns.map V.int).length:Nat):Int):=Yf c;rw[Zq]at c';obtain⟨v,hv⟩:=MG h0 c';exact(aN _ _ hS hv (q v))
 ·exact q 0
def M1:Sp:=λvs H Q _=>∃c k:Int,vs=[.int c,.int k]/\0<=k/\k<=1000/\∀m:Int,0<=m->m<1000000000->Q (.int m) H
theorem dI(T:Txt K mg t):Ok P w base T 45 1 M1:=by
 left
 obtain⟨c,k,rfl,h0,h1,q⟩:=h;refine⟨_,(by exists 0,xS,1,2,0,bM,0,xS,0,xS,3,aU,aU,0,1,1,1,3,3,3,bM,3,aU,3),?_⟩;have p18:ML 10 18:=⟨by decide,by decide,by decide⟩
 have p6:ML 10 6:=⟨by decide,by decide,by decide⟩
 refine⟨p18,?_⟩;refine i2 (λ_=>?_) (λ_=>?_)
 ·refine(cR k rfl (by lia) (by lia) (bV (lo:=0) (n:=k.toNat) (λ_ σ H'=>H'=H/\∃(c':Int) (o:Option V),σ=[some (.int c'),some (.int k),o,none]) ⟨rfl,c,none,rfl⟩ ?_ ?_))
  ·rintro i σ H' hi ⟨rfl,c',o,rfl⟩;exact⟨p6,⟨by decide,by decide⟩,rfl,_,_,rfl⟩
  ·rintro σ H' ⟨rfl,c',o,rfl⟩;refine⟨p6,(by show(0:Int)<10 ^ 6;decide),q _ (Xy _ (by decide)) ?_⟩;exact Int.lt_trans (Xg _ (by decide)) (by decide)
 ·refine(oW (by show(0:Int)<1000003;decide) (.inl ⟨by lia,by lia⟩) (.inr ⟨by decide,by decide⟩) (.inr ⟨by decide,by decide⟩) (by show(0:Int)<2147483629;decide) ?_);have b1:∀x:Int,0<=x%2147483629/\x%2147483629<2147483629:=λx=>⟨Xy _ (by decide),Xg _ (by decide)⟩
  have b2:∀x:Int,0<=x%2147483587/\x%2147483587<2147483587:=λx=>⟨Xy _ (by decide),Xg _ (by decide)⟩
  have b3:∀x:Int,0<=x%2147483579/\x%2147483579<2147483579:=λx=>⟨Xy _ (by decide),Xg _ (by decide)⟩
  generalize hn1:((c%1000003+k*k*7919+k)*48271%2147483629:Int)=n1;have r1:=b1 ((c%1000003+k*k*7919+k)*48271);rw[hn1]at r1;refine⟨.inl ⟨by lia,by lia⟩,(by show(0:Int)<2147483587;decide),?_⟩;have r2:=b2 (n1*n1);generalize n1*n1%2147483587=n2 at r2 ⊢;refine⟨.inl ⟨by lia,by lia⟩,(by show(0:Int)<2147483579;decide),⟨by decide,by decide⟩,?_⟩;have r3:=b3 (n2*(n2+2));generalize n2*(n2+2)%2147483579=n3 at r3 ⊢;exact q _ (by lia) (by lia)
def IJ:Sp:=λvs H Q _=>∃e:Nat,vs=[vn e]/\Q (vn (MM.oth e)) H
theorem fU(T:Txt K mg t):Ok P w base T 47 1 IJ:=by
 left
 obtain⟨e,rfl,q⟩:=h;refine⟨_,(by exists aU,0,0),?_⟩;refine⟨(by show(0:Int)<2;decide),.inl ⟨by decide,by decide⟩,?_⟩;have e1:(e:Int)+1-2*((e:Int)%2)=((MM.oth e:Nat):Int):=by unfold MM.oth;split<;>lia
 show Q (.int ((e:Int)+1-2*((e:Int)%2))) H;rw[e1];exact q
def F7:Sp:=λvs H Q _=>∃(a:Addr) (ts:MM.aR) (e:Nat),vs=[.ref a,vn e]/\nJ H a ts/\e<2*ts.length/\Q (vn (MM.place ts e)) H
theorem z9{x y:Nat}(e:Nat):atI [vn x,vn y] ((e:Int)%2)=some (vn (if e%2=0 then x else y)):=by
 rcases Nat.mod_two_eq_zero_or_one e with h | h
 ·rw[show(e:Int)%2=0 by lia,Yb h];rfl
 ·rw[show(e:Int)%2=1 by lia,Ya (by lia)];rfl
theorem r9(T:Txt K mg t):Ok P w base T 48 1 F7:=by
 left
 obtain⟨a,ts,e,rfl,ht,he,q⟩:=h;refine⟨_,(by exists jH,aG,0,bM,1,1),?_⟩;obtain⟨xs,r,h1,h2,h3,h4⟩:=ht.item (i:=e / 2) (by lia);refine(eS ⟨by decide,by decide⟩ xs _ (aB h1) (by show atI xs ((e:Int) / 2)=_;rw[show(e:Int) / 2=((e / 2:Nat):Int) by lia];exact h3) ?_);refine⟨(by show(0:Int)<2;decide),.inr (.inl (aN _ _ (aH h4) (z9 e) ?_))⟩;unfold MM.place at q;split
 ·rename_i h;rw[Yb h]at q;exact q
 ·rename_i h;rw[Ya h]at q;exact q
def ND:Sp:=λvs H Q _=>∃(a o:Addr) (ts:MM.aR) (os:MM.aT) (e:Nat),vs=[.ref a,.ref o,vn e]/\nJ H a ts/\qT H o os/\MM.Good ts os/\e<2*ts.length/\Q (vn (MM.behind ts os e)) H
theorem iP(T:Txt K mg t):Ok P w base T 49 2 ND:=by
 left
 obtain⟨a,o,ts,os,e,rfl,ht,ho,g,he,q⟩:=h;refine⟨_,(by exists 3,aG,1,r9,0,fU,2,aG,3,fS YL PySem.F.slot_list_index PySem.F.type_list_index lQ ?_ ?_,3,fU,2),?_⟩;have hp:=g.g.has (MM.oth e) (MM.bF he);obtain⟨xs,r,h1,h2,h3,h4⟩:=ho.item hp.1;refine(AI e rfl a ts (MM.oth e) rfl ht (MM.bF he) (aN xs _ (aB h1) h3 ?_));refine(rL (.inl ⟨rfl,_,aB h4⟩) e rfl _ _ rfl h4 hp.2 (aN _ _ (aB h4) (z8 hp.2) q))
end K38
namespace L2
open PySem PyProof.Rows
structure eP(H H':Hp)(r:Addr)(rr:List Addr)(ls:MM.aT):Prop where
 at_:H' r=some (.lst (rr.map V.ref))
 len:rr.length=ls.length
 row:∀(i:Nat) l,ls[i]?=some l->∃x,rr[i]?=some x/\H' x=some (.lst (vns l))
 nd:rr.Nodup
 nin:r∉rr
 new:H r=none
 news:∀x∈rr,H x=none
theorem eP.keep{H H' H2:Hp}{r:Addr}{rr:List Addr}{ls:MM.aT}(n:eP H H' r rr ls)(g:∀b o,b=r\/b∈rr->H' b=some o->H2 b=some o):eP H H2 r rr ls :=
 ⟨g _ _ (.inl rfl) n.at_,n.len,λi l h=>by obtain⟨x,h1,h2⟩:=n.row i l h;exact⟨x,h1,g _ _ (.inr (Zg h1)) h2⟩,n.nd,n.nin,n.new,n.news⟩
theorem eP.ex{H H':Hp}{r:Addr}{rr:List Addr}{ls:MM.aT}(n:eP H H' r rr ls){x:Addr}(hx:x∈rr):∃l,H' x=some (.lst (vns l)):=by
 obtain⟨i,hi,rfl⟩:=Yd.mp hx;have hi':i<ls.length:=by rw[<-n.len];exact hi
 obtain⟨y,h1,h2⟩:=n.row i (ls[i]'hi') (Zz hi');rw[Zz hi]at h1;cases h1;exact⟨_,h2⟩
theorem eP.push{H H' H2:Hp}{r x:Addr}{rr:List Addr}{ls:MM.aT}{l:List Nat}(n:eP H H' r rr ls)(hx:H x=none)(hxr:x∉rr)(hxn:x≠r)(at2:H2 r=some (.lst ((rr++[x]).map V.ref)))(ax:H2 x=some (.lst (vns l)))
  (g:∀b o,b∈rr->H' b=some o->H2 b=some o):eP H H2 r (rr++[x]) (ls++[l]) where
 at_:=at2
 len:=by rw[Zm,Zm,n.len];rfl
 row:=λi m h=>by
  rcases Xw i ls.length with q | q
  ·rw[Zx q]at h;obtain⟨y,h1,h2⟩:=n.row i m h;exact⟨y,by rw[Zx (by rw[n.len];exact q)];exact h1,g _ _ (Zg h1) h2⟩
  ·have hi:i=ls.length:=by
    obtain⟨z,_⟩:=Zj.mp h;rw[Zm]at z;simp at z
    lia
   subst hi;rw[Yy]at h;cases h;exact⟨x,by rw[<-n.len,Yy],ax⟩
 nd:=by
  rw[List.nodup_append];refine⟨n.nd,by simp,λa ha b hb z=>?_⟩;have e:b=x:=by simpa using hb
  subst e;subst z;exact hxr ha
 nin:=λz=>by
  rcases Zf.mp z with z | z
  ·exact n.nin z
  ·have e:r=x:=by simpa using z
   exact hxn e.symm
 new:=n.new
 news:=λy hy=>by
  rcases Zf.mp hy with z | z
  ·exact n.news y z
  ·have e:y=x:=by simpa using z
   subst e;exact hx
theorem oG(l m:List Nat):vns (l++m)=vns l++vns m:=Zt
theorem hG(x:Nat)(l:List Nat):inV (vn x) (vns l)=decide (x∈l):=by
 unfold inV;rw[Xd,List.any_eq_true,decide_eq_true_iff];constructor
 ·rintro⟨y,hy,h⟩;obtain⟨n,hn,rfl⟩:=Zh.mp hy;have h':((n:Int)==(x:Int))=true:=h;have:n=x:=by have:=beq_iff_eq.mp h';lia
  subst this;exact hn
 ·intro h;exact⟨vn x,Zh.mpr ⟨x,h,rfl⟩,by show((x:Int)==(x:Int))=true;simp⟩
theorem fH(l:List Nat):(vns l).all fL=true:=by rw[ZD];intro y hy;obtain⟨n,_,rfl⟩:=Zh.mp hy;rfl
theorem mF{H:Hp}:∀l:List Nat,Bds H (vns l) (l.map λn:Nat=>PyData.int (n:Int))
 |[]=>.nil
 |n::l=>.cons (.int n) (mF l)
theorem gP(l:List Nat):SeqAt.shaped (.list (l.map λn:Nat=>PyData.int (n:Int)))=true:=by
 have e:(l.map λn:Nat=>PyData.int (n:Int))=(l.map λn:Nat=>(n:Int)).map PyData.int:=by rw[Yn];rfl
 rw[e];generalize (l.map λn:Nat=>(n:Int))=ns;simp[SeqAt.shaped,PyData.canLay0,PyData.canLayAll0,PyData.depth,PyData.depthAll,PySem.W.ke_canLayAll0,PySem.W.ke_depthAll]
theorem vR(l m:List Nat):PyData.eqv (.list (l.map λn:Nat=>PyData.int (n:Int))) (.list (m.map λn:Nat=>PyData.int (n:Int)))=decide (l=m):=by
 have e:∀l:List Nat,(l.map λn:Nat=>PyData.int (n:Int))=(l.map λn:Nat=>(n:Int)).map PyData.int:=λl=>by rw[Yn];rfl
 rw[e,e];unfold PyData.eqv;rw[PySem.W.ked_eqvAll];have inj:∀l m:List Nat,(l.map λn:Nat=>(n:Int))=(m.map λn:Nat=>(n:Int))->l=m:=by
  intro l;induction l with
  |nil=>intro m h;cases m with
   |nil=>rfl
   |cons _ _=>simp at h
  |cons a l ih=>intro m h;cases m with
   |nil=>simp at h
   |cons b m =>
    simp only[ZI,List.cons.injEq]at h;rw[ih m h.2,show a=b by lia]
 by_cases h:l=m
 ·subst h;simp
 ·rw[Yc h,Yc (λz=>h (inj l m z))]
end L2
namespace K38
open PySem L2 PyProof.Rows
def C3:Sp:=λvs H Q _=>∃(a o:Addr) (ts:MM.aR) (os:MM.aT),vs=[.ref a,.ref o]/\nJ H a ts/\qT H o os/\MM.Good ts os/\ts.length<=500 /\
 ∀(r:Addr) (rr:List Addr) (H':Hp),aJ H H'->eP H H' r rr (MM.cD (MM.behind ts os) (2*ts.length))->Q (.ref r) H'
theorem mY(T:Txt K mg t):Ok P w base T 50 3 C3:=by
 left
 obtain⟨a,o,ts,os,rfl,ht,ho,g,h500,q⟩:=h;refine⟨_,(by exists 2,3,a9 (rH rfl) rfl (T.z 5) boot_list ?_,a9 vZ rfl (T.z 8) boot_range ?_,0,(kI hr.units),3,4,aG,3,5,iP,0,1,aG,3,eO,5,aG,4,4,5,5,iP,0,1,5,2,4,(nO 3 ["_law_end","_law_land"] [none,some 4]),aW ?_,3,0,pQ ?_,dQ,0,1,0,2),?_⟩;have m:=g.maps;obtain⟨tr0,hta,htl,_⟩:=id ht;refine⟨(by show 0<=ZW;decide),λtr htr=>?_⟩;have g1:=aC htr (.lst []);refine(B7 a _ rfl (.inl (aB (g1 _ _ hta))) (.inl ⟨by decide,by decide⟩) _ rfl (λp hp=>?_));have e2:(2:Int)*((tr0.map V.ref).length:Nat)=((2*ts.length:Nat):Int):=by rw[Zq,htl];push_cast;rfl
 rw[e2]at *;have g2:=aC hp (.rng 0 ((2*ts.length:Nat):Int));refine(bS p (2*ts.length) rfl aA (by lia) (λlr hlr=>?_));have g3:=aC hlr (.lst (vns (ZR (2*ts.length))));have ntl:tr≠lr:=aI (g2 _ _ aA) hlr;generalize hf:MM.behind ts os=f at m q;generalize hN:2*ts.length=N at m q hlr g3 g2 hp;have n0:eP H (upd (upd (upd H tr (.lst [])) p (.rng 0 (N:Int))) lr (.lst (vns (ZR N)))) tr [] [] :=
  ⟨g3 _ _ (g2 _ _ aA),rfl,λi l h=>by simp at h,List.nodup_nil,by simp,htr,λx hx=>by cases hx⟩
 refine⟨λk σ H1=>∃(lr:Addr) (left:List Nat) (rr:List Addr) (done:MM.aT) (o4 o5:Option V),k=left.length/\σ=[some (.ref a),some (.ref o),some (.ref tr),some (.ref lr),o4,o5]/\aJ H H1/\H1 lr=some (.lst (vns left)) /\
  eP H H1 tr rr done/\lr≠tr/\done++MM.lf f left=MM.cD f N/\(∀x∈left,x<N)/\left.length<=N,(oS _ lr (ZR N) ([]) ([]) none none rfl rfl (kW ((g1.trans g2).trans g3) aA n0 (Yh ntl) rfl (λx hx=>Zs.mp hx) (by simp))),?_⟩
 clear n0 g3 g2 hp hlr ntl lr p g1;rintro k σ H1 ⟨lr,left,rr,done,o4,o5,rfl,rfl,g1,el,n1,nlt,eq,hlt,hll⟩;refine⟨(by show 0<=ZW;decide),λp hp=>?_⟩;have gp:=aC hp (.lst []);refine(bP _ _ (.lst (aB (gp _ _ el)) (mF left)) (.lst (aB aA) (mF [])) (gP left) (gP []) ?_);rw[vR];have n2:eP H (upd H1 p (.lst [])) tr rr done:=n1.keep λb o' _ h=>gp _ _ h;have g2:=g1.trans gp;have el2:=gp _ _ el;generalize upd H1 p (.lst [])=H2 at n2 g2 el2 gp;clear hp;cases left with
 |nil =>
  refine iFb rfl ?_;rw[MM.EK,List.append_nil]at eq;exact(q tr rr H2 g2 (eq▸n2))
 |cons e r =>
  refine iTb (by simp) ?_;have heN:e<N:=hlt e Zd;obtain⟨rd,rdN⟩:=MM.dM m heN;have hdl:done.length<=N:=by
   have h1:=MM.tR m _ (ZR N) (ZA _) (λx hx=>Zs.mp hx);have h2:(done++MM.lf f (e::r)).length=(MM.cD f N).length:=by rw[eq]
   rw[Zm]at h2;unfold MM.cD at h2;rw[Yj]at h1
   lia
  have p1:atI (vns (e::r)) 0=some (vn e):=jI (l:=e::r) (j:=0) (by simp) rfl;refine⟨_,λσ' H' h=>h,?_⟩;refine(bS _ _ (aB el2) p1 (by show 1<=ZW;decide) (λla hla=>?_));have g3:=aC hla (.lst [vn e]);have nla:la≠tr/\la≠lr/\la∉rr:=by
   refine⟨(aI n2.at_ hla).symm,(aI el2 hla).symm,λz=>?_⟩;obtain⟨l,hl⟩:=n2.ex z;rw[hla]at hl;cases hl
  refine(aN _ _ (aB (g3 _ _ el2)) p1 (cN a o ts os e rfl ((g2.trans g3).ts ht) ((g2.trans g3).os ho) g ⟨ by rw[hN];exact heN,?_⟩));rw[hf];refine⟨λk σ H4=>∃j,k=MM.per f e-j/\0<j/\j<=MM.per f e/\σ=[some (.ref a),some (.ref o),some (.ref tr),some (.ref lr),some (.ref la),some (vn (MM.iter f j e))]/\(∀b o,b≠la->H2 b=some o->H4 b=some o)/\H4 la=some (.lst (vns (MM.path f e j))),
   (B8 _ 1 rfl Nat.one_pos rd.1 rfl (λb o' hb h=>g3 _ _ h) aA),?_⟩
  rintro k σ H4 ⟨j,rfl,hj0,hj,rfl,b4,e4⟩;have hH:∀b o',H b=some o'->H4 b=some o':=λb o' h=>b4 b o' (aI (g2 _ _ h) hla) (g2 _ _ h);have p0:atI (vns (MM.path f e j)) 0=some (vn e):=by
   have hl:0<(MM.path f e j).length:=by rw[MM.jE];exact hj0
   refine(jI hl (k:=0) rfl).trans ?_;congr 2;unfold MM.path;simp[List.getD,hj0];rfl
  refine(aN _ _ (aB e4) p0 ?_);by_cases hc:MM.iter f j e=e
  ·refine iFb (by rw[hc];simp) ?_;have ej:j=MM.per f e:=by
    rcases Xw j (MM.per f e) with z | z
    ·exact Yg hc (rd.2.2 j hj0 z)
    ·lia
   subst ej;have n4:eP H H4 tr rr done:=n2.keep λb o' hb h=>b4 b o' (by rcases hb with rfl | hb;exact Yh nla.1;rintro rfl;exact nla.2.2 hb) h;refine(kU (.inl ⟨rfl,_,aB n4.at_⟩) _ n4.at_ ?_ ?_)
   ·rw[Zq,n4.len];exact Xj (by lia:done.length<=1000) (by decide)
   have el5:(upd H4 tr (.lst (rr.map V.ref++[.ref la]))) lr=some (.lst (vns (e::r))):=by rw[aF nlt];exact b4 _ _ (Yh nla.2.1) el2
   have la5:(upd H4 tr (.lst (rr.map V.ref++[.ref la]))) la=some (.lst (vns (MM.aO f e))):=by rw[aF nla.1];exact e4
   have hH5:aJ H (upd H4 tr (.lst (rr.map V.ref++[.ref la]))):=λb o' h=>by rw[aF (aI h htr)];exact hH b o' h
   have n5:eP H (upd H4 tr (.lst (rr.map V.ref++[.ref la]))) tr (rr++[la]) (done++[MM.aO f e]) :=
    n4.push (g2.free hla) nla.2.2 nla.1 (by rw[aA,Zt];rfl) la5 λb o' hb h=>by rw[aF (show b≠tr from λz=>n4.nin (z▸hb))];exact h
   generalize upd H4 tr (.lst (rr.map V.ref++[.ref la]))=H5 at el5 la5 hH5 n5;refine⟨⟨_,aB el5⟩,λD hD=>?_⟩;refine oP (e::r).length (λi ys H'=>ys=vns (((e::r).take i).filter λx=>decide (x∉MM.aO f e))/\H'=upd H5 D (.lst ys)) ⟨by simp,rfl⟩ ?_ ?_
   ·rintro i ys H' hi ⟨rfl,rfl⟩;have gD:=aC hD (.lst (vns (((e::r).take i).filter λx=>decide (x∉MM.aO f e))));have hx:(vns (e::r))[i]?=some (vn (e::r)[i]):=by rw[Zk,Zz hi];rfl
    refine⟨⟨_,_,aB (gD _ _ el5),hx⟩,?_⟩;rintro x' H'' ⟨rfl,hx'⟩;have e6:=hx' _ (aB (gD _ _ el5));rw[hx]at e6;cases e6;refine⟨(Fills.refl _).set _ rfl,?_⟩;refine(cR _ (.inl (aB (gD _ _ la5))) rfl (fH _) ?_);rw[hG];have ts1:=take_succ_filter (λx=>decide (x∉MM.aO f e)) (e::r) i _ (Zz hi);have hfl:((List.take i (e::r)).filter λx=>decide (x∉MM.aO f e)).length<=1000:=by
     have h1:=List.length_filter_le (λx=>decide (x∉MM.aO f e)) (List.take i (e::r));have h2:(List.take i (e::r)).length<=(e::r).length:=List.length_take_le' _ _
     lia
    by_cases hxm:(e::r)[i]∈MM.aO f e
    ·refine iFb (by simp[hxm]) ?_;rw[ts1,Ya (by simp[hxm]),List.append_nil];exact⟨rfl,rfl⟩
    ·refine iTb (by simp[hxm]) ?_;refine⟨aA,?_,?_,?_⟩
     ·rw[Zq];exact Xj hfl (by decide)
     ·rw[ts1,Yb (by simp[hxm]),oG];rfl
     ·rw[eZ]
   ·rintro ys H' ⟨rfl,rfl⟩;have gD:=aC hD (.lst (vns (((e::r).take (e::r).length).filter λx=>decide (x∉MM.aO f e))));refine⟨⟨_,aB (gD _ _ el5),by rw[Zq];exact ZA _⟩,?_⟩;have sh:=MM.cK m heN r;refine(oV _ ?_ D _ (rr++[la]) (done++[MM.aO f e]) _ _ rfl (CI rfl (hH5.trans gD) aA (n5.keep λb o' _ h=>gD _ _ h) ((aI n5.at_ hD).symm) ?_ ?_ ?_))
    ·rw[Yw];simp only[Yq];lia
    ·rw[Yw,Yp];rw[MM.lW m hlt]at eq;exact eq
    ·intro x hx;rw[Yw]at hx;exact hlt x (Yz.mp hx).1
    ·rw[Yw];simp only[Yq]at hll;lia
  ·refine iTb (by simp;lia) ?_;have hjp:=MM.pG rd hj0 hj hc;refine⟨_,λσ' H' h=>h,?_⟩;refine(kU (.inl ⟨rfl,_,aB e4⟩) _ e4 ?_ ?_)
   ·rw[Zq,MM.jE];exact Xj (by lia:j<=1000) (by decide)
   have e7:vns (MM.path f e j)++[vn (MM.iter f j e)]=vns (MM.path f e (j+1)):=by rw[MM.jS,oG];rfl
   rw[e7];have hH5:aJ H (upd H4 la (.lst (vns (MM.path f e (j+1))))):=λb o' h=>by rw[aF (aI (g2 _ _ h) hla)];exact hH b o' h
   refine(cN a o ts os (MM.iter f j e) rfl (hH5.ts ht) (hH5.os ho) g ⟨ by rw[hN];exact MM.cZ m heN j,?_⟩);rw[hf];exact(AJ (MM.per f e-(j+1)) (by lia) (j+1) rfl (by lia) (by lia) rfl (λb o' hb h=>by rw[aF hb];exact b4 b o' hb h) aA)
end K38
namespace MM
theorem BN{l:List Nat}{i x y:Nat}:y∈L2.fT l i x↔y=x\/y∈l:=by
 unfold L2.fT;rw[Zf,Zn];have h:y∈l↔y∈l.take i\/y∈l.drop i:=by rw[<-Zf,List.take_append_drop]
 rw[h];constructor
 ·rintro(h | h | h)
  ·exact .inr (.inl h)
  ·exact .inl h
  ·exact .inr (.inr h)
 ·rintro(h | h | h)
  ·exact .inr (.inl h)
  ·exact .inl h
  ·exact .inr (.inr h)
theorem vI{l:List Nat}(nd:l.Nodup){i x:Nat}(h:x∉l):(L2.fT l i x).Nodup:=by
 unfold L2.fT;have p:(l.take i++x::l.drop i).Perm (x::l):=by
  have q:=List.perm_middle (a:=x) (l₁:=l.take i) (l₂:=l.drop i);rw[List.take_append_drop]at q;exact q
 exact(p.nodup_iff).mpr (List.nodup_cons.mpr ⟨h,nd⟩)
theorem BO{α:Type}(l:List α)(i:Nat)(x:α):(L2.fT l i x).length=l.length+1:=by
 unfold L2.fT;rw[Zm,Yq,<-Nat.add_assoc,<-Zm,List.take_append_drop]
theorem BM(l:List Nat)(i x:Nat):L2.fT (L2.vns l) i (L2.vn x)=L2.vns (L2.fT l i x):=by
 unfold L2.fT L2.vns;rw[Zt,ZI,List.map_take,List.map_drop]
end MM
namespace K38
open PySem L2 PyProof.Rows
def CY:Sp:=λvs H Q _=>∃(num:Int) (n:Nat),vs=[.int num,vn n]/\0<=num/\n<=400/\∀(r:Addr) (ps:List Nat),H r=none->ps.Nodup->(∀x∈ps,x<n)->ps.length=n->Q (.ref r) (upd H r (.lst (vns ps)))
theorem xX(T:Txt K mg t):Ok P w base T 46 1 CY:=by
 left
 obtain⟨num,n,rfl,h0,hn,q⟩:=h;refine⟨_,(by exists 2,1,3,fS YL PySem.F.slot_list_insert PySem.F.type_list_insert BF ?_ ?_,2,0,aU,3,3,0,bM,0,aU,3,2),?_⟩;refine⟨(by show 0<=ZW;decide),λr hr0=>?_⟩;refine(cR n rfl (by lia) (by lia) (bV (lo:=0) (n:=(n:Int).toNat) (λi σ H'=>∃(num':Int) (ps:List Nat) (o:Option V),0<=num'/\σ=[some (.int num'),some (vn n),some (.ref r),o]/\H'=upd H r (.lst (vns ps))/\ps.Nodup/\(∀x∈ps,x<i)/\ps.length=i)
  (mK num ([]) none h0 rfl rfl List.nodup_nil (λx hx=>by cases hx) rfl) ?_ ?_))
 ·rintro i σ H' hi ⟨num',ps,o,h0',rfl,rfl,hnd,hlt,hl⟩;have hi':i<400:=by lia
  have e1:num' % (0+(i:Int)+1)=(((num' % (0+(i:Int)+1)).toNat:Nat):Int):=by
   have:=Xy num' (show(0+(i:Int)+1)≠0 by lia)
   lia
  have e2:(num' % (0+(i:Int)+1)).toNat<=i:=by
   have:=Xg num' (show 0<(0+(i:Int)+1) by lia)
   lia
  refine(wU (.inl ⟨rfl,_,aB aA⟩) (by show(0:Int)<0+(i:Int)+1;lia) _ ((num' % (0+(i:Int)+1)).toNat) (vn i) ?_ aA ?_ ?_ ?_)
  ·show[V.int (num' % (0+(i:Int)+1)),V.int (0+(i:Int))]=[V.int (((num' % (0+(i:Int)+1)).toNat:Nat):Int),V.int (i:Int)]
   rw[<-e1,Int.zero_add]
  ·rw[Zq];lia
  ·rw[Zq];exact Xj (by lia:ps.length<=1000) (by decide)
  refine⟨⟨by show(0:Int)<0+(i:Int)+1;lia,by show 0+(i:Int)+1<1073741824;lia⟩,?_⟩;refine(mK _ (fT ps (num' % (0+(i:Int)+1)).toNat i) _ ?_ rfl ?_ ?_ ?_ ?_)
  ·exact Int.ediv_nonneg h0' (by lia)
  ·rw[eZ,MM.BM]
  ·exact MM.vI hnd λz=>YW _ (hlt i z)
  ·intro x hx;rcases MM.BN.mp hx with rfl | hx
   ·lia
   ·have:=hlt x hx;lia
  ·rw[MM.BO,hl]
 ·rintro σ H' ⟨num',ps,o,h0',rfl,rfl,hnd,hlt,hl⟩;exact(q r ps hr0 hnd (λx hx=>by have:=hlt x hx;lia) (by lia))
end K38
namespace MM
theorem LJ(pick:Int){n:Nat}(h:0<n):∃i:Nat,i<n/\pick%(n:Int)=(i:Int):=by
 have h1:=Xy pick (show(n:Int)≠0 by lia);have h2:=Xg pick (show 0<(n:Int) by lia);exact⟨(pick%(n:Int)).toNat,by lia,by lia⟩
end MM
namespace L2
open PySem PyProof.Rows
end L2
namespace MM
theorem BK(f:Nat->Nat)(x n:Nat):iter f (n+1) x=iter f n (f x):=by
 rw[Nat.add_comm,bG];rfl
def Cn(f:Nat->Nat)(N:Nat):Prop:=∀S:Nat->Prop,(∀x,x<N->S x->S (f x))->(∀x,x<N->S x->S (oth x))->∀x y,x<N->y<N->S x->S y
def ID(ts:aR)(os:aT):Prop:=Cn (behind ts os) (2*ts.length)
theorem PD(n:Nat):oth (2*n)=2*n+1:=by unfold oth;rw[Yb (by lia)]
theorem PB(n:Nat):oth (2*n+1)=2*n:=by unfold oth;rw[Ya (by lia)];lia
theorem jR{l:List Nat}(nd:l.Nodup){k y:Nat}(h:l[k]?=some y):aY l y=l.getD (if k=0 then l.length-1 else k-1) 0:=by
 obtain⟨hk,e⟩:=Zj.mp h;have hm:y∈l:=Zg h;have h1:=ZM hm;have e2:l[l.idxOf y]=l[k]:=(List.getElem_idxOf h1).trans e.symm;have e3:l.idxOf y=k:=(List.getElem_inj nd).mp e2;unfold aY;rw[e3];congr 1;split
 ·rename_i z;subst z;rw[Nat.zero_add];exact Nat.mod_eq_of_lt (by omega)
 ·have:k+l.length-1=(k-1)+l.length:=by lia
  rw[this,Nat.add_mod_right];exact Nat.mod_eq_of_lt (by omega)
noncomputable def pX(ts:aR)(os:aT):Nat:=(cD (behind ts os) (2*ts.length)).length
theorem OR{f:Nat->Nat}{N:Nat}(m:fQ f N){y:Nat}(hy:y<N):∃x,x<N/\f x=y:=by
 obtain⟨k,h0,_,h⟩:=nR m hy;refine⟨iter f (k-1) y,cZ m hy _,?_⟩;have e:k=(k-1)+1:=by lia
 rw[e]at h;exact h
def Rot(l m:List Nat):Prop:=∃k,l=m.drop k++m.take k
theorem Rot.perm{l m:List Nat}(h:Rot l m):l.Perm m:=by
 obtain⟨k,rfl⟩:=h;have:=(List.perm_append_comm:(m.drop k++m.take k).Perm (m.take k++m.drop k))
 rwa [List.take_append_drop]at this
theorem DE{a:Nat}{t:List Nat}(nd:(a::t).Nodup){x:Nat}(hx:x∈a::t):aY (t++[a]) x=aY (a::t) x:=by
 have nd2:(t++[a]).Nodup:=(List.perm_append_comm (l₁:=t) (l₂:=[a])).nodup_iff.mpr nd;rcases Zn.mp hx with rfl | hx
 ·cases t with
  |nil=>rfl
  |cons b t =>
   rw[jR (k:=0) nd rfl,jR (k:=(b::t).length) nd2 (by rw[Zy (ZA _),Nat.sub_self];rfl),Yb rfl,Ya (show ¬(b::t).length=0 from Nat.succ_ne_zero _)];show(b::t++[x]).getD t.length 0=(b::t).getD t.length 0;rw[Zv,Zv,Zx (Nat.lt_succ_self _)]
 ·obtain⟨i,hi,ei⟩:=Yd.mp hx;have gx:t[i]?=some x:=by rw[Zz hi,ei]
  have g1:(t++[a])[i]?=some x:=by rw[Zx hi];exact gx
  rw[jR nd2 g1,jR (k:=i+1) nd gx,Ya (Nat.succ_ne_zero i)];cases i with
  |zero =>
   rw[Yb rfl,Zm];show(t++[a]).getD t.length 0=a;rw[Zv,Zy (ZA _),Nat.sub_self];rfl
  |succ j =>
   rw[Ya (Nat.succ_ne_zero j)];show(t++[a]).getD j 0=t.getD j 0;rw[Zv,Zv,Zx (Nat.lt_of_succ_lt hi)]
theorem pM{l:List Nat}(nd:l.Nodup){x k:Nat}(hx:x∈l):aY (l.drop k++l.take k) x=aY l x:=by
 induction k with
 |zero=>rw[List.drop_zero,List.take_zero,List.append_nil]
 |succ k ih =>
  rw[<-ih];have pm:(l.drop k++l.take k).Perm l:=Rot.perm ⟨k,rfl⟩;rcases Xw k l.length with h | h
  ·have e:l.drop k=l[k]::l.drop (k+1):=List.drop_eq_getElem_cons h;have n2:=pm.nodup_iff.mpr nd;have m2:=pm.mem_iff.mpr hx;rw[e]at n2 m2;rw[List.take_succ_eq_append_getElem h,<-Yp,e];exact DE n2 m2
  ·rw[List.drop_eq_nil_of_le h,List.take_of_length_le h,List.drop_eq_nil_of_le (Nat.le_succ_of_le h),List.take_of_length_le (Nat.le_succ_of_le h)]
def Flat(ts:aR)(os:aT):Prop:=os.length+pX ts os=ts.length+2
structure FC(ts:aR)(os:aT):Prop where
 flat:Flat ts os
 conn:ID ts os
theorem yF{f:Nat->Nat}{N:Nat}(m:fQ f N):(cD f N).flatten.Perm (ZR N):=by
 have one:=λ{x:Nat}(hx:x<N)=>tQ m _ (ZR N) (ZA _) (λz hz=>Zs.mp hz) x (Zs.mpr hx);have mem:=λ(d:List Nat) (hd:d∈cD f N)=>qA m _ (ZR N) (ZA _) (λz hz=>Zs.mp hz) d hd;have lt:∀d∈cD f N,∀x∈d,x<N:=λd hd x hx=>by
  obtain⟨e,he,rfl⟩:=mem d hd;exact jW m (Zs.mp he) x hx
 refine(List.perm_ext_iff_of_nodup ?_ ZC).mpr λx=>?_
 ·rw[List.nodup_iff_pairwise_ne,List.pairwise_flatten];refine⟨λd hd=>?_,?_⟩
  ·obtain⟨e,he,rfl⟩:=mem d hd;have:=iV m (Zs.mp he)
   rwa [List.nodup_iff_pairwise_ne]at this
  ·rw[List.pairwise_iff_getElem];intro i j hi hj hij x hx y hy e;subst e;obtain⟨k,d,_,_,h3⟩:=one (lt _ (Zp hi) x hx);have e1:=h3 i _ (Zz hi) hx;have e2:=h3 j _ (Zz hj) hy
   lia
 ·rw[List.mem_flatten,Zs];constructor
  ·rintro⟨d,hd,hx⟩;exact lt d hd x hx
  ·intro hx;obtain⟨k,d,h1,h2,_⟩:=one hx;exact⟨d,Zg h1,h2⟩
def su(l:List Nat)(f:Nat->Int):Int:=(l.map f).sum
theorem jC(f:Nat->Int):su [] f=0:=rfl
theorem aZ(x:Nat)(l:List Nat)(f:Nat->Int):su (x::l) f=f x+su l f:=by unfold su;rw[ZI,List.sum_cons]
theorem mR(f:Nat->Int):∀a b:List Nat,su (a++b) f=su a f+su b f
 |[],b=>by rw[jC,List.nil_append];lia
 |x::a,b=>by rw[List.cons_append,aZ,aZ,mR f a b];lia
theorem iJ{f:Nat->Int}{a b:List Nat}(h:a.Perm b):su a f=su b f:=by
 induction h with
 |nil=>rfl
 |cons x _ ih=>rw[aZ,aZ,ih]
 |swap x y l=>rw[aZ,aZ,aZ,aZ];lia
 |trans _ _ h1 h2=>exact h1.trans h2
theorem fY{f g:Nat->Int}:∀{l:List Nat},(∀x∈l,f x=g x)->su l f=su l g
 |[],_=>rfl
 |x::l,h=>by rw[aZ,aZ,h x Zd,fY λy hy=>h y (Zw _ hy)]
theorem pD(f g:Nat->Int):∀l:List Nat,su l (λx=>f x+g x)=su l f+su l g
 |[]=>rfl
 |x::l=>by rw[aZ,aZ,aZ,pD f g l];lia
theorem mQ(f g:Nat->Int):∀l:List Nat,su l (λx=>f x-g x)=su l f-su l g
 |[]=>rfl
 |x::l=>by rw[aZ,aZ,aZ,mQ f g l];lia
theorem uK(k:Int):∀l:List Nat,su l (λ_=>k)=k*(l.length:Int)
 |[]=>by rw[jC];simp
 |x::l=>by rw[aZ,uK k l,Yq,Int.natCast_add,Int.mul_add];simp;lia
theorem w9(f:Nat->Int)(φ:Nat->Nat)(l:List Nat):su (l.map φ) f=su l λx=>f (φ x):=by unfold su;rw[Yn];rfl
theorem kE{e:Nat}(A:Int):∀{l:List Nat},l.Nodup->su l (λz=>if z=e then A else 0)=if e∈l then A else 0
 |[],_=>by rw[jC];simp
 |x::l,nd=>by
  have h:=List.nodup_cons.mp nd;rw[aZ,kE A h.2];by_cases q:x=e
  ·subst q;simp[h.1]
  ·have q':¬e=x:=λz=>q z.symm;simp[q,q']
theorem rQ{f:Nat->Int}:∀{l:List Nat},(∀x∈l,0<=f x)->0<=su l f
 |[],_=>by rw[jC];exact Int.le_refl _
 |x::l,h=>by
  have h1:=h x Zd;have h2:=rQ (l:=l) λy hy=>h y (Zw _ hy);rw[aZ];lia
theorem w8{f:Nat->Int}:∀{l:List Nat}{x:Nat},(∀x∈l,0<=f x)->x∈l->f x<=su l f
 |y::l,x,h,hx=>by
  rw[aZ];have h1:=h y Zd;have h2:=rQ (l:=l) λz hz=>h z (Zw _ hz);rcases Zn.mp hx with rfl | hx
  ·lia
  ·have:=w8 (l:=l) (λz hz=>h z (Zw _ hz)) hx
   lia
theorem CS{f:Nat->Int}:∀{l:List Nat}{x y:Nat},(∀x∈l,0<=f x)->x∈l->y∈l->x≠y->f x+f y<=su l f
 |z::l,x,y,h,hx,hy,hne=>by
  rw[aZ];have h1:=h z Zd;have h':∀w∈l,0<=f w:=λw hw=>h w (Zw _ hw);rcases Zn.mp hx with ex | hx1
  ·subst ex;rcases Zn.mp hy with ey | hy1
   ·exact Yg ey.symm hne
   ·have:=w8 h' hy1;lia
  ·rcases Zn.mp hy with ey | hy1
   ·subst ey;have:=w8 h' hx1;lia
   ·have:=CS h' hx1 hy1 hne;lia
theorem sW(f:Nat->Int):∀ll:List (List Nat),su ll.flatten f=(ll.map λd=>su d f).sum
 |[]=>rfl
 |d::ll=>by rw[List.flatten_cons,mR,sW f ll,ZI,List.sum_cons]
theorem lG{a b:List Nat}(ha:a.Nodup)(hb:b.Nodup)(h:∀x,x∈a↔x∈b):a.Perm b:=(List.perm_ext_iff_of_nodup ha hb).mpr h
theorem DV(T:Nat):((ZR (2*T)).map oth).Perm (ZR (2*T)):=by
 refine lG ?_ ZC λx=>?_
 ·rw[List.Nodup,List.pairwise_map];exact List.Pairwise.imp (λh z=>h (iO z)) (ZC (n:=2*T))
 ·rw[Zh,Zs];constructor
  ·rintro⟨y,hy,rfl⟩;exact bF (Zs.mp hy)
  ·intro h;exact⟨oth x,Zs.mpr (bF h),dF x⟩
theorem qF:∀(ll:List (List Nat)),(∀i,(row ll i).Nodup)->(∀i j x,x∈row ll i->x∈row ll j->i=j)->ll.flatten.Nodup
 |[],_,_=>List.nodup_nil
 |d::ll,h1,h2=>by
  rw[List.flatten_cons,List.nodup_append];refine⟨h1 0,qF ll (λi=>h1 (i+1)) (λi j x hi hj=>?_),λa ha b hb e=>?_⟩
  ·have:=h2 (i+1) (j+1) x hi hj;lia
  ·subst e;obtain⟨r,hr,hx⟩:=List.mem_flatten.mp hb;obtain⟨i,hi,rfl⟩:=Yd.mp hr;have:a∈row (d::ll) (i+1):=by
    unfold row;rw[Zv,List.getElem?_cons_succ,Zz hi];exact hx
   have:=h2 0 (i+1) a ha this
   lia
theorem A8{ts:aR}{os:aT}(g:Good ts os):os.flatten.Perm (ZR (2*ts.length)):=by
 refine lG (qF os g.g.nd λi j x hi hj=>?_) ZC λx=>?_
 ·rw[<-(g.g.ends i x hi).2,<-(g.g.ends j x hj).2]
 ·rw[Zs,List.mem_flatten];constructor
  ·rintro⟨r,hr,hx⟩;obtain⟨i,hi,rfl⟩:=Yd.mp hr;exact(g.g.ends i x (by unfold row;rw[Zv,Zz hi];exact hx)).1
  ·intro h;have q:=g.g.has x h;refine⟨os[place ts x],Zp q.1,?_⟩;have q2:=q.2;unfold row at q2;rw[Zv,Zz q.1]at q2;exact q2
def trm(c l:Nat->Int)(e:Nat):Int:=2-c e+l e-l (oth e)
noncomputable abbrev lls(ts:aR)(os:aT):List (List Nat):=cD (behind ts os) (2*ts.length)
structure Plc(ts:aR)(os:aT)(c:Nat->Int):Prop where
 lo:∀e,e<2*ts.length->1<=c e
 hi:∀e,e<2*ts.length->c e<=4
 at_:∀p,p<os.length->su (row os p) (λe=>c (oth e))=4
structure Shp(ts:aR)(os:aT)(o:Nat)(c l:Nat->Int):Prop where
 pl:Plc ts os c
 pos:∀e,e<2*ts.length->0<=l e
 ld:∀(k:Nat) (d:List Nat),(lls ts os)[k]?=some d->su d (trm c l)=if k=o then -4 else 4
theorem pC:∀(xs:List Int),(∀x∈xs,x=4)->xs.sum=4*(xs.length:Int)
 |[],_=>rfl
 |x::xs,h=>by
  rw[List.sum_cons,h x Zd,pC xs λy hy=>h y (Zw _ hy),Yq]
  lia
theorem yT:∀(xs:List Int) (o:Nat),o<xs.length->(∀k,k<xs.length->k≠o->xs.getD k 0=4)->xs.sum=4*(xs.length:Int)-4+xs.getD o 0
 |[],o,h,_=>by simp at h
 |x::xs,0,h,q=>by
  rw[List.sum_cons,pC xs,Yq]
  ·simp;lia
  ·intro y hy;obtain⟨i,hi,rfl⟩:=Yd.mp hy;have:=q (i+1) (by simp;lia) (by lia);rw[Zv,List.getElem?_cons_succ,Zz hi]at this;exact this
 |x::xs,o+1,h,q=>by
  have h0:=q 0 (by simp) (by lia);have e0:x=4:=by simpa using h0
  have ih:=yT xs o (by simpa using h) λk hk hne=>by
   have:=q (k+1) (by simp;lia) (by lia);simpa using this
  rw[List.sum_cons,ih,Yq,e0];simp
  lia
theorem qH{z e:Nat}:oth z=e↔z=oth e:=⟨λh=>by rw[<-h,dF],λh=>by rw[h,dF]⟩
theorem mX(e:Nat):oth e≠e:=by unfold oth;split<;>lia
theorem uJ{c l l':Nat->Int}{e:Nat}{x y:Int}{d:List Nat}(nd:d.Nodup)(h:∀z,l' z=l z+(if z=e then x else 0)+(if z=oth e then y else 0)):su d (trm c l')=su d (trm c l)+(if e∈d then x-y else 0)-(if oth e∈d then x-y else 0):=by
 have e1:∀z,trm c l' z=(trm c l z+(if z=e then x-y else 0))-(if z=oth e then x-y else 0):=λz=>by
  unfold trm;rw[h z,h (oth z)];have a1:(oth z=e)=(z=oth e):=propext qH;have a2:(oth z=oth e)=(z=e):=propext ⟨iO,λh=>by rw[h]⟩;simp only[a1,a2];by_cases q:z=e
  ·have q':¬z=oth e:=λz'=>mX e (by rw[<-z',q]);simp only[Yb q,Ya q']
   lia
  ·by_cases q':z=oth e
   ·simp only[Ya q,Yb q'];lia
   ·simp only[Ya q,Ya q'];lia
 rw[fY λz _=>e1 z,mQ,pD,kE _ nd,kE _ nd]
theorem xB{c c' l:Nat->Int}{a b:Nat}{d:List Nat}(nd:d.Nodup)(h:∀z,c' z=c z-(if z=a then 1 else 0)+(if z=b then 1 else 0)):su d (trm c' l)=su d (trm c l)+(if a∈d then 1 else 0)-(if b∈d then 1 else 0):=by
 have e1:∀z,trm c' l z=(trm c l z+(if z=a then 1 else 0))-(if z=b then 1 else 0):=λz=>by
  unfold trm;rw[h z]
  lia
 rw[fY λz _=>e1 z,mQ,pD,kE _ nd,kE _ nd]
theorem dS{ts:aR}{os:aT}(g:Good ts os){k:Nat}{d:List Nat}(h:(lls ts os)[k]?=some d):d.Nodup/\(∀x∈d,x<2*ts.length)/\(∀x,x<2*ts.length->(behind ts os x∈d↔x∈d))/\d≠[]:=by
 have m:=g.maps;obtain⟨e,he,rfl⟩:=qA m _ (ZR (2*ts.length)) (ZA _) (λz hz=>Zs.mp hz) d (Zg h);have he:=Zs.mp he;refine⟨iV m he,jW m he,λx hx=>?_,λz=>?_⟩
 ·have h1:behind ts os x∈aO (behind ts os) x:=(fJ m hx).mpr ⟨1,rfl⟩;have hb:=m.lt x hx;constructor
  ·intro q;exact gG m he q (nC m hx h1)
  ·intro q;exact gG m he q h1
 ·have:=mS m he;rw[z]at this;cases this
theorem AN{ts:aR}{os:aT}{o:Nat}{c l l':Nat->Int}{e:Nat}(g:Good ts os)(s:Shp ts os o c l)(h:∀z,l' z=l z+(if z=e then 1 else 0)+(if z=oth e then 1 else 0)):Shp ts os o c l':=by
 refine⟨s.pl,λz hz=>?_,λk d hk=>?_⟩
 ·have:=s.pos z hz;rw[h z];split<;>split<;>lia
 ·rw[uJ (dS g hk).1 h];have:=s.ld k d hk;simp only[Int.sub_self,ite_self]
  lia
theorem sU{ts:aR}{os:aT}{o:Nat}{c c' l l':Nat->Int}{e a:Nat}{b:Int}(g:Good ts os)(s:Shp ts os o c l)(he:e<2*ts.length)(ha:a<2*ts.length)(hb:behind ts os a=e)(h1:1<c (oth e))
  (hc:∀z,c' z=c z-(if z=oth e then 1 else 0)+(if z=a then 1 else 0)) (hl:∀z,l' z=l z+(if z=e then 1-b else 0)+(if z=oth e then -b else 0)) (hb0:b=if 0<l (oth e) then 1 else 0):Shp ts os o c' l':=by
 have ho:=bF he;have hoa:=bF ha;have pe:place ts e=place ts (oth a):=by rw[<-hb];exact(g.behind ha).2
 have in1:=g.g.has e he;have in2:=g.g.has (oth a) hoa;rw[<-pe]at in2;refine⟨⟨λz hz=>?_,λz hz=>?_,λp hp=>?_⟩,λz hz=>?_,λk d hk=>?_⟩
 ·have:=s.pl.lo z hz;rw[hc z];by_cases q:z=oth e
  ·subst q;rw[Yb rfl];split<;>lia
  ·rw[Ya q];split<;>lia
 ·have:=s.pl.hi z hz;rw[hc z];by_cases q:z=a
  ·by_cases q2:z=oth e
   ·rw[Yb q,Yb q2];lia
   ·rw[Yb q,Ya q2];have hs:=s.pl.at_ _ in1.1;have t:=CS (f:=λe=>c (oth e)) (l:=row os (place ts e)) (x:=e) (y:=oth a) (λx hx=>by
     have:=s.pl.lo (oth x) (bF (g.g.ends _ x hx).1);show 0<=c (oth x)
     lia) in1.2 in2.2 (λz'=>q2 (by rw[q,z',dF]))
    rw[hs,dF]at t;rw[q]
    lia
  ·rw[Ya q];split<;>lia
 ·have e1:∀z,c' (oth z)=(c (oth z)-(if z=e then 1 else 0))+(if z=oth a then 1 else 0):=λz=>by
   rw[hc (oth z)];have a1:(oth z=oth e)=(z=e):=propext ⟨iO,λh=>by rw[h]⟩;have a2:(oth z=a)=(z=oth a):=propext qH;simp only[a1,a2]
  rw[fY λz _=>e1 z,pD,mQ,kE _ (g.g.nd p),kE _ (g.g.nd p),s.pl.at_ p hp];have:(e∈row os p)=(oth a∈row os p):=propext ⟨λh=>by
   have:=(g.g.ends p e h).2;rw[<-this];exact in2.2,λh=>by
   have:=(g.g.ends p _ h).2;rw[<-this,<-pe];exact in1.2⟩
  simp only[this]
  lia
 ·have h0:=s.pos z hz;rw[hl z];by_cases q:z=oth e
  ·have q':¬z=e:=λz'=>mX e (by rw[<-q,z']);rw[Ya q',Yb q];rw[q]at h0 ⊢;rw[hb0];split<;>lia
  ·rw[Ya q,hb0];by_cases q2:z=e
   ·rw[Yb q2];split<;>lia
   ·rw[Ya q2];lia
 ·have L:=dS g hk;have k1:=xB (l:=l') L.1 hc;have k2:=uJ (c:=c) L.1 hl;rw[k1,k2];have k3:=s.ld k d hk;have k4:(a∈d)=(e∈d):=propext (by rw[<-hb];exact(L.2.2.1 a ha).symm);have k5:(1-b - -b)=1:=by lia
  simp only[k4,k5]
  lia
def Num(ts:aR)(os:aT)(nm:Nat->Nat):Prop:=∀(k:Nat) (d:List Nat) (x:Nat),(lls ts os)[k]?=some d->x∈d->nm x=k
theorem LG{ts:aR}{os:aT}(g:Good ts os):∃nm,Num ts os nm:=by
 have h:∀x:Nat,∃k:Nat,∀(j:Nat) (d:List Nat),(lls ts os)[j]?=some d->x∈d->j=k:=λx=>by
  by_cases hx:x<2*ts.length
  ·obtain⟨k,_,_,_,u⟩:=tQ g.maps _ _ (ZA _) (λy hy=>Zs.mp hy) x (Zs.mpr hx);exact⟨k,u⟩
  ·exact⟨0,λj d hj hd=>Yg ((dS g hj).2.1 x hd) hx⟩
 exact⟨λx=>Classical.choose (h x),λk d x hk hx=>(Classical.choose_spec (h x) k d hk hx).symm⟩
theorem EJ{ts:aR}{os:aT}(g:Good ts os){k k':Nat}{d d':List Nat}{x:Nat}(h:(lls ts os)[k]?=some d)(hx:x∈d)(h':(lls ts os)[k']?=some d')(hx':x∈d'):k=k':=by
 obtain⟨nm,n⟩:=LG g;rw[<-n k d x h hx,<-n k' d' x h' hx']
theorem HF{ts:aR}{os:aT}(g:Good ts os):(lls ts os).length<=2*ts.length:=by
 have:=tR g.maps _ (ZR (2*ts.length)) (ZA _) (λz hz=>Zs.mp hz);rw[Yj]at this;exact this
end MM
namespace L2
open PySem PyProof.Rows
theorem HH{n j:Nat}(h:j<n):ixN n (j:Int)=some j:=by
 unfold ixN;rw[Yb (by lia),Yb (by lia)];simp
end L2
namespace MM
theorem vL{α:Type}{l:List α}{i j:Nat}{x d:α}(h:i≠j):(l.set i x).getD j d=l.getD j d:=by
 rw[Zv,Zv,ZJ h]
theorem rF{α:Type}{l:List α}{i:Nat}{x d:α}(h:i<l.length):(l.set i x).getD i d=x:=by
 rw[Zv,ZK h];rfl
end MM
namespace L2
open PySem PyProof.Rows
def eA(H:Hp)(w:Addr)(n:Nat)(ts:MM.aR)(os:MM.aT):Prop:=∃tA oA:Addr,H w=some (.tup [vn n,.ref tA,.ref oA])/\nJ H tA ts/\qT H oA os
theorem aJ.web{H H':Hp}(g:aJ H H'){w:Addr}{n:Nat}{ts:MM.aR}{os:MM.aT}(h:eA H w n ts os):eA H' w n ts os:=by
 obtain⟨tA,oA,h1,h2,h3⟩:=h;exact⟨tA,oA,g _ _ h1,g.ts h2,g.os h3⟩
end L2
namespace K38
open PySem L2 PyProof.Rows
theorem lN(T:Txt K mg t):Ok P w base T 24 1 IJ:=by
 left
 obtain⟨e,rfl,q⟩:=h;refine⟨_,(by exists KP,0),?_⟩;have e1:Builtin.bitXor (e:Int) 1=((MM.oth e:Nat):Int):=by
  rw[PyProof.Rows.bitXor_and,PyProof.Rows.bitAnd_m1];unfold MM.oth;split<;>lia
 show Q (.int (Builtin.bitXor (e:Int) 1)) H;rw[e1];exact q
def CW:Sp:=λvs H Q _=>∃(wa:Addr) (n:Nat) (ts:MM.aR) (os:MM.aT) (e:Nat),vs=[.ref wa,vn e]/\eA H wa n ts os/\e<2*ts.length/\Q (vn (MM.place ts e)) H
theorem D4(T:Txt K mg t):Ok P w base T 25 1 CW:=by
 left
 obtain⟨wa,n,ts,os,e,rfl,⟨tA,oA,hw,ht,ho⟩,he,q⟩:=h;refine⟨_,(by exists jH,jH,aL,0,bM,1,1),?_⟩;obtain⟨xs,r,h1,h2,h3,h4⟩:=ht.item (i:=e / 2) (by lia);refine(bS _ (.ref tA) (aH hw) rfl ⟨by decide,by decide⟩ (.inl (aN xs _ (aB h1) (by show atI xs ((e:Int) / 2)=_;rw[show(e:Int) / 2=((e / 2:Nat):Int) by lia];exact h3) ?_)));refine⟨(by show(0:Int)<2;decide),.inr (.inl (aN _ _ (aH h4) (z9 e) ?_))⟩;unfold MM.place at q;split
 ·rename_i h;rw[Yb h]at q;exact q
 ·rename_i h;rw[Ya h]at q;exact q
def J3:Sp:=λvs H Q _=>∃(wa:Addr) (n:Nat) (ts:MM.aR) (os:MM.aT) (e:Nat),vs=[.ref wa,vn e]/\eA H wa n ts os/\e<2*ts.length/\Q (vn (MM.place ts (MM.oth e))) H
theorem zF(T:Txt K mg t):Ok P w base T 26 2 J3:=by
 left
 obtain⟨wa,n,ts,os,e,rfl,hw,he,q⟩:=h;refine⟨_,(by exists D4,0,lN,1),?_⟩;exact(wL e rfl wa n ts os (MM.oth e) rfl hw ⟨ MM.bF he,q⟩)
def C6:Sp:=λvs H Q _=>∃(wa:Addr) (n:Nat) (ts:MM.aR) (os:MM.aT) (e:Nat),vs=[.ref wa,vn e]/\eA H wa n ts os/\MM.Good ts os/\e<2*ts.length/\Q (vn (MM.behind ts os e)) H
theorem mZ(T:Txt K mg t):Ok P w base T 27 3 C6:=by
 left
 obtain⟨wa,n,ts,os,e,rfl,hw,g,he,q⟩:=h;refine⟨_,(by exists 2,jH,aL,0,zF,0,1,aG,2,fS YL PySem.F.slot_list_index PySem.F.type_list_index lQ ?_ ?_,2,lN,1),?_⟩;obtain⟨tA,oA,hw1,ht,ho⟩:=id hw;have hp:=g.g.has (MM.oth e) (MM.bF he);obtain⟨xs,r,h1,h2,h3,h4⟩:=ho.item hp.1;refine(aN _ (.ref oA) (aH hw1) rfl (rK wa n ts os e rfl hw he (.inl (aN xs _ (aB h1) h3 ?_))));exact(rL (.inl ⟨rfl,_,aB h4⟩) e rfl _ _ rfl h4 hp.2 (aN _ _ (aB h4) (z8 hp.2) q))
def xD:Sp:=λvs H Q _=>∃(wa:Addr) (n:Nat) (ts:MM.aR) (os:MM.aT) (e:Nat),vs=[.ref wa,vn e]/\eA H wa n ts os/\MM.Good ts os/\ts.length<=500/\e<2*ts.length/\∀r,H r=none->Q (.ref r) (upd H r (.lst (vns (MM.aO (MM.behind ts os) e))))
theorem u4(T:Txt K mg t):Ok P w base T 29 4 xD:=by
 left
 obtain⟨wa,n,ts,os,e,rfl,hw,g,h500,he,q⟩:=h;refine⟨_,(by exists 2,1,3,mZ,0,1,eO,3,1,2,3,3,mZ,0,3,2),?_⟩;have m:=g.maps;obtain⟨rd,rdN⟩:=MM.dM m he;refine⟨(by show 1<=ZW;decide),λla hla=>?_⟩;have g1:=aC hla (.lst [vn e]);refine(cN wa n ts os e rfl (g1.web hw) g he ?_);generalize hf:MM.behind ts os=f at m rd rdN q;refine⟨λk σ H4=>∃j,k=MM.per f e-j/\0<j/\j<=MM.per f e/\σ=[some (.ref wa),some (vn e),some (.ref la),some (vn (MM.iter f j e))]/\H4=upd H la (.lst (vns (MM.path f e j))),(bP _ 1 rfl Nat.one_pos rd.1 rfl rfl),?_⟩;rintro k σ H4 ⟨j,rfl,hj0,hj,rfl,rfl⟩;by_cases hc:MM.iter f j e=e
 ·refine iFb (by rw[hc];simp) ?_;have ej:j=MM.per f e:=by
   rcases Xw j (MM.per f e) with z | z
   ·exact Yg hc (rd.2.2 j hj0 z)
   ·lia
  subst ej;exact(q la hla)
 ·refine iTb (by simp;lia) ?_;have hjp:=MM.pG rd hj0 hj hc;refine⟨_,λσ' H' h=>h,?_⟩;refine(kU (.inl ⟨rfl,_,aB aA⟩) _ aA ?_ ?_)
  ·rw[Zq,MM.jE];exact Xj (by lia:j<=1000) (by decide)
  have e7:vns (MM.path f e j)++[vn (MM.iter f j e)]=vns (MM.path f e (j+1)):=by rw[MM.jS,oG];rfl
  rw[e7,eZ];refine(cN wa n ts os (MM.iter f j e) rfl ((aC hla _).web hw) g (MM.cZ m he j) ?_);rw[hf];exact(uF (MM.per f e-(j+1)) (by lia) (j+1) rfl (by lia) (by lia) rfl rfl)
end K38
namespace MM
theorem vN{p:Nat->Bool}{N i:Nat}(hi:i<N)(h0:∀j,j<i->p j=false)(h1:p i=true):∃r,(ZR N).filter p=i::r:=by
 have e:N=(i+1)+(N-(i+1)):=by omega
 rw[e,List.range_add,ZH,List.filter_append,List.filter_append];have e1:(ZR i).filter p=[]:=by
  rw[List.filter_eq_nil_iff];intro a ha;rw[h0 a (Zs.mp ha)];exact YO
 rw[e1,List.nil_append,List.filter_cons,Yb h1];exact⟨_,rfl⟩
end MM
namespace K38
open PySem L2 PyProof.Rows
def F9:Sp:=λvs H Q _=>∃(wa:Addr) (n:Nat) (ts:MM.aR) (os:MM.aT),vs=[.ref wa]/\eA H wa n ts os/\MM.Good ts os/\ts.length<=500 /\
 ∀(r:Addr) (rr:List Addr) (H':Hp),aJ H H'->eP H H' r rr (MM.cD (MM.behind ts os) (2*ts.length))->Q (.ref r) H'
theorem lP(T:Txt K mg t):Ok P w base T 28 5 F9:=by
 refine T.okN 28 (scm:eE ["web","told","seen","first","land","end"] _ _) (λvs H Q E h=>?_) ?_
 ·obtain⟨wa,n,ts,os,rfl,_⟩:=h;rfl
 intro cdv A outer s H vs Q E hr h nd X;obtain⟨wa,n,ts,os,rfl,hw,g,h500,q⟩:=h;refine⟨_,(by exists 1,(nO 2 ["end"] [none]),aL,0,0,aL,0,3,bR ?_ (λ_=>rfl),aG,2,3,4,u4,0,3,aW ?_,4,5,cH ?_ ?_,dB ?_ ?_ set_list,2,5,1,4,1),?_⟩;have m:=g.maps;obtain⟨tA,oA,hw1,ht,ho⟩:=id hw;obtain⟨tr,tr1,tr2,tr3⟩:=id ht;have eN:(2:Int)*((tr.map V.ref).length:Nat)=((2*ts.length:Nat):Int):=by rw[Zq,tr2];push_cast;rfl
 refine⟨(by show 0<=ZW;decide),λD1 hD1=>?_⟩;have g1:=aC hD1 (.lst []);refine(eQ _ (.ref tA) (aH (g1 _ _ hw1)) rfl tA _ rfl (.inl (aB (g1 _ _ tr1))) (.inl ⟨by decide,by decide⟩) (cR _ rfl ?_ ?_ (λD2 hD2=>?_)))
 ·show -(2 ^ 62)<=(2:Int)*((tr.map V.ref).length:Nat);lia
 ·show(2:Int)*((tr.map V.ref).length:Nat)<2 ^ 62;rw[eN];lia
 have eN2:((2:Int)*((tr.map V.ref).length:Nat)).toNat=2*ts.length:=by rw[eN];exact Int.toNat_natCast _
 generalize hf:MM.behind ts os=f at m q;generalize hN:2*ts.length=N at m q eN eN2;refine comp_map N (λi ys H'=>ys=(ZF i false).map V.bl/\H'=upd (upd H D1 (.lst [])) D2 (.lst ys)) ⟨rfl,rfl⟩ ?_ ?_
 ·rintro i ys H' hi ⟨rfl,rfl⟩;refine⟨(by show i<((2:Int)*((tr.map V.ref).length:Nat)).toNat;lia),?_⟩;rintro x H'' ⟨rfl,rfl⟩;refine(fR ((Fills.refl _).set _ rfl) aA ?_ ?_ ?_)
  ·rw[Zq,List.length_replicate];exact Xk hi (Xz (by lia:N<=1000) (by decide))
  ·rw[List.replicate_succ',Zt];rfl
  ·rw[eZ]
 rintro ys H2 ⟨rfl,rfl⟩;refine⟨(by show((2:Int)*((tr.map V.ref).length:Nat)).toNat<=N;lia),?_⟩;have g2':=aC hD2 (.lst ((ZF N false).map V.bl));have g2:=g1.trans g2';have nD:D1≠D2:=aI aA hD2;have n0:eP H (upd (upd H D1 (.lst [])) D2 (.lst ((ZF N false).map V.bl))) D1 [] []:=⟨g2' _ _ aA,rfl,λi l h=>by simp at h,List.nodup_nil,by simp,hD1,λx hx=>by cases hx⟩
 have e0:(upd (upd H D1 (.lst [])) D2 (.lst ((ZF N false).map V.bl))) D2=some (.lst ((ZF N false).map V.bl)):=aA;have hD2H:H D2=none:=g1.free hD2;generalize upd (upd H D1 (.lst [])) D2 (.lst ((ZF N false).map V.bl))=H2 at g2 n0 e0;clear g2' hD2 g1;refine(eQ _ (.ref tA) (aH (g2 _ _ hw1)) rfl tA _ rfl (.inl (aB (g2 _ _ tr1))) (.inl ⟨by decide,by decide⟩) (cR _ rfl ?_ ?_ ?_))
 ·show -(2 ^ 62)<=(2:Int)*((tr.map V.ref).length:Nat);lia
 ·show(2:Int)*((tr.map V.ref).length:Nat)<2 ^ 62;rw[eN];lia
 refine bV (lo:=0) (n:=((2:Int)*((tr.map V.ref).length:Nat)).toNat) (λi σ H'=>∃(rr:List Addr) (done:MM.aT) (sn:List Bool) (o3 o4 o5:Option V),σ=[some (.ref wa),some (.ref D1),some (.ref D2),o3,o4,o5]/\aJ H H'/\eP H H' D1 rr done/\D2∉rr /\
   H' D2=some (.lst (sn.map V.bl))/\sn.length=N/\done++MM.lf f ((ZR N).filter λx=>!sn.getD x false)=MM.cD f N/\∀j,j<i->sn.getD j false=true)
  (fX ([]) ([]) (ZF N false) none none none rfl g2 n0 (fR (by simp) e0 (by simp) ?_ (λj hj=>Yg hj (Nat.not_lt_zero _)))) ?_ ?_
 ·have e:(ZR N).filter (λx=>!(ZF N false).getD x false)=ZR N:=by
   rw[List.filter_eq_self];intro a ha;have:=Zs.mp ha;simp[Zv,List.getElem?_replicate,this]
  rw[e];rfl
 ·rintro i σ H3 hi ⟨rr,done,sn,o3,o4,o5,rfl,g3,n3,dr,es,sl,eq,hs⟩;rw[eN2]at hi;have hi0:(0:Int)+(i:Int)=(i:Int):=Int.zero_add _;rw[hi0];have hat:atI (sn.map V.bl) (i:Int)=some (.bl (sn.getD i false)):=bB (by rw[Zk,Zv,Zz (show i<sn.length by lia)];rfl);refine(sT _ _ (aB es) hat _ rfl ?_);cases hb:sn.getD i false with
  |true =>
   refine iFb rfl ?_;refine(fX rr done sn _ _ _ rfl g3 n3 (fR dr es sl eq (λj hj=>?_)));rcases Xw j i with z | z
   ·exact hs j z
   ·have:j=i:=by lia
    subst this;exact hb
  |false =>
   refine iTb rfl ?_;refine(cN wa n ts os i rfl (g3.web hw) g h500 ⟨ by lia,λla hla=>?_⟩);rw[hf];have gl:=aC hla (.lst (vns (MM.aO f i)));have lanD1:la≠D1:=(aI n3.at_ hla).symm;have lanD2:la≠D2:=(aI es hla).symm;have lar:la∉rr:=λz=>by obtain⟨l,hl⟩:=n3.ex z;rw[hla]at hl;cases hl
   have hll:=MM.jW m hi;have lan:=MM.iV m hi;have lal:=(MM.EM m hi).2;have selfl:=MM.mS m hi;refine⟨⟨_,aB aA⟩,cV (xs:=vns (MM.aO f i)) (λj σ H'=>∃(sn':List Bool) (o5:Option V),σ=[some (.ref wa),some (.ref D1),some (.ref D2),some (vn i),some (.ref la),o5]/\H'=upd (upd H3 la (.lst (vns (MM.aO f i)))) D2 (.lst (sn'.map V.bl))/\sn'.length=N /\
     ∀x,sn'.getD x false=(sn.getD x false||decide (x∈(MM.aO f i).take j)))
    (bS sn _ rfl ?_ sl (λx=>by simp)) (λj σ H' _ h=>by obtain⟨sn',o,_,rfl,_⟩:=h;exact aB (by rw[aF lanD2];exact aA)) ?_ ?_⟩
   ·funext b
    by_cases hb':b=D2
    ·subst hb';rw[aA];exact gl _ _ es
    ·rw[aF hb']
   ·rintro j x σ H' hx ⟨sn',o,rfl,rfl,sl',hsn⟩;obtain⟨hj,ej⟩:=Zj.mp hx;rw[Zq]at hj;have ex:x=vn (MM.aO f i)[j]:=by rw[<-ej];simp
    subst ex;have hxN:=hll _ (Zp hj);refine(eQ _ ((MM.aO f i)[j]) aA (HH (by rw[Zq];lia)) (sn'.set (MM.aO f i)[j] true) _ rfl ?_ (by rw[ZP];exact sl') (λy=>?_))
    ·rw[eZ,ZG]
    ·have hmem:y∈(MM.aO f i).take (j+1)↔y∈(MM.aO f i).take j\/y=(MM.aO f i)[j]:=by
      rw[List.take_add_one,Zz hj,Zf];simp
     by_cases hy:(MM.aO f i)[j]=y
     ·subst hy;rw[MM.rF (by lia)];simp[hmem]
     ·rw[MM.vL hy,hsn y];have:(y∈(MM.aO f i).take (j+1))=(y∈(MM.aO f i).take j):=by
       rw[eq_iff_iff,hmem];constructor
       ·rintro(z | z)
        ·exact z
        ·exact Yg z.symm hy
       ·exact .inl
      simp only[this]
   ·rintro σ H' ⟨sn',o,rfl,rfl,sl',hsn⟩;rw[Zq,Yw]at hsn;have n4:eP H (upd (upd H3 la (.lst (vns (MM.aO f i)))) D2 (.lst (sn'.map V.bl))) D1 rr done:=n3.keep λb u hb h=>by
     rw[aF (show b≠D2 by rcases hb with rfl | hb;exact nD;rintro rfl;exact dr hb)];exact gl _ _ h
    have g4:aJ H (upd (upd H3 la (.lst (vns (MM.aO f i)))) D2 (.lst (sn'.map V.bl))):=λb u h=>by rw[aF (aI h hD2H)];exact gl _ _ (g3 _ _ h)
    have la4:(upd (upd H3 la (.lst (vns (MM.aO f i)))) D2 (.lst (sn'.map V.bl))) la=some (.lst (vns (MM.aO f i))):=by rw[aF lanD2];exact aA
    have es4:(upd (upd H3 la (.lst (vns (MM.aO f i)))) D2 (.lst (sn'.map V.bl))) D2=some (.lst (sn'.map V.bl)):=aA;generalize upd (upd H3 la (.lst (vns (MM.aO f i)))) D2 (.lst (sn'.map V.bl))=H4 at n4 g4 la4 es4;have hdl:done.length<=N:=by
     have h1:=MM.tR m _ (ZR N) (ZA _) (λx hx=>Zs.mp hx);have h2:=congrArg List.length eq;rw[Zm]at h2;unfold MM.cD at h2;rw[Yj]at h1
     lia
    refine(kU (.inl ⟨rfl,_,aB n4.at_⟩) _ n4.at_ ?_ ?_)
    ·rw[Zq,n4.len];exact Xj (by lia:done.length<=1000) (by decide)
    have n5:=n4.push (x:=la) (l:=MM.aO f i) (H2:=upd H4 D1 (.lst (rr.map V.ref++[.ref la]))) (g3.free hla) lar lanD1 (by rw[aA,Zt];rfl) (by rw[aF lanD1];exact la4) λb u hb h=>by rw[aF (show b≠D1 from λz=>n4.nin (z▸hb))];exact h
    refine(fX (rr++[la]) (done++[MM.aO f i]) sn' _ _ _ rfl ?_ n5 (fR ?_ ?_ sl' ?_ (λj hj=>?_)))
    ·exact λb u h=>by rw[aF (aI h hD1)];exact g4 _ _ h
    ·intro z;rcases Zf.mp z with z | z
     ·exact dr z
     ·have:D2=la:=by simpa using z
      exact lanD2 this.symm
    ·rw[aF (Yh nD)];exact es4
    ·obtain⟨r,hr'⟩:=MM.vN (p:=λx=>!sn.getD x false) hi (λj hj=>by rw[hs j hj];rfl) (by rw[hb];rfl);have e2:(ZR N).filter (λx=>!sn'.getD x false)=(i::r).filter λx=>decide (x∉MM.aO f i):=by
      rw[<-hr',List.filter_filter];refine List.filter_congr λx _=>?_;rw[hsn x];by_cases z:x∈MM.aO f i<;>simp[z]
     rw[hr',MM.lW m (λx hx=>by rw[<-hr']at hx;exact Zs.mp (Yz.mp hx).1)]at eq;rw[Yp,e2];exact eq
    ·rw[hsn j];rcases Xw j i with z | z
     ·rw[hs j z];rfl
     ·have:j=i:=by lia
      subst this;simp[selfl]
 ·rintro σ H3 ⟨rr,done,sn,o3,o4,o5,rfl,g3,n3,dr,es,sl,eq,hs⟩;rw[eN2]at hs;have e:(ZR N).filter (λx=>!sn.getD x false)=[]:=by
   rw[List.filter_eq_nil_iff];intro a ha;rw[hs a (Zs.mp ha)];exact YO
  rw[e,MM.EK,List.append_nil]at eq;exact(q D1 rr H3 g3 (eq▸n3))
end K38
namespace MM
theorem vC{f:Nat->Nat}{N:Nat}(m:fQ f N){x:Nat}(hx:x<N):∃(k:Nat) (d:List Nat),(cD f N)[k]?=some d/\x∈d/\∀(j:Nat) (d':List Nat),(cD f N)[j]?=some d'->x∈d'->j=k :=
 tQ m _ _ (ZA _) (λy hy=>Zs.mp hy) x (Zs.mpr hx)
end MM
namespace L2
open PySem PyProof.Rows
end L2
namespace MM
end MM
namespace K38
open PySem L2 PyProof.Rows
noncomputable def flB(n:Nat)(ts:MM.aR)(os:MM.aT):Bool:=decide (V.int ((n:Int)+((MM.pX ts os:Nat):Int))=V.int ((ts.length:Nat)+2))
theorem vM{ts:MM.aR}{os:MM.aT}(f:MM.Flat ts os):flB os.length ts os=true:=by
 unfold flB;unfold MM.Flat at f;refine Ye ?_;congr 1
 lia
def J4:Sp:=λvs H Q _=>∃(wa:Addr) (n:Nat) (ts:MM.aR) (os:MM.aT),vs=[.ref wa]/\eA H wa n ts os/\MM.Good ts os/\ts.length<=500/\∀(H':Hp),aJ H H'->Q (.bl (flB n ts os)) H'
theorem zG(T:Txt K mg t):Ok P w base T 30 6 J4:=by
 left
 obtain⟨wa,n,ts,os,rfl,hw,g,h500,q⟩:=h;obtain⟨tA,oA,h1,h2,h3⟩:=id hw;obtain⟨tr,t1,t2,t3⟩:=id h2;refine⟨_,(by exists cI,aU,jH,0,lP,0,aU,jH,0),?_⟩;refine(.inr (.inl (aN _ _ (aH h1) rfl ?_)));refine(cW wa n ts os rfl hw g h500 (λr rr H' g1 n1=>(aN r _ rfl (.inl (aB n1.at_)) ?_)));refine(.inr (.inl (aN _ _ (aH (g1 _ _ h1)) rfl ?_)));refine(aN tA _ rfl (.inl (aB (g1 _ _ t1))) ?_);have:=q H' g1;unfold flB MM.pX at this;rw[<-n1.len,<-t2]at this;show Q (.bl (decide (V.int _=V.int _))) H';simpa only[Zq] using this
end K38
namespace AW
open MM
def cT(ts:aR):Ts:=ts.map λt=>((t.1:Int),(t.2:Int))
def cO(os:aT):Os:=os.map λo=>o.map λn:Nat=>(n:Int)
theorem fP(ts:aR):(cT ts).length=ts.length:=Zq _
theorem kO(os:aT):(cO os).length=os.length:=Zq _
theorem DL{ts:aR}{e:Nat}(h:e<2*ts.length):plc (cT ts) e=(place ts e:Int):=by
 have hi:e / 2<ts.length:=by lia
 unfold plc place cT;rw[Zk,Zz hi,Zv,Zz hi];simp only[Option.map_some,YM];split<;>rfl
theorem EG:∀{m:Int}{ts:Ts},InW m ts->∃tn:aR,ts=cT tn
 |_,[],_=>⟨[],rfl⟩
 |m,t::ts,h=>by
  obtain⟨tn,rfl⟩:=EG (ts:=ts) λx hx=>h x (Zw _ hx);obtain⟨⟨a,_⟩,b,_⟩:=h t Zd;exact⟨(t.1.toNat,t.2.toNat)::tn,by show t::cT tn=((t.1.toNat:Int),(t.2.toNat:Int))::cT tn;rw[Int.toNat_of_nonneg a,Int.toNat_of_nonneg b]⟩
theorem zH:∀{o:List Int},(∀e∈o,0<=e)->∃l:List Nat,o=l.map λn:Nat=>(n:Int)
 |[],_=>⟨[],rfl⟩
 |a::o,h=>by
  obtain⟨l,rfl⟩:=zH (o:=o) λe he=>h e (Zw _ he);exact⟨a.toNat::l,by rw[ZI,Int.toNat_of_nonneg (h a Zd)]⟩
theorem EH:∀{os:Os},(∀o∈os,∀e∈o,0<=e)->∃on:aT,os=cO on
 |[],_=>⟨[],rfl⟩
 |o::os,h=>by
  obtain⟨on,rfl⟩:=EH (os:=os) λx hx=>h x (Zw _ hx);obtain⟨l,rfl⟩:=zH (h o Zd);exact⟨l::on,rfl⟩
theorem HI{m:Int}{ts:Ts}(h1:1<=ts.length)(hw:InW m ts)(w:nS m ts){p:Int}(h0:0<=p)(hp:p<m):∃t∈ts,t.1=p\/t.2=p:=by
 apply ZS;intro z;have no:∀t∈ts,t.1≠p/\t.2≠p:=λt ht=>⟨λe=>z ⟨t,ht,.inl e⟩,λe=>z ⟨t,ht,.inr e⟩⟩
 have r:=w p h0 hp;by_cases e:p=0
 ·subst e;have only:∀q,Rch ts q->q=0:=λq hq=>by
   induction hq with
   |zero=>rfl
   |fwd ht _ ih=>exact Yg ih (no _ ht).1
   |bwd ht _ ih=>exact Yg ih (no _ ht).2
  have ht:=Zp (l:=ts) (n:=0) (by lia);have hin:=hw _ ht;exact(no _ ht).1 (only _ (w _ hin.1.1 hin.1.2))
 ·cases r with
  |zero=>exact e rfl
  |fwd ht _=>exact(no _ ht).2 rfl
  |bwd ht _=>exact(no _ ht).1 rfl
theorem zI{m:Int}{ts:Ts}{os:Os}(h:hJ m ts os):∃(tn:aR) (on:aT),ts=cT tn/\os=cO on/\m=(on.length:Int)/\Good tn on:=by
 obtain⟨⟨⟨m1,m2⟩,t1,t2⟩,hw,hl,hf,wh⟩:=h;obtain⟨tn,rfl⟩:=EG hw;obtain⟨on,rfl⟩:=EH (os:=os) λo ho e he=>by
  obtain⟨i,hi,rfl⟩:=Yd.mp ho;exact(iS.mp ((hf i _ (Zz hi)).2.mem_iff.mp he)).1.1
 rw[kO]at hl;rw[fP]at t1 t2;subst hl;have rw_:∀p,p<on.length->∃l,on[p]?=some l/\row on p=l/\(cO on)[p]?=some (l.map λn:Nat=>(n:Int)):=λp hp=>⟨on[p],Zz hp,by unfold row;rw[Zv,Zz hp];rfl,by unfold cO;rw[Zk,Zz hp];rfl⟩
 have off:∀p,¬p<on.length->row on p=[]:=λp hp=>by unfold row;rw[Zv,Zr (by lia)];rfl
 have mem:∀p e,p<on.length->(e∈row on p↔e<2*tn.length/\place tn e=p):=λp e hp=>by
  obtain⟨l,a,b,c⟩:=rw_ p hp;have:=(hf p _ c).2.mem_iff (a:=(e:Int));rw[iS,fP,Int.toNat_natCast,Zh]at this;rw[b];constructor
  ·intro he;obtain⟨⟨_,q1⟩,q2⟩:=this.mp ⟨e,he,rfl⟩;have he2:e<2*tn.length:=by lia
   rw[DL he2]at q2;exact⟨he2,by lia⟩
  ·rintro⟨q1,q2⟩;obtain⟨e',he',ee⟩:=this.mpr ⟨⟨by lia,by lia⟩,by rw[DL q1,q2]⟩;have:e'=e:=by lia
   exact this▸he'
 have plin:∀e,e<2*tn.length->place tn e<on.length:=λe he=>by
  have:=DK hw (e:=(e:Int)) (by lia) (by rw[fP];lia);rw[Int.toNat_natCast,DL he]at this
  lia
 refine⟨tn,on,rfl,rfl,rfl,⟨⟨λp e he=>?_,λe he=>⟨plin e he,(mem _ _ (plin e he)).mpr ⟨he,rfl⟩⟩,λp=>?_,λp hp=>?_,λp=>?_⟩,t1⟩⟩
 ·by_cases hp:p<on.length
  ·exact(mem p e hp).mp he
  ·rw[off p hp]at he;simp at he
 ·by_cases hp:p<on.length
  ·obtain⟨l,a,b,c⟩:=rw_ p hp;have nd:=(hf p _ c).2.nodup_iff.mpr (iQ _ _);rw[b];exact(List.pairwise_map.mp nd).imp λh e=>h (by rw[e])
  ·rw[off p hp];exact List.nodup_nil
 ·obtain⟨t,ht,hh⟩:=HI (by rw[fP];exact t1) hw wh (p:=(p:Int)) (by lia) (by lia);obtain⟨u,hu,rfl⟩:=Zh.mp ht;obtain⟨i,hi,rfl⟩:=Yd.mp hu;intro z;rcases hh with hh | hh
  ·have:2*i∈row on p:=(mem p _ hp).mpr ⟨by lia,by
    have hh:(tn[i].1:Int)=p:=hh;unfold place;rw[Yb (by lia),show 2*i / 2=i by lia,Zv,Zz hi];show tn[i].1=p;lia⟩
   rw[z]at this;simp at this
  ·have:2*i+1∈row on p:=(mem p _ hp).mpr ⟨by lia,by
    have hh:(tn[i].2:Int)=p:=hh;unfold place;rw[Ya (by lia),show(2*i+1) / 2=i by lia,Zv,Zz hi];show tn[i].2=p;lia⟩
   rw[z]at this;simp at this
 ·by_cases hp:p<on.length
  ·obtain⟨l,a,b,c⟩:=rw_ p hp;have:=(hf p _ c).1;rw[Zq]at this;rw[b];exact this
  ·rw[off p hp];simp
end AW
namespace L2
open PySem PySem.Spec PyProof.Rows
theorem IT{P:Program}{w:World}{C:Addr}{X:Cx}:kR (CXr P w C) X (λ_ _ _=>False):=λ_ _ _ _ _ _ _ h=>by
 obtain⟨_,_,_,_,_,_,_,_,_,_,_,_,hE⟩:=h;exact hE.elim
theorem MP{H:Hp}{a:Addr}{tn:MM.aR}(h:TsI H a (AW.cT tn)):nJ H a tn:=by
 obtain⟨tr,h1,h2,h3⟩:=h;refine⟨tr,h1,by rw[h2,AW.fP],λi t e=>h3 i ((t.1:Int),(t.2:Int)) ?_⟩;unfold AW.cT;rw[Zk,e];rfl
theorem NP{H:Hp}{a:Addr}{on:MM.aT}(h:OsI H a (AW.cO on)):qT H a on:=by
 obtain⟨tr,h1,h2,h3⟩:=h;refine⟨tr,h1,by rw[h2,AW.kO],λi l e=>?_⟩;obtain⟨r,r1,r2⟩:=h3 i (l.map λn:Nat=>(n:Int)) (by unfold AW.cO;rw[Zk,e];rfl);exact⟨r,r1,by rw[r2,Yn];rfl⟩
theorem hU{H:Hp}{w:Addr}{tn:MM.aR}{on:MM.aT}(h:iG H w on.length (AW.cT tn) (AW.cO on)):eA H w on.length tn on:=let⟨tA,oA,h1,h2,h3⟩:=h;⟨tA,oA,h1,MP h2,NP h3⟩
end L2
namespace K38
open PySem L2 PyProof.Rows
theorem chO{σ:L2.St}{H:Hp}{Q:VK}{x:Int}{tb tc:TE}(hb:∀R:VK,R (.int x) H->tb σ H R)(h1:¬0<=x->Q (.bl false) H)(h2:0<=x->tc σ H λv H'=>rI0 (λi j=>V.bl (decide (i<j))) (.int x) v H' Q) :
  pA (rI0 λi j=>V.bl (decide (i<=j))) (rI0 λi j=>V.bl (decide (i<j))) (tC (V.int 0)) tb tc σ H Q:=by
 refine hb _ (i2 (λh=>h2 (Yf h)) λh=>h1 λz=>h (Ye z))
structure Mp(H:Hp)(wa:Addr)(tn:MM.aR)(on:MM.aT):Prop where
 w:iG H wa on.length (AW.cT tn) (AW.cO on)
 m:AW.hJ on.length (AW.cT tn) (AW.cO on)
 g:MM.Good tn on
theorem Mp.few{H:Hp}{wa:Addr}{tn:MM.aR}{on:MM.aT}(h:Mp H wa tn on):tn.length<=400:=by have:=h.m.1.2.2;rw[AW.fP]at this;exact this
theorem HL{ts:MM.aR}{os:MM.aT}:flB os.length ts os=true↔MM.Flat ts os:=by
 refine⟨λh=>?_,vM⟩;have:=V.int.inj (Yf h);unfold MM.Flat
 lia
def NF:Sp:=λvs H _ E=>∃(wa:Addr) (m:Int) (ts:AW.Ts) (os:AW.Os),vs=[.ref wa]/\iG H wa m ts os/\ts.length<=1000/\¬AW.hJ m ts os/\∀x H',aJ H H'->E (.ref x) none H'
def NC:Sp:=λvs H Q _=>∃(wa:Addr) (tn:MM.aR) (on:MM.aT),vs=[.ref wa]/\Mp H wa tn on/\MM.Flat tn on/\∀H',aJ H H'->Q .non H'
def NB:Sp:=λvs H _ E=>∃(wa:Addr) (tn:MM.aR) (on:MM.aT),vs=[.ref wa]/\Mp H wa tn on/\¬MM.Flat tn on/\∀x H',aJ H H'->E (.ref x) none H'
theorem D9(T:Txt K mg t):Ok P w base T 31 7 NC:=by
 left
 obtain⟨wa,tn,on,rfl,hM,hF,q⟩:=h;have h4:=hM.few;refine⟨_,(aM (bK (cM (pT T) hr (T.f 19) IT (aE (pv 0) aK)))
  (bX (pL (pI (bR (cM (zG T) hr (T.f 30) bW (aE (pv 0) aK)) (λ_=>rfl))) cX iK))),?_⟩
 refine(cW wa _ _ _ rfl hM.w (by rw[AW.fP];lia) (λ_ H1 g1=>?_) (λz=>Yg hM.m z));refine(cW wa _ tn on rfl (hU (hM.w.same g1)) hM.g (by lia) (λH2 g2=>⟨_,rfl,iFb (by rw[vM hF];rfl) (q _ (g1.trans g2))⟩))
theorem LF(T:Txt K mg t):OkX P w base T (t.c 2) 31 7 NB:=by
 left
 obtain⟨wa,tn,on,rfl,hM,hF,q⟩:=h;have h4:=hM.few;refine⟨_,(by exists cM (pT T) hr (T.f 19) IT ?_,0,bR ?_ (λ_=>rfl),zG,0,fI (T.e 2).xi YK (T.m 2)),?_⟩;refine(cW wa _ _ _ rfl hM.w (by rw[AW.fP];lia) (λ_ H1 g1=>?_) (λz=>Yg hM.m z));refine(cW wa _ tn on rfl (hU (hM.w.same g1)) hM.g (by lia) (λH2 g2=>⟨_,rfl,iTb (by rw[show flB on.length tn on=false from Bool.eq_false_iff.mpr λz=>hF (HL.mp z)];rfl) λx=>q x _ (g1.trans g2)⟩))
theorem LD(T:Txt K mg t):OkX P w base T (t.c 1) 31 4 NF:=by
 left
 obtain⟨wa,m,ts,os,rfl,hW,hl,hB,q⟩:=h;refine⟨_,(aM (bK (cM (pT T) hr (T.f 19) rZ (aE (pv 0) aK))) cX),?_⟩;exact(cW wa m ts os rfl hW hl (λz=>Yg z hB) (λ_ x H' g=>q x H' g))
noncomputable abbrev nL(tn:MM.aR)(on:MM.aT):Nat:=(MM.cD (MM.behind tn on) (2*tn.length)).length
def KA:Sp:=λvs H _ E=>∃(wa:Addr) (m o:Int) (ts:AW.Ts) (os:AW.Os),vs=[.ref wa,.int o]/\iG H wa m ts os/\ts.length<=1000/\¬AW.hJ m ts os/\∀x H',aJ H H'->E (.ref x) none H'
def NA:Sp:=λvs H Q _=>∃(wa:Addr) (o:Int) (tn:MM.aR) (on:MM.aT),vs=[.ref wa,.int o]/\Mp H wa tn on/\MM.Flat tn on/\0<=o/\o<nL tn on/\∀H',aJ H H'->Q .non H'
def M9:Sp:=λvs H _ E=>∃(wa:Addr) (o:Int) (tn:MM.aR) (on:MM.aT),vs=[.ref wa,.int o]/\Mp H wa tn on/\¬MM.Flat tn on/\∀x H',aJ H H'->E (.ref x) none H'
def M8:Sp:=λvs H _ E=>∃(wa:Addr) (o:Int) (tn:MM.aR) (on:MM.aT),vs=[.ref wa,.int o]/\Mp H wa tn on/\MM.Flat tn on/\¬(0<=o/\o<nL tn on)/\∀x H',aJ H H'->E (.ref x) none H'
theorem K9(T:Txt K mg t):OkX P w base T (t.c 1) 32 5 KA:=by
 left
 obtain⟨wa,m,o,ts,os,rfl,hW,hl,hB,q⟩:=h;refine⟨_,(aM (bK (cM (LD T) hr (T.f 31) rZ (aE (pv 0) aK))) cX),?_⟩;exact(cW wa m ts os rfl hW hl hB q)
theorem LB(T:Txt K mg t):OkX P w base T (t.c 2) 32 8 M9:=by
 left
 obtain⟨wa,o,tn,on,rfl,hM,hF,q⟩:=h;refine⟨_,(aM (bK (cM (LF T) hr (T.f 31) rZ (aE (pv 0) aK))) cX),?_⟩;exact(eY wa tn on rfl hM hF q)
theorem LA(T:Txt K mg t):OkX P w base T (t.c 3) 32 8 M8:=by
 left
 obtain⟨wa,o,tn,on,rfl,hM,hF,ho,q⟩:=h;have h4:=hM.few;refine⟨_,(by exists D9,0,lD lM r6 aQ (pv 1) ?_,lP,0,fI (T.e 3).xi YK (T.m 3)),?_⟩;refine(eY wa tn on rfl hM hF (λH1 g1=>?_));dsimp only[yR,wY,CQ,CP,rP];refine chO (x:=o) ?h1 ?h2 ?h3
 case h1=>exact λR h=>(h)
 case h2=>exact λ_=>(iT λx=>q x _ g1)
 intro h0;refine(cW wa _ tn on rfl (hU (hM.w.same g1)) hM.g (by lia) (λr rr H2 g2 n2=>(aN r _ rfl (.inl (aB n2.at_)) ?_)));have hl:(((rr.map V.ref).length:Nat):Int)=(nL tn on:Int):=by rw[Zq,n2.len]
 exact iTb (by rw[hl,Yc λz=>ho ⟨h0,z⟩];rfl) λx=>q x _ (g1.trans g2)
theorem D8(T:Txt K mg t):Ok P w base T 32 8 NA:=by
 left
 obtain⟨wa,o,tn,on,rfl,hM,hF,h0,h1,q⟩:=h;have h4:=hM.few;refine⟨_,(aM (bK (cM (D9 T) hr (T.f 31) bW (aE (pv 0) aK)))
  (bX (pL (pI (lD lM r6 aQ (pv 1) (aP b9 rfl (T.z 4) PySem.boot_len (aE (cM (lP T) hr (T.f 28) bW (aE (pv 0) aK)) aK)))) cX iK))),?_⟩
 refine(eY wa tn on rfl hM hF (λH1 g1=>?_));dsimp only[yR,wY,CQ,CP,rP];refine chO (x:=o) ?h1 ?h2 ?h3
 case h1=>exact λR h=>(h)
 case h2=>exact λz=>Yg h0 z
 intro _;refine(cW wa _ tn on rfl (hU (hM.w.same g1)) hM.g (by lia) (λr rr H2 g2 n2=>(aN r _ rfl (.inl (aB n2.at_)) ?_)));have hl:(((rr.map V.ref).length:Nat):Int)=(nL tn on:Int):=by rw[Zq,n2.len]
 exact iFb (by rw[hl,Ye h1];rfl) (q _ (g1.trans g2))
end K38
namespace L2
open PySem PyProof.Rows
theorem fF{l:List Int}{j k:Nat}{v:Int}(h:j<l.length):at0 (l.set j v) k=if k=j then v else at0 l k:=by
 unfold at0;by_cases e:k=j
 ·subst e;rw[Yb rfl,Zv,ZK h];rfl
 ·rw[Ya e,Zv,ZJ (Yh e),<-Zv]
theorem GC(m:Nat)(c:Int):(ZR m).map (λ_=>V.int c)=(ZF m c).map V.int:=by
 apply YQ;intro i;by_cases h:i<m
 ·simp[h]
 ·simp[h]
theorem HX{m:Nat}{c:Int}{e:Nat}(h:e<m):at0 (ZF m c) e=c:=by unfold at0;simp[List.getD,h]
theorem jM{d:List Nat}{i:Nat}(h:i<d.length):(vns d)[i]?=some (vn (d.getD i 0)):=by
 rw[Zk,Zz h];simp[List.getD,h]
theorem getD_mem{d:List Nat}{i:Nat}(h:i<d.length):d.getD i 0∈d:=by simp[List.getD,h]
end L2
namespace K38
open PySem L2 PyProof.Rows
def II:Sp:=λvs H Q _=>∃(da ca la:Addr) (d:List Nat) (cs ls:List Int),vs=[.ref da,.ref ca,.ref la]/\H da=some (.lst (vns d))/\H ca=some (.lst (cs.map V.int))/\H la=some (.lst (ls.map V.int))/\(∀x∈d,x<cs.length/\x<ls.length/\MM.oth x<ls.length)/\d.length<=1000/\∀H',aJ H H'->Q (.int (MM.su d (MM.trm (at0 cs) (at0 ls)))) H'
theorem zE(T:Txt K mg t):Ok P w base T 51 2 II:=by
 left
 obtain⟨da,ca,la,d,cs,ls,rfl,hd,hc,hl,hb,h1000,q⟩:=h;refine⟨_,(by exists aP (j3 rfl) rfl (T.z 10) boot_sum ?_,(eK ["_law_end","_law_lefts","_law_corners"] [none,some 2,some 1]),aW ?_,0,0,aU,aG,2,0,aG,1,0,aG,1,fU,0),?_⟩;refine⟨⟨_,aB hd⟩,λD hD=>?_⟩;refine bH d.length (λi=>.int (MM.trm (at0 cs) (at0 ls) (d.getD i 0))) hD (by lia) (λi H' hi g'=>⟨_,_,aB (g' _ _ hd),jM hi⟩) (λH' g'=>⟨_,aB (g' _ _ hd),by rw[Zq];exact ZA _⟩) ?_ ?_
 ·rintro i H' x H'' k hi g' ⟨rfl,hx⟩ hk;have ex:=hx _ (aB (g' _ _ hd));rw[jM hi]at ex;cases ex;obtain⟨b1,b2,b3⟩:=hb _ (getD_mem hi);exact(eS ((Fills.refl _).set _ rfl) _ _ (aB (g' _ _ hc)) (aS b1 rfl) (aN _ _ (aB (g' _ _ hl)) (aS b2 rfl) (yO (d.getD i 0) rfl _ _ (aB (g' _ _ hl)) (aS b3 rfl) (hk _ (aJ.refl _)))))
 intro H2 g2 eD;rw[oJ d (λe=>V.int (MM.trm (at0 cs) (at0 ls) e)),show d.map (λe=>V.int (MM.trm (at0 cs) (at0 ls) e))=(d.map (MM.trm (at0 cs) (at0 ls))).map V.int by rw[Yn];rfl]at eD;exact(aN D _ rfl (aB eD) (q H2 g2))
end K38
namespace MM
def wF(os:aT)(cs:List Int):Prop:=∀p,p<os.length->su (row os p) (λe=>L2.at0 cs (oth e))=4
def FQ(ts:aR)(os:aT)(o:Nat)(cs ls:List Int):Prop:=∀(k:Nat) (d:List Nat),(lls ts os)[k]?=some d->su d (trm (L2.at0 cs) (L2.at0 ls))=if k=o then -4 else 4
def sQ(ts:aR)(os:aT)(o:Nat)(cs ls:List Int):Prop:=cs.length=2*ts.length/\ls.length=2*ts.length/\(∀x∈cs,1<=x/\x<=4)/\(∀x∈ls,0<=x)/\wF os cs/\FQ ts os o cs ls
open Classical in
noncomputable def shB(ts:aR)(os:aT)(o:Nat)(cs ls:List Int):Bool:=decide (sQ ts os o cs ls)
open Classical in
noncomputable def plB(os:aT)(cs:List Int):Bool:=decide (wF os cs)
open Classical in
noncomputable def ldB(ts:aR)(os:aT)(o:Nat)(cs ls:List Int):Bool:=decide (FQ ts os o cs ls)
open Classical in
theorem IM{ts:aR}{os:aT}{o:Nat}{cs ls:List Int}(h:sQ ts os o cs ls):shB ts os o cs ls=true:=by unfold shB;exact Ye h
open Classical in
theorem yV{ts:aR}{os:aT}{o:Nat}{cs ls:List Int}(h:¬sQ ts os o cs ls):shB ts os o cs ls=false:=by unfold shB;exact Yc h
open Classical in
theorem IR{os:aT}{cs:List Int}(h:wF os cs):plB os cs=true:=by unfold plB;exact Ye h
open Classical in
theorem IS{os:aT}{cs:List Int}(h:¬wF os cs):plB os cs=false:=by unfold plB;exact Yc h
open Classical in
theorem IW{ts:aR}{os:aT}{o:Nat}{cs ls:List Int}(h:FQ ts os o cs ls):ldB ts os o cs ls=true:=by unfold ldB;exact Ye h
open Classical in
theorem IX{ts:aR}{os:aT}{o:Nat}{cs ls:List Int}(h:¬FQ ts os o cs ls):ldB ts os o cs ls=false:=by unfold ldB;exact Yc h
theorem rR(f:Nat->Int)(p:Nat->Bool):∀l:List Nat,su l (λe=>if p e=true then f e else 0)=su (l.filter p) f
 |[]=>rfl
 |x::l=>by
  rw[aZ,List.filter_cons,rR f p l];by_cases h:p x=true
  ·rw[Yb h,Yb h,aZ]
  ·rw[Ya h,Ya h];lia
theorem CT{ts:aR}{os:aT}(g:Good ts os)(c:Nat->Int)(p:Nat):su (ZR (2*ts.length)) (λe=>if place ts (oth e)=p then c e else 0)=su (row os p) (λe=>c (oth e)):=by
 have e1:su (ZR (2*ts.length)) (λe=>if place ts (oth e)=p then c e else 0)=su (ZR (2*ts.length)) (λe=>if decide (place ts (oth e)=p)=true then c e else 0):=fY λx _=>by simp only[decide_eq_true_eq]
 rw[e1,rR,<-w9 c oth];refine iJ (lG (List.Pairwise.filter _ ZC) ?_ λx=>?_)
 ·rw[List.Nodup,List.pairwise_map];exact List.Pairwise.imp (λh z=>h (iO z)) (g.g.nd p)
 ·rw[Yz,Zs,Zh,decide_eq_true_eq];constructor
  ·rintro⟨h1,h2⟩;have:=(g.g.has (oth x) (bF h1)).2;rw[h2]at this;exact⟨oth x,this,dF x⟩
  ·rintro⟨y,hy,rfl⟩;have:=g.g.ends p y hy;exact⟨bF this.1,by rw[dF];exact this.2⟩
theorem F5(f:Nat->Int)(n:Nat):su (ZR (n+1)) f=su (ZR n) f+f n:=by rw[ZH,mR,aZ,jC];lia
end MM
namespace L2
open PySem PySem.Spec PyProof.Rows
section
variable{X:Cx}
def NN:V->V->Hp->VK->Prop:=λo i H Q=>o.gr λp=>i.gi λk=>∃xs v,SqL H p xs/\0<=k/\atI xs k=some v/\Q v H
theorem EZ:OC X (NN):=by
 intro pins s σ H o i ov iv Q I ro ri h;obtain⟨p,rfl,z1⟩:=a8 h;obtain⟨k,rfl,z2⟩:=cQ z1;obtain⟨xs,z,hq,h0,he,q⟩:=z2;cases ro;obtain⟨t,rfl⟩:=ri;obtain⟨its,r,pl,hz⟩:=I.list hq;obtain⟨j,h1,h2,h3,h4,h5⟩:=oQ he;obtain⟨w,ew,rw'⟩:=r.get h2;have hl:=r.length;have hn:=fZ;have hj:k.toNat=j:=by
  rw[seqIndex_of h0 h5]at h1;exact Option.some.inj h1
 exact wpAny_getItem_list pl.isList h0 (by lia) (by rw[hj];simpa using ew) ⟨z,H,I,rw',q⟩
end
end L2
namespace K38
open PySem L2 PyProof.Rows
def CU:Sp:=λvs H Q _=>∃(k o:Nat),vs=[vn k,vn o]/\Q (.int (if k=o then -4 else 4)) H
theorem A9(T:Txt K mg t):Ok P w base T 37 1 CU:=by
 left
 obtain⟨k,o,rfl,q⟩:=h;refine⟨_,(by exists DQ ?_ ?_ ?_,cI,0,1,j7 (T.g 0),j7 (T.g 0)),?_⟩;refine(i2 (λc=>?_) (λc=>?_))
 ·have:k=o:=by
   have c':V.int (k:Int)=V.int (o:Int):=Yf c;have:=V.int.inj c'
   lia
  rw[Yb this]at q;exact(q)
 ·have:¬k=o:=λz=>c (by subst z;exact Ye rfl);rw[Ya this]at q;exact q
theorem xZ(T:Txt K mg t):Ok P w base T 38 2 II:=by
 left
 obtain⟨da,ca,la,d,cs,ls,rfl,hd,hc,hl,hb,h1000,q⟩:=h;refine⟨_,(by exists aP (j3 rfl) rfl (T.z 10) boot_sum ?_,(eK ["end","lefts","corners"] [none,some 2,some 1]),aW ?_,0,0,aU,aG,2,0,aG,1,0,aG,1,lN,0),?_⟩;refine⟨⟨_,aB hd⟩,λD hD=>?_⟩;refine bH d.length (λi=>.int (MM.trm (at0 cs) (at0 ls) (d.getD i 0))) hD (by lia) (λi H' hi g'=>⟨_,_,aB (g' _ _ hd),jM hi⟩) (λH' g'=>⟨_,aB (g' _ _ hd),by rw[Zq];exact ZA _⟩) ?_ ?_
 ·rintro i H' x H'' k hi g' ⟨rfl,hx⟩ hk;have ex:=hx _ (aB (g' _ _ hd));rw[jM hi]at ex;cases ex;obtain⟨b1,b2,b3⟩:=hb _ (getD_mem hi);exact(eS ((Fills.refl _).set _ rfl) _ _ (aB (g' _ _ hc)) (aS b1 rfl) (aN _ _ (aB (g' _ _ hl)) (aS b2 rfl) (yO (d.getD i 0) rfl _ _ (aB (g' _ _ hl)) (aS b3 rfl) (hk _ (aJ.refl _)))))
 intro H2 g2 eD;rw[oJ d (λe=>V.int (MM.trm (at0 cs) (at0 ls) e)),show d.map (λe=>V.int (MM.trm (at0 cs) (at0 ls) e))=(d.map (MM.trm (at0 cs) (at0 ls))).map V.int by rw[Yn];rfl]at eD;exact(aN D _ rfl (aB eD) (q H2 g2))
def C1:Sp:=λvs H Q _=>∃(wa ca:Addr) (ts:MM.aR) (os:MM.aT) (cs:List Int),vs=[.ref wa,.ref ca]/\eA H wa os.length ts os/\MM.Good ts os/\ts.length<=40/\os.length<=40/\H ca=some (.lst (cs.map V.int))/\cs.length=2*ts.length/\∀H',aJ H H'->Q (.bl (MM.plB os cs)) H'
theorem BB(T:Txt K mg t):Ok P w base T 35 3 C1:=by
 left
 obtain⟨wa,ca,ts,os,cs,rfl,hWeb,g,h40,o40,hc,lc,q⟩:=h;refine⟨_,(by exists (nO 2 ["place"] [none]),aL,0,0,iM rfl (T.z 1) ?_,1,3,4,GL (pv 2) ?_ EZ (pv 4) LU set_list,zF,0,3,aP (nI rfl) rfl (T.z 0) boot_all ?_,(eK ["total"] [none]),aW ?_,2,0,cI,0,j7 (T.g 0)),?_⟩;obtain⟨tA,oA,hw,hts,hos⟩:=id hWeb;refine(dJ _ _ (aH hw) rfl _ rfl (by lia) (by lia) (λsA hsA=>?_));refine bH ((os.length:Nat):Int).toNat (λ_=>.int 0) hsA (by lia) (λi H' hi _=>hi) (λH' _=>ZA _) ?_ ?_
 ·rintro i H' x H'' k hi g' ⟨rfl,rfl⟩ hk;exact⟨(Fills.refl _).set _ rfl,hk _ (aJ.refl _)⟩
 intro H2 g2 es;rw[Int.toNat_natCast,GC]at es;refine⟨ca,rfl,⟨_,aB (g2 _ _ hc)⟩,gJ (xs:=cs.map V.int)
  (λi σ H'=>aJ H H'/\(∃ss:List Int,H' sA=some (.lst (ss.map V.int))/\ss.length=os.length/\∀p,p<os.length->at0 ss p=MM.su (ZR i) (λe=>if MM.place ts (MM.oth e)=p then at0 cs e else 0)) /\
   ∃o3 o4:Option V,σ=[some (.ref wa),some (.ref ca),some (.ref sA),o3,o4])
  ⟨g2,⟨_,es,by simp,λp hp=>by rw[HX hp];rfl⟩,_,_,rfl⟩ (λi σ H' _ h=>aB (h.1 _ _ hc)) ?_ ?_⟩
 ·rintro i x σ H3 Tp hx ⟨g3,⟨ss,e1,e2,e3⟩,o3,o4,rfl⟩ hTp;have hi:i<cs.length:=by have:=(Zj.mp hx).1;rwa [Zq]at this
  rw[iW hi]at hx;cases hx;have g4:=aC hTp (.tup [vn i,.int (at0 cs i)]);have g34:=g3.trans g4;have f1:=g4 _ _ e1;refine⟨_,aH aA,rfl,?_⟩;have pl:=(g.g.has (MM.oth i) (MM.bF (by lia))).1;generalize upd H3 Tp (.tup [vn i,.int (at0 cs i)])=H4 at g4 g34 f1;refine(rK wa _ ts os i rfl (g34.web hWeb) (by lia) (bS _ _ (aB f1) (by lia) (aS (j:=MM.place ts (MM.oth i)) (by lia) rfl) (aN _ (MM.place ts (MM.oth i)) f1 (dC (by rw[Zq];lia) rfl) ?_)));rw[<-ZG];refine⟨λb u h=>by rw[aF (aI h hsA)];exact g34 _ _ h,⟨_,aA,by rw[ZP];exact e2,λp hp=>?_⟩,_,_,rfl⟩;rw[fF (by lia),MM.F5,e3 p hp];by_cases z:p=MM.place ts (MM.oth i)
  ·rw[Yb z,Yb z.symm,z,e3 _ pl]
  ·rw[Ya z,Ya (Yh z)];lia
 rintro σ H3 ⟨g3,⟨ss,e1,e2,e3⟩,o3,o4,rfl⟩;rw[Zq,lc]at e3;refine⟨⟨_,aB e1⟩,λD hD=>?_⟩;refine bH ss.length (λi=>.bl (decide (V.int (at0 ss i)=V.int 4))) hD (by lia) (λi H' hi g'=>⟨_,_,aB (g' _ _ e1),iW hi⟩) (λH' g'=>⟨_,aB (g' _ _ e1),by rw[Zq];exact ZA _⟩) ?_ ?_
 ·rintro i H' x H'' k hi g' ⟨rfl,hx⟩ hk;have ex:=hx _ (aB (g' _ _ e1));rw[iW hi]at ex;cases ex;exact⟨(Fills.refl _).set _ rfl,hk _ (aJ.refl _)⟩
 intro H4 g4 eD;rw[show(ZR ss.length).map (λi=>V.bl (decide (V.int (at0 ss i)=V.int 4)))=((ZR ss.length).map λi=>decide (V.int (at0 ss i)=V.int 4)).map V.bl by rw[Yn];rfl]at eD;refine(aN D _ rfl (aB eD) ?_);have hB:((ZR ss.length).map λi=>decide (V.int (at0 ss i)=V.int 4)).all id=MM.plB os cs:=by
  have key:(∀p,p<os.length->at0 ss p=4)↔MM.wF os cs:=by
   unfold MM.wF;constructor
   ·intro h p hp;rw[<-MM.CT g,<-e3 p hp];exact h p hp
   ·intro h p hp;rw[e3 p hp,MM.CT g];exact h p hp
  by_cases h:MM.wF os cs
  ·rw[MM.IR h,ZD];intro b hb;obtain⟨i,hi,rfl⟩:=Zh.mp hb;have:=key.mpr h i (by rw[<-e2];exact Zs.mp hi);simp[this]
  ·rw[MM.IS h,Bool.eq_false_iff];intro hall;apply h;refine key.mp λp hp=>?_;have:=List.all_eq_true.mp hall _ (Zh.mpr ⟨p,Zs.mpr (by lia),rfl⟩);have:=Yf this;exact V.int.inj this
 rw[hB];exact q H4 (g3.trans g4)
def C4:Sp:=λvs H Q _=>∃(wa ca la:Addr) (n o:Nat) (ts:MM.aR) (os:MM.aT) (cs ls:List Int),vs=[.ref wa,vn o,.ref ca,.ref la]/\eA H wa n ts os/\MM.Good ts os/\ts.length<=40/\H ca=some (.lst (cs.map V.int))/\H la=some (.lst (ls.map V.int))/\cs.length=2*ts.length/\ls.length=2*ts.length/\∀H',aJ H H'->Q (.bl (MM.ldB ts os o cs ls)) H'
theorem rE(T:Txt K mg t):Ok P w base T 36 6 C4:=by
 left
 obtain⟨wa,ca,la,n,o,ts,os,cs,ls,rfl,hWeb,g,h40,hc,hl,lc,ll,q⟩:=h;refine⟨_,(by exists iM rfl (T.z 1) ?_,lP,0,4,5,eO,xZ,5,2,3,A9,4,1),?_⟩;refine(cW wa n ts os rfl hWeb g (by lia) (λr rr H1 g1 nos=>?_));refine⟨r,rfl,⟨_,aB nos.at_⟩,gJ (xs:=rr.map V.ref)
  (λi σ H'=>aJ H1 H'/\(∀(k:Nat) (d:List Nat),k<i->(MM.lls ts os)[k]?=some d->MM.su d (MM.trm (at0 cs) (at0 ls))=if k=o then -4 else 4) /\
   ∃o4 o5:Option V,σ=[some (.ref wa),some (vn o),some (.ref ca),some (.ref la),o4,o5])
  ⟨aJ.refl _,λk d hk=>Yg hk (by lia),_,_,rfl⟩ (λi σ H' _ h=>aB (h.1 _ _ nos.at_)) ?_ ?_⟩
 ·rintro i x σ H2 Tp hx ⟨g2,hk,o4,o5,rfl⟩ hTp;obtain⟨y,hy,rfl⟩:=tE hx;have hil:i<(MM.lls ts os).length:=by rw[<-nos.len];exact(Zj.mp hy).1
  have hli:=Zz hil;obtain⟨y',hy',ey⟩:=nos.row i _ hli;rw[hy]at hy';cases hy';generalize (MM.lls ts os)[i]=d at hli ey;have hdd:=MM.dS g hli;have hd80:d.length<=1000:=by have:=MM.bE _ _ hdd.1 hdd.2.1;lia
  have g3:=aC hTp (.tup [vn i,.ref y]);have g23:=g2.trans g3;have g03:=g1.trans g23;refine⟨_,aH aA,rfl,?_⟩;generalize upd H2 Tp (.tup [vn i,.ref y])=H3 at g23 g03;refine(fX y ca la d cs ls rfl (g23 _ _ ey) (g03 _ _ hc) ⟨ g03 _ _ hl,λx hx=>⟨by have:=hdd.2.1 x hx;lia,by have:=hdd.2.1 x hx;lia,by have:=MM.bF (hdd.2.1 x hx);lia⟩,hd80,λH4 g4=>?_⟩);refine⟨i,o,rfl,?_⟩;by_cases z:MM.su d (MM.trm (at0 cs) (at0 ls))=if i=o then -4 else 4
  ·refine iFb (by rw[z];simp) ?_;refine⟨g23.trans g4,λk d' hk' hd'=>?_,_,_,rfl⟩;by_cases e:k=i
   ·subst e;rw[hli]at hd';cases hd';exact z
   ·exact hk k d' (by lia) hd'
  ·refine iTb (by simp[z]) ?_;have:=q H4 (g03.trans g4);rw[MM.IX λh=>z (h i d hli)]at this;exact this
 rintro σ H2 ⟨g2,hk,o4,o5,rfl⟩;rw[Zq,nos.len]at hk;have:=q H2 (g1.trans g2);rw[MM.IW λk d hd=>hk k d (Zj.mp hd).1 hd]at this;exact this
def rS:Sp:=λvs H Q _=>∃(wa sa ca la:Addr) (o:Nat) (ts:MM.aR) (os:MM.aT) (cs ls:List Int),vs=[.ref wa,vn o,.ref sa]/\eA H wa os.length ts os/\MM.Good ts os/\ts.length<=40/\os.length<=40/\H sa=some (.tup [.ref ca,.ref la])/\H ca=some (.lst (cs.map V.int))/\H la=some (.lst (ls.map V.int))/\∀H',aJ H H'->Q (.bl (MM.shB ts os o cs ls)) H'
theorem pS(T:Txt K mg t):Ok P w base T 34 7 rS:=by
 left
 obtain⟨wa,sa,ca,la,o,ts,os,cs,ls,rfl,hWeb,g,h40,o40,hsa,hc,hl,q⟩:=h;refine⟨_,(by exists 3,aL,2,4,aL,2,5,aL,0,eO,3,5,eO,4,5,aP (j4 rfl) rfl (T.z 7) boot_min ?_,3,aP (nH rfl) rfl (T.z 6) boot_max ?_,3,j7 (T.g 0),aP (j4 rfl) rfl (T.z 7) boot_min ?_,4,xQ ?_ ?_,BB,0,3,xN ?_,rE,0,1,3,4),?_⟩;obtain⟨tA,oA,hw,hts,hos⟩:=id hWeb;obtain⟨trv,tv1,tv2⟩:∃trv:List V,H tA=some (.lst trv)/\trv.length=ts.length:=by
  obtain⟨tr,q1,q2,_⟩:=hts;exact⟨_,q1,by rw[Zq];exact q2⟩
 have h1:=g.one;have no:¬MM.sQ ts os o cs ls->Q (.bl false) H:=λh=>by
  have:=q H (aJ.refl _);rw[MM.yV h]at this;exact this
 refine(aN _ _ (aH hsa) rfl ?_);refine(aN _ _ (aH hsa) rfl ?_);refine(eQ _ _ (aH hw) rfl tA _ rfl (.inl (aB tv1)) (.inl ⟨by decide,by decide⟩) ?_);have eM:(2:Int)*((trv.length:Nat):Int)=((2*ts.length:Nat):Int):=by lia
 show cJ 5 (V.int (2*((trv.length:Nat):Int))) _ _ _;rw[eM];refine(aN ca _ rfl (.inl (aB hc)) ?_);rw[Zq];by_cases z1:cs.length=2*ts.length
 ·refine iFb (by rw[z1];simp) ?_;refine(aN la _ rfl (.inl (aB hl)) ?_);rw[Zq];by_cases z2:ls.length=2*ts.length
  ·refine iFb (by rw[z2];simp) ?_;refine(bS ca cs rfl (aB hc) (by lia) (λm hm hmin=>?_));by_cases y1:m<1
   ·exact iTb (Ye y1) (iT (no λh=>by have:=(h.2.2.1 m hm).1;lia))
   refine iFb (Yc y1) ?_;refine(bS ca cs rfl (aB hc) (by lia) (λm2 hm2 hmax=>?_));by_cases y2:4<m2
   ·exact iTb (Ye y2) (iT (no λh=>by have:=(h.2.2.1 m2 hm2).2;lia))
   refine iFb (Yc y2) ?_;refine(bS la ls rfl (aB hl) (by lia) (λm3 hm3 hmin3=>?_));by_cases y3:m3<0
   ·exact iTb (Ye y3) (no λh=>by have:=h.2.2.2.1 m3 hm3;lia)
   refine iFb (Yc y3) ?_;have pre:MM.shB ts os o cs ls=(MM.plB os cs&&MM.ldB ts os o cs ls):=by
    by_cases a:MM.wF os cs
    ·by_cases b:MM.FQ ts os o cs ls
     ·rw[MM.IR a,MM.IW b,MM.IM (oW z1 z2 (λx hx=>⟨by have:=hmin x hx;lia,by have:=hmax x hx;lia⟩) (λx hx=>by have:=hmin3 x hx;lia) a b)];rfl
     ·rw[MM.IX b,MM.yV λh=>b h.2.2.2.2.2,Bool.and_false]
    ·rw[MM.IS a,MM.yV λh=>a h.2.2.2.2.1];rfl
   refine(cN wa ca ts os cs rfl hWeb g h40 ⟨ o40,hc,z1,λH1 g1=>(?_)⟩);rw[pre]at q;cases hp:MM.plB os cs with
   |false =>
    rw[hp,Bool.false_and]at q;exact iF (q H1 g1)
   |true =>
    rw[hp,Bool.true_and]at q;exact iT (wI wa ca la _ o ts os cs ls (AM rfl (g1.web hWeb) g h40 (g1 _ _ hc) (g1 _ _ hl) z1 z2 (λH2 g2=>q H2 (g1.trans g2))))
  ·refine iTb (by simp;lia) (no λh=>z2 h.2.1)
 ·exact iTb (by simp;lia) (iT (no λh=>z1 h.1))
end K38
namespace L2
open PySem PySem.Spec PyProof.Rows
theorem aJ.upd{H H':Hp}{l:Addr}{o:HO}(g:aJ H H')(h:H l=none):aJ H (upd H' l o):=λb u q=>by rw[aF (aI q h)];exact g b u q
theorem PN{k:Nat}{A:Around}(r:fN k A):A.in1.units<cLine:=by have:=r.un;show A.units+1<cLine;lia
theorem few{n:Nat}(h:n<=100000):n<=ZW:=Xz h (by decide)
theorem eV{n:Nat}(h:n<100000):n<ZW:=Xk h (by decide)
def Lst{α:Type}(R:Hp->V->α->Prop)(H:Hp)(l:Addr)(xs:List α):Prop:=∃vs,H l=some (.lst vs)/\vs.length=xs.length/\∀(i:Nat) v x,vs[i]?=some v->xs[i]?=some x->R H v x
section
variable{α:Type}{R:Hp->V->α->Prop}{H H':Hp}{l:Addr}{xs:List α}
theorem Lst.mono(h:Lst R H l xs)(g:aJ H H')(m:∀v x,R H v x->R H' v x):Lst R H' l xs:=by
 obtain⟨vs,h1,h2,h3⟩:=h;exact⟨vs,g _ _ h1,h2,λi v x a b=>m v x (h3 i v x a b)⟩
theorem Lst.at(h:Lst R H l xs){i:Nat}{x:α}(hi:xs[i]?=some x):∃vs v,H l=some (.lst vs)/\vs.length=xs.length/\vs[i]?=some v/\R H v x:=by
 obtain⟨vs,h1,h2,h3⟩:=h;have hl:i<vs.length:=by rw[h2];exact(Zj.mp hi).1
 exact⟨vs,vs[i],h1,h2,Zz hl,h3 i _ x (Zz hl) hi⟩
theorem Lst.app{x:α}{v:V}{vs:List V}(h1:H' l=some (.lst (vs++[v])))(h2:vs.length=xs.length)(h3:∀(i:Nat) v x,vs[i]?=some v->xs[i]?=some x->R H' v x)(h4:R H' v x):Lst R H' l (xs++[x]):=by
 refine⟨_,h1,by simp[h2],λi u y a b=>?_⟩;rcases Xw i vs.length with z | z
 ·rw[Zx z]at a;rw[Zx (by lia)]at b;exact h3 i u y a b
 ·rw[Zy z]at a;rw[Zy (by lia)]at b;have hi:i-vs.length=0:=by
   have:=(Zj.mp a).1;simp at this;lia
  rw[hi]at a;rw[<-h2,hi]at b;simp at a b;subst a b;exact h4
end
abbrev Pt:=Int×Int
def nK(H:Hp)(v:V)(p:Pt):Prop:=∃a,v=.ref a/\H a=some (.tup [.int p.1,.int p.2])
abbrev kQ(H:Hp)(l:Addr)(ps:List Pt):Prop:=Lst nK H l ps
def FO(H:Hp)(v:V)(ps:List Pt):Prop:=∃l,v=.ref l/\kQ H l ps
abbrev B2(H:Hp)(l:Addr)(ll:List (List Pt)):Prop:=Lst FO H l ll
theorem nK.mono{H H':Hp}(g:aJ H H')(v:V)(p:Pt)(h:nK H v p):nK H' v p:=let⟨a,e,q⟩:=h;⟨a,e,g _ _ q⟩
theorem aJ.ps{H H':Hp}(g:aJ H H'){l:Addr}{ps:List Pt}(h:kQ H l ps):kQ H' l ps:=h.mono g (nK.mono g)
theorem FO.mono{H H':Hp}(g:aJ H H')(v:V)(ps:List Pt)(h:FO H v ps):FO H' v ps:=let⟨l,e,q⟩:=h;⟨l,e,g.ps q⟩
theorem aJ.ls{H H':Hp}(g:aJ H H'){l:Addr}{ll:List (List Pt)}(h:B2 H l ll):B2 H' l ll:=h.mono g (FO.mono g)
def pt(ps:List Pt)(i:Nat):Pt:=ps.getD i (0,0)
theorem pJ{ps:List Pt}{i:Nat}(h:i<ps.length):ps[i]?=some (pt ps i):=by
 unfold pt;rw[Zz h];simp[List.getD,h]
theorem Lst.pt{H:Hp}{l:Addr}{ps:List Pt}(h:kQ H l ps){i:Nat}(hi:i<ps.length):∃vs a,H l=some (.lst vs)/\vs.length=ps.length/\vs[i]?=some (.ref a)/\H a=some (.tup [.int (pt ps i).1,.int (pt ps i).2]):=by
 obtain⟨vs,v,h1,h2,h3,a,rfl,h4⟩:=h.at (pJ hi);exact⟨vs,a,h1,h2,h3,h4⟩
def hd(p q:Pt):Int:=if p.2=q.2 then (if q.1<p.1 then 2 else 0) else (if q.2<p.2 then 3 else 1)
def HZ(p q:Pt):Prop:=(p.2=q.2/\p.1≠q.1)\/(p.1=q.1/\p.2≠q.2)
def hds(ps:List Pt):List Int:=(ZR (ps.length-1)).map λk=>hd (pt ps k) (pt ps (k+1))
theorem tW(ps:List Pt):(hds ps).length=ps.length-1:=by simp[hds]
def IB(ps:List Pt):Prop:=2<=ps.length/\ps.length<=1000/\∀k,k+1<ps.length->HZ (pt ps k) (pt ps (k+1))
def zS(ps:List Pt):List Int:=[at0 (hds ps) 0,(at0 (hds ps) ((hds ps).length-1)+2)%4]
def lvs(ll:List (List Pt)):List Int:=ll.flatMap zS
theorem jV:∀ll:List (List Pt),(lvs ll).length=2*ll.length
 |[]=>rfl
 |ps::ll=>by
  have:=jV ll;unfold lvs at this ⊢;rw[List.flatMap_cons,Zm,this];simp[zS];lia
def dif(hs:List Int)(q:Int):List Int:=(ZR (hs.length-1)).map λk=>(at0 hs (k+1)-at0 hs k-q)%4
def cnt(ps:List Pt)(c:Int):Int:=((dif (hds ps) 0).count c:Nat)
def lfs(ll:List (List Pt)):List Int:=ll.flatMap λps=>[cnt ps 1,cnt ps 3]
def cns(ts:MM.aR)(os:MM.aT)(hs:List Int):List Int:=(ZR hs.length).map λe=>(at0 hs (MM.oth e)-at0 hs (MM.behind ts os e)-1)%4+1
theorem rO{α β:Type}(f:α->List β){l:List α}{i:Nat}{x:α}(h:l[i]?=some x):(l.take (i+1)).flatMap f=(l.take i).flatMap f++f x:=by
 rw[List.take_succ,h,List.flatMap_append];simp
theorem HV{ls:List Int}(h:0<ls.length):atI (ls.map V.int) (-1)=some (.int (at0 ls (ls.length-1))):=by
 unfold atI;have e:ixN (ls.map V.int).length (-1)=some (ls.length-1):=by
  unfold ixN;rw[Zq,Ya (by decide),Yb (by lia)];simp only[Option.some.injEq];lia
 rw[e];exact iW (by omega)
end L2
namespace MM
def Mir(f g:Nat->Nat)(N:Nat):Prop:=∀e,e<N->g (oth (f e))=oth e
theorem B1{f g:Nat->Nat}{N:Nat}(m:fQ f N)(h:Mir f g N){e:Nat}(he:e<N):∀k,iter g k (oth (iter f k e))=oth e
 |0=>rfl
 |k+1=>by
  rw[BK g];show MM.iter g k (g (oth (f (MM.iter f k e))))=oth e;rw[h _ (cZ m he k)];exact B1 m h he k
theorem vD{ts:aR}{os:aT}(g:Good ts os){k:Nat}{d:List Nat}(h:(lls ts os)[k]?=some d){x:Nat}(hx:x∈d):∀y,y∈d↔y∈aO (behind ts os) x:=by
 have m:=g.maps;obtain⟨e,he,rfl⟩:=qA m _ (ZR (2*ts.length)) (ZA _) (λz hz=>Zs.mp hz) d (Zg h);have he:=Zs.mp he;have hxN:=jW m he x hx;intro y;constructor
 ·intro hy;exact gG m hxN (nC m he hx) hy
 ·intro hy;exact gG m he hx hy
end MM
namespace TU
open MM
theorem uV{f:Nat->Nat}{l:List Nat}(s:l.Pairwise λx y=>f x<f y){y:Nat}(hy:y∈l) :
  (f (aY l y)<f y/\∀w∈l,f w<=f (aY l y)\/f y<=f w)\/(f y<=f (aY l y)/\∀w∈l,f y<=f w/\f w<=f (aY l y)):=by
 have hi:=ZM hy;have gy:l[l.idxOf y]=y:=List.getElem_idxOf hi;have up:=List.pairwise_iff_getElem.mp s;have le:∀{i j:Nat}(h1:i<l.length) (h2:j<l.length),i<=j->f l[i]<=f l[j]:=λ{i j} h1 h2 h=>by
  rcases Nat.lt_or_eq_of_le h with z | z
  ·exact Nat.le_of_lt (up i j h1 h2 z)
  ·subst z;exact ZA _
 have gp:∀{k:Nat}(hk:k<l.length),(l.idxOf y+l.length-1)%l.length=k->aY l y=l[k]:=λ{k} hk e=>by
  unfold aY;rw[e];simp[List.getD,hk]
 by_cases z:l.idxOf y=0
 ·have e:aY l y=l[l.length-1]:=gp (by omega) (by rw[z,Nat.zero_add];exact Nat.mod_eq_of_lt (by omega));refine .inr ?_;have g0:l[0]'(by lia)=y:=by simp only[z]at gy;exact gy
  have low:∀{j:Nat}(hj:j<l.length),f y<=f l[j]:=λ{j} hj=>by
   have:=le (show 0<l.length by lia) hj (YX j);rw[g0]at this;exact this
  rw[e];refine⟨low _,λw hw=>?_⟩;obtain⟨j,hj,rfl⟩:=Yd.mp hw;exact⟨low hj,le _ _ (by lia)⟩
 ·have e:aY l y=l[l.idxOf y-1]:=gp (by omega) (by rw[show l.idxOf y+l.length-1=(l.idxOf y-1)+l.length by lia,Nat.add_mod_right];exact Nat.mod_eq_of_lt (by omega));refine .inl ?_;rw[e];have lt:f l[l.idxOf y-1]<f y:=by
   have:=up (l.idxOf y-1) (l.idxOf y) (by omega) hi (by lia);rw[gy]at this;exact this
  refine⟨lt,λw hw=>?_⟩;obtain⟨j,hj,rfl⟩:=Yd.mp hw;rcases Xw j (l.idxOf y) with q | q
  ·exact .inl (le _ _ (by lia))
  ·refine .inr ?_;have:=le hi hj q;rw[gy]at this;exact this
theorem G6{W:Nat->Nat->Option Nat}{q h:Nat}{f:Nat->Nat}{l:List Nat}(s:l.Pairwise λx y=>f x<f y)(f4:∀w∈l,f w<4)(ex:∀k,(W q k).isSome=true↔∃w∈l,f w=k)(hh:h<4){y:Nat}(hy:y∈l)(fy:f y=(h+2)%4):nh W q h=f (aY l y):=by
 have zm:=pN hy;have z4:=f4 _ zm;have ez:(W q (f (aY l y))).isSome=true:=(ex _).mpr ⟨_,zm,rfl⟩;have N:∀{k},(W q k).isSome=true->(f (aY l y)<f y/\(k<=f (aY l y)\/f y<=k))\/(f y<=f (aY l y)/\f y<=k/\k<=f (aY l y)):=λ{k} hk=>by
  obtain⟨w,hw,rfl⟩:=(ex k).mp hk;rcases uV s hy with⟨a,b⟩ | ⟨a,b⟩
  ·exact .inl ⟨a,b w hw⟩
  ·exact .inr ⟨a,b w hw⟩
 generalize f (aY l y)=z at *;unfold nh;by_cases c1:(W q ((h+1)%4)).isSome=true
 ·rw[Yb c1];have:=N c1;lia
 rw[Ya c1];have n1:z≠(h+1)%4:=λe=>c1 (e▸ez);by_cases c2:(W q h).isSome=true
 ·rw[Yb c2];have:=N c2;lia
 rw[Ya c2];have n2:z≠h:=λe=>c2 (e▸ez);by_cases c3:(W q ((h+3)%4)).isSome=true
 ·rw[Yb c3];have:=N c3;lia
 rw[Ya c3];have n3:z≠(h+3)%4:=λe=>c3 (e▸ez);omega
theorem EC{W:Nat->Nat->Option Nat}{q h k:Nat}(hh:h<4)(hk:k<4)(ne:k≠(h+2)%4)(ex:∀j,(W q j).isSome=true↔j=(h+2)%4\/j=k):nh W q h=k:=by
 have ek:(W q k).isSome=true:=(ex k).mpr (.inr rfl);unfold nh;by_cases c1:(W q ((h+1)%4)).isSome=true
 ·rw[Yb c1];have:=(ex _).mp c1;lia
 rw[Ya c1];have n1:k≠(h+1)%4:=λe=>c1 (e▸ek);by_cases c2:(W q h).isSome=true
 ·rw[Yb c2];have:=(ex _).mp c2;lia
 rw[Ya c2];have n2:k≠h:=λe=>c2 (e▸ek);by_cases c3:(W q ((h+3)%4)).isSome=true
 ·rw[Yb c3];have:=(ex _).mp c3;lia
 have n3:k≠(h+3)%4:=λe=>c3 (e▸ek);omega
structure Pct(W:Nat->Nat->Option Nat)(pl:List Nat)(ts:aR)(os:aT)(n:Nat->Nat)(pt hd:Nat->Nat->Nat):Prop where
 one:1<=ts.length
 n0:∀{e},e<2*ts.length->0<n e
 go:∀{e i},e<2*ts.length->i<n e->W (pt e i) (hd e i)=some (pt e (i+1))
 mid:∀{e i},e<2*ts.length->0<i->i<n e->pt e i∉pl
 on:∀{e i},e<2*ts.length->i+1<n e->hd e (i+1)≠(hd e i+2)%4
 at_:∀{e},e<2*ts.length->pl[place ts e]?=some (pt e 0)
 rn:∀{e},e<2*ts.length->n (oth e)=n e
 rp:∀{e i},e<2*ts.length->i<=n e->pt (oth e) i=pt e (n e-i)
 rh:∀{e i},e<2*ts.length->i<n e->hd (oth e) i=(hd e (n e-1-i)+2)%4
 inj:∀{e e'},e<2*ts.length->e' < 2*ts.length->pt e 0=pt e' 0->hd e 0=hd e' 0->e=e'
 sur:∀{p h q},p∈pl->W p h=some q->∃e,e<2*ts.length/\pt e 0=p/\hd e 0=h
 ol:os.length=pl.length
 row:∀{x},x<pl.length->∃l,Rot (row os x) l/\(l.Pairwise λe e'=>hd e 0<hd e' 0)/\∀e,e∈l↔e<2*ts.length/\place ts e=x
 pnd:pl.Nodup
 pne:∀{p},p∈pl->∃h q,W p h=some q
 two:∀{p h q},p∉pl->W p h=some q->∃h1 h2,h1≠h2/\∀k,(W p k).isSome=true↔k=h1\/k=h2
section
variable{a b:Nat}{W:Nat->Nat->Option Nat}{pl:List Nat}{ts:aR}{os:aT}{n:Nat->Nat}{pt hd:Nat->Nat->Nat}
theorem Pct.pidx(P:Pct W pl ts os n pt hd){e:Nat}(he:e<2*ts.length):place ts e<pl.length:=(Zj.mp (P.at_ he)).1
theorem Pct.same(P:Pct W pl ts os n pt hd){e e':Nat}(he:e<2*ts.length)(he':e' < 2*ts.length):place ts e=place ts e'↔pt e 0=pt e' 0:=by
 have h1:=P.at_ he;have h2:=P.at_ he';constructor
 ·intro z;rw[z,h2]at h1;exact(Option.some.inj h1).symm
 ·intro z;obtain⟨l1,g1⟩:=Zj.mp h1;obtain⟨l2,g2⟩:=Zj.mp h2;exact(List.getElem_inj P.pnd).mp (by rw[g1,g2,z])
theorem Pct.h4(P:Pct W pl ts os n pt hd)(s:Stp a b W){e i:Nat}(he:e<2*ts.length)(hi:i<n e):hd e i<4:=s.h4 (P.go he hi)
theorem uN{f:Nat->Nat}:∀{l:List Nat},(l.Pairwise λx y=>f x<f y)->(∀w∈l,f w<4)->l.length<=4:=λ{l} s h=>by
 have nd:(l.map f).Nodup:=List.pairwise_map.mpr (s.imp λz=>YZ z);have:=bE 4 (l.map f) nd λx hx=>by obtain⟨w,hw,rfl⟩:=Zh.mp hx;exact h w hw
 rw[Zq]at this;exact this
theorem Pct.good(P:Pct W pl ts os n pt hd)(s:Stp a b W):Good ts os:=by
 have out:∀{x},¬x<pl.length->MM.row os x=[]:=λ{x} h=>by unfold MM.row;simp[List.getD,P.ol,h]
 refine⟨⟨λp e he=>?_,λe he=>⟨by rw[P.ol];exact P.pidx he,?_⟩,λp=>?_,λp hp=>?_,λp=>?_⟩,P.one⟩
 ·by_cases c:p<pl.length
  ·obtain⟨l,r,_,m⟩:=P.row c;exact(m e).mp (r.perm.mem_iff.mp he)
  ·rw[out c]at he;cases he
 ·obtain⟨l,r,_,m⟩:=P.row (P.pidx he);exact r.perm.mem_iff.mpr ((m e).mpr ⟨he,rfl⟩)
 ·by_cases c:p<pl.length
  ·obtain⟨l,r,so,m⟩:=P.row c;exact r.perm.nodup_iff.mpr (so.imp λ{x y} z e=>by subst e;exact YW _ z)
  ·rw[out c];exact List.nodup_nil
 ·rw[P.ol]at hp;obtain⟨l,r,so,m⟩:=P.row hp;have mem:pl[p]∈pl:=Zp hp;obtain⟨h,q,hw⟩:=P.pne mem;obtain⟨e,he,e1,e2⟩:=P.sur mem hw;have:place ts e=p:=by
   obtain⟨l1,g1⟩:=Zj.mp (P.at_ he);exact(List.getElem_inj P.pnd).mp (by rw[g1,e1])
  intro z;have:=r.perm.mem_iff.mpr ((m e).mpr ⟨he,this⟩);rw[z]at this;cases this
 ·by_cases c:p<pl.length
  ·obtain⟨l,r,so,m⟩:=P.row c;rw[r.perm.length_eq];exact uN so λw hw=>P.h4 s ((m w).mp hw).1 (P.n0 ((m w).mp hw).1)
  ·rw[out c];exact YX _
theorem Pct.step(P:Pct W pl ts os n pt hd)(s:Stp a b W){e i:Nat}(he:e<2*ts.length)(hi:i+1<n e) :
  nx a (DW a b W) (4*pt e i+hd e i)=4*pt e (i+1)+hd e (i+1)/\tau a (DW a b W) (4*pt e i+hd e i)=(((hd e (i+1)+6-hd e i)%4:Nat):Int)-2:=by
 have g1:=P.go he (show i<n e by lia);have g2:=P.go he hi;have b1:=s.sym g1;obtain⟨h1,h2,hne,ex⟩:=P.two (P.mid he (by lia) hi) g2;have m1:=(ex _).mp (by rw[g2];rfl);have m2:=(ex _).mp (by rw[b1];rfl);have on:=P.on he hi;have e:=EC (W:=W) (q:=pt e (i+1)) (s.h4 g1) (s.h4 g2) on λj=>by
  rw[ex j];constructor
  ·intro z;lia
  ·intro z;lia
 have:=EA s g1;rw[e]at this;exact this
theorem Pct.last(P:Pct W pl ts os n pt hd)(s:Stp a b W){e i:Nat}(he:e<2*ts.length)(hi:i+1=n e) :
  nx a (DW a b W) (4*pt e i+hd e i)=4*pt (behind ts os e) 0+hd (behind ts os e) 0/\tau a (DW a b W) (4*pt e i+hd e i)=(((hd (behind ts os e) 0+6-hd e i)%4:Nat):Int)-2:=by
 have g1:=P.go he (show i<n e by lia);have ho:=bF he;have gd:=P.good s;have hb:=gd.behind he;have n0:=P.n0 he;have q0:pt (oth e) 0=pt e (i+1):=by rw[P.rp he (by lia),hi];rfl
 have h0:hd (oth e) 0=(hd e i+2)%4:=by rw[P.rh he n0,show n e-1-0=i by lia]
 have pb:pt (behind ts os e) 0=pt e (i+1):=by rw[<-q0];exact(P.same hb.1 ho).mp hb.2
 obtain⟨l,⟨k,r⟩,so,m⟩:=P.row (P.pidx ho);have ml:oth e∈l:=(m _).mpr ⟨ho,rfl⟩;have nd:l.Nodup:=so.imp λ{x y} z e=>by subst e;exact YW _ z
 have eb:behind ts os e=aY l (oth e):=by unfold behind;rw[r];exact pM nd ml
 have pm:pt e (i+1)∈pl:=by rw[<-q0];exact Zg (P.at_ ho)
 have e1:=G6 (W:=W) (q:=pt e (i+1)) (h:=hd e i) so (λw hw=>P.h4 s ((m w).mp hw).1 (P.n0 ((m w).mp hw).1)) (λk=>by
  constructor
  ·intro z;obtain⟨q,hq⟩:=Option.isSome_iff_exists.mp z;obtain⟨w,hw,w1,w2⟩:=P.sur pm hq;exact⟨w,(m w).mpr ⟨hw,(P.same hw ho).mpr (by rw[w1,q0])⟩,w2⟩
  ·rintro⟨w,hw,rfl⟩;obtain⟨hw,hp⟩:=(m w).mp hw;have:=P.go hw (P.n0 hw);rw[(P.same hw ho).mp hp,q0]at this;rw[this];rfl) (s.h4 g1) ml h0
 rw[<-eb]at e1;have:=EA s g1;rw[e1,<-pb]at this;exact this
end
structure Tr(W:Nat->Nat->Option Nat)(pl:List Nat)(n:Nat)(pt hd:Nat->Nat):Prop where
 n0:0<n
 go:∀{i},i<n->W (pt i) (hd i)=some (pt (i+1))
 mid:∀{i},0<i->i<n->pt i∉pl
 on:∀{i},i+1<n->hd (i+1)≠(hd i+2)%4
 fst:pt 0∈pl
 lst:pt n∈pl
def Two(W:Nat->Nat->Option Nat)(pl:List Nat):Prop:=∀{p h q},p∉pl->W p h=some q->∃h1 h2,h1≠h2/\∀k,(W p k).isSome=true↔k=h1\/k=h2
section
variable{a b:Nat}{W:Nat->Nat->Option Nat}{pl:List Nat}{n n':Nat}{pt hd pt' hd':Nat->Nat}
theorem Tr.rev(t:Tr W pl n pt hd)(s:Stp a b W):Tr W pl n (λi=>pt (n-i)) (λi=>(hd (n-1-i)+2)%4) where
 n0:=t.n0
 go:=λ{i} hi=>by
  have:=s.sym (t.go (show n-1-i<n by omega));rw[show n-1-i+1=n-i by lia]at this;rw[show n-(i+1)=n-1-i by lia];exact this
 mid:=λ{i} h0 hi=>t.mid (by lia) (by omega)
 on:=λ{i} hi h=>by
  have:=t.on (i:=n-1-(i+1)) (by omega);rw[show n-1-(i+1)+1=n-1-i by lia]at this;have h4:=s.h4 (t.go (show n-1-i<n by omega));have h4':=s.h4 (t.go (show n-1-(i+1)<n by omega));omega
 fst:=by show pt (n-0)∈pl;rw[YY];exact t.lst
 lst:=by show pt (n-n)∈pl;rw[Nat.sub_self];exact t.fst
theorem Tr.same(t:Tr W pl n pt hd)(t':Tr W pl n' pt' hd')(s:Stp a b W)(tw:Two W pl)(h0:pt 0=pt' 0)(h1:hd 0=hd' 0):∀i,i<=n->i<=n'/\pt i=pt' i/\(i<n->i<n'/\hd i=hd' i)
 |0,_=>⟨YX _,h0,λ_=>⟨t'.n0,h1⟩⟩
 |i+1,hi=>by
  obtain⟨_,e1,e2⟩:=t.same t' s tw h0 h1 i (by lia);obtain⟨l,e3⟩:=e2 (by lia);have g:=t.go (show i<n by lia);have g':=t'.go l;rw[e1,e3,g']at g;have e4:pt (i+1)=pt' (i+1):=(Option.some.inj g).symm;refine⟨l,e4,λhn=>?_⟩;have lt:i+1<n':=by
   rcases Xw (i+1) n' with z | z
   ·exact z
   ·exact Yg (by rw[e4,show i+1=n' by lia];exact t'.lst) (t.mid (by lia) hn)
  refine⟨lt,?_⟩;have g2:=t.go hn;have g2':=t'.go lt;have bk:=s.sym g';rw[e4]at g2;obtain⟨k1,k2,_,ex⟩:=tw (t'.mid (by lia) lt) g2';have m1:=(ex _).mp (by rw[g2];rfl);have m2:=(ex _).mp (by rw[g2'];rfl);have m3:=(ex _).mp (by rw[bk];rfl);have o1:=t.on hn;have o2:=t'.on lt;rw[e3]at o1
  lia
theorem Tr.det(t:Tr W pl n pt hd)(t':Tr W pl n' pt' hd')(s:Stp a b W)(tw:Two W pl)(h0:pt 0=pt' 0)(h1:hd 0=hd' 0):n=n'/\(∀i,i<=n->pt i=pt' i)/\∀i,i<n->hd i=hd' i:=by
 have A:=t.same t' s tw h0 h1;have B:=t'.same t s tw h0.symm h1.symm;have e:n=n':=Nat.le_antisymm (A n (ZA _)).1 (B n' (ZA _)).1;exact⟨e,λi hi=>(A i hi).2.1,λi hi=>((A i (by lia)).2.2 hi).2⟩
theorem Tr.self(t:Tr W pl n pt hd)(s:Stp a b W)(tw:Two W pl):¬(pt n=pt 0/\(hd (n-1)+2)%4=hd 0):=λ⟨h1,h2⟩=>by
 obtain⟨_,_,e⟩:=t.det (t.rev s) s tw (by show pt 0=pt (n-0);rw[YY,h1]) (by show hd 0=(hd (n-1-0)+2)%4;rw[YY,h2]);have n0:=t.n0;by_cases z:n%2=1
 ·have:=e (n / 2) (by lia);have h4:=s.h4 (t.go (show n / 2<n by lia));rw[show n-1-n / 2=n / 2 by lia]at this
  lia
 ·have:=e (n / 2) (by lia);rw[show n-1-n / 2=n / 2-1 by lia]at this;have on:=t.on (i:=n / 2-1) (by lia);rw[show n / 2-1+1=n / 2 by lia]at on;exact on this
def bk(n:Nat)(hd:Nat->Nat):Nat:=(hd (n-1)+2)%4
theorem Tr.meet(t:Tr W pl n pt hd)(t':Tr W pl n' pt' hd')(s:Stp a b W)(tw:Two W pl)(h:(pt n=pt' 0/\bk n hd=hd' 0)\/(pt n=pt' n'/\bk n hd=bk n' hd')):(pt 0=pt' 0/\hd 0=hd' 0)\/(pt 0=pt' n'/\hd 0=bk n' hd'):=by
 have n0:=t.n0;have n0':=t'.n0;have h4:=s.h4 (t.go n0);have h4':=s.h4 (t'.go n0');rcases h with⟨h1,h2⟩ | ⟨h1,h2⟩
 ·obtain⟨e,e1,e2⟩:=(t.rev s).det t' s tw (by show pt (n-0)=_;rw[YY,h1]) (by show(hd (n-1-0)+2)%4=_;rw[YY];exact h2);refine .inr ⟨?_,?_⟩
  ·have:=e1 n (ZA _);rw[Nat.sub_self]at this;rw[this,e]
  ·have:=e2 (n-1) (by lia);rw[Nat.sub_self]at this;unfold bk;rw[<-e,<-this];lia
 ·obtain⟨e,e1,e2⟩:=(t.rev s).det (t'.rev s) s tw (by show pt (n-0)=pt' (n' - 0);rw[YY,YY,h1]) (by show(hd (n-1-0)+2)%4=(hd' (n' - 1-0)+2)%4;rw[YY,YY];exact h2);refine .inl ⟨?_,?_⟩
  ·have:=e1 n (ZA _);rw[Nat.sub_self,e,Nat.sub_self]at this;exact this
  ·have:=e2 (n-1) (by lia);rw[Nat.sub_self,e,Nat.sub_self]at this
   lia
end
theorem C7(f:Nat->Nat)(g:Nat->Int)(d m:Nat):∀k,sm f g d (m+k)=sm f g d m+sm f g (iter f m d) k
 |0=>by show sm f g d m=sm f g d m+0;lia
 |k+1=>by
  show sm f g d (m+k)+g (iter f (m+k) d)=sm f g d m+(sm f g (iter f m d) k+g (iter f k (iter f m d)))
  rw[C7 f g d m k,bG];lia
def nW(hd:Nat->Nat->Nat)(e:Nat):Nat->Int
 |0=>0
 |i+1=>nW hd e i+((((hd e (i+1)+6-hd e i)%4:Nat):Int)-2)
def cor(ts:aR)(os:aT)(hd:Nat->Nat->Nat)(e:Nat):Int:=((hd (oth e) 0:Int)-(hd (behind ts os e) 0:Int)-1)%4+1
section
variable{a b:Nat}{W:Nat->Nat->Option Nat}{pl:List Nat}{ts:aR}{os:aT}{n:Nat->Nat}{pt hd:Nat->Nat->Nat}{c l:Nat->Int}
def fM(pt hd:Nat->Nat->Nat)(e i:Nat):Nat:=4*pt e i+hd e i
theorem Pct.along(P:Pct W pl ts os n pt hd)(s:Stp a b W){e:Nat}(he:e<2*ts.length):∀{i},i<n e->iter (nx a (DW a b W)) i (fM pt hd e 0)=fM pt hd e i/\sm (nx a (DW a b W)) (tau a (DW a b W)) (fM pt hd e 0) i=nW hd e i
 |0,_=>⟨rfl,rfl⟩
 |i+1,hi=>by
  obtain⟨h1,h2⟩:=P.along s he (i:=i) (by lia);obtain⟨s1,s2⟩:=P.step s he hi;refine⟨?_,?_⟩
  ·show nx a (DW a b W) (iter (nx a (DW a b W)) i (fM pt hd e 0))=_;rw[h1];exact s1
  ·show sm _ _ _ i+tau a (DW a b W) (iter (nx a (DW a b W)) i (fM pt hd e 0))=nW hd e i+_;rw[h1,h2];unfold fM;rw[s2]
theorem Pct.line(P:Pct W pl ts os n pt hd)(s:Stp a b W)(hc:∀e,e<2*ts.length->c e=cor ts os hd e)(hl:∀e,e<2*ts.length->l e-l (oth e)=nW hd e (n e-1)){e:Nat}(he:e<2*ts.length) :
  iter (nx a (DW a b W)) (n e) (fM pt hd e 0)=fM pt hd (behind ts os e) 0/\sm (nx a (DW a b W)) (tau a (DW a b W)) (fM pt hd e 0) (n e)=trm c l e:=by
 have n0:=P.n0 he;obtain⟨h1,h2⟩:=P.along s he (i:=n e-1) (by omega);obtain⟨s1,s2⟩:=P.last s he (i:=n e-1) (by lia);obtain⟨m,em⟩:∃m,n e=m+1:=⟨n e-1,by lia⟩
 rw[em,Nat.add_sub_cancel]at h1 h2 s1 s2;rw[em];refine⟨?_,?_⟩
 ·show nx a (DW a b W) (iter (nx a (DW a b W)) m (fM pt hd e 0))=_;rw[h1];exact s1
 ·show sm _ _ _ m+tau a (DW a b W) (iter (nx a (DW a b W)) m (fM pt hd e 0))=_;rw[h1,h2];have hl':=hl e he;rw[em,Nat.add_sub_cancel]at hl';unfold fM;rw[s2];unfold trm;rw[hc e he];unfold cor;have h4:=P.h4 s he (i:=m) (by lia);have b4:=P.h4 s ((P.good s).maps.lt e he) (P.n0 ((P.good s).maps.lt e he));have e0:hd (oth e) 0=(hd e m+2)%4:=by rw[P.rh he n0,em,show m+1-1-0=m by lia]
  rw[e0]
  lia
def lX(ts:aR)(os:aT)(n:Nat->Nat)(e:Nat):Nat->Nat
 |0=>0
 |j+1=>lX ts os n e j+n (iter (behind ts os) j e)
theorem Pct.lines(P:Pct W pl ts os n pt hd)(s:Stp a b W)(hc:∀e,e<2*ts.length->c e=cor ts os hd e)(hl:∀e,e<2*ts.length->l e-l (oth e)=nW hd e (n e-1)){e:Nat}(he:e<2*ts.length) :
  ∀j,iter (nx a (DW a b W)) (lX ts os n e j) (fM pt hd e 0)=fM pt hd (iter (behind ts os) j e) 0/\sm (nx a (DW a b W)) (tau a (DW a b W)) (fM pt hd e 0) (lX ts os n e j)=sm (behind ts os) (trm c l) e j
 |0=>⟨rfl,rfl⟩
 |j+1=>by
  obtain⟨h1,h2⟩:=P.lines s hc hl he j;have hj:=cZ (P.good s).maps he j;obtain⟨s1,s2⟩:=P.line s hc hl hj;refine⟨?_,?_⟩
  ·show iter _ (lX ts os n e j+n (iter (behind ts os) j e)) _=_;rw[bG,h1,s1];rfl
  ·show sm _ _ _ (lX ts os n e j+n (iter (behind ts os) j e))=sm _ _ _ j+_;rw[C7,h1,h2,s2]
theorem Pct.seg(P:Pct W pl ts os n pt hd)(s:Stp a b W){e:Nat}(he:e<2*ts.length):∀j k,k<lX ts os n e j->∃j' i,j' < j/\i<n (iter (behind ts os) j' e)/\k=lX ts os n e j'+i
 |0,k,h=>Yg h (Nat.not_lt_zero _)
 |j+1,k,h=>by
  rcases Xw k (lX ts os n e j) with z | z
  ·obtain⟨j',i,h1,h2,h3⟩:=P.seg s he j k z;exact⟨j',i,by lia,h2,h3⟩
  ·have h':k<lX ts os n e j+n (iter (behind ts os) j e):=h;exact⟨j,k-lX ts os n e j,by lia,by lia,by lia⟩
theorem Pct.come(P:Pct W pl ts os n pt hd)(s:Stp a b W)(hc:∀e,e<2*ts.length->c e=cor ts os hd e)(hl:∀e,e<2*ts.length->l e-l (oth e)=nW hd e (n e-1)){e:Nat}(he:e<2*ts.length){j i:Nat}(hi:i<n (iter (behind ts os) j e)):iter (nx a (DW a b W)) (lX ts os n e j+i) (fM pt hd e 0)=fM pt hd (iter (behind ts os) j e) i:=by
 rw[bG,(P.lines s hc hl he j).1];exact(P.along s (cZ (P.good s).maps he j) hi).1
theorem Pct.hits(P:Pct W pl ts os n pt hd)(s:Stp a b W){e y i:Nat}(he:e<2*ts.length)(hy:y<2*ts.length)(hi:i<n e)(h:fM pt hd e i=fM pt hd y 0):i=0/\e=y:=by
 have h1:=P.h4 s he hi;have h2:=P.h4 s hy (P.n0 hy);unfold fM at h;have ep:pt e i=pt y 0:=by lia
 have eh:hd e i=hd y 0:=by lia
 by_cases z:i=0
 ·subst z;exact⟨rfl,P.inj he hy ep eh⟩
 ·exact Yg (by rw[ep];exact Zg (P.at_ hy)) (P.mid he (by lia) hi)
theorem tS(P:Pct W pl ts os n pt hd)(s:Stp a b W){e:Nat}(he:e<2*ts.length):∀j,j<=lX ts os n e j
 |0=>ZA _
 |j+1=>by
  have:=tS P s he j;have:=P.n0 (cZ (P.good s).maps he j);show j+1<=lX ts os n e j+n (iter (behind ts os) j e)
  lia
theorem IL(f:Nat->Nat)(g:Nat->Int)(d:Nat):∀k,sm f g d k=su (path f d k) g
 |0=>rfl
 |k+1=>by
  rw[jS,mR,aZ,jC];show sm f g d k+g (iter f k d)=_;rw[IL f g d k];lia
theorem Pct.once(P:Pct W pl ts os n pt hd)(s:Stp a b W)(hc:∀e,e<2*ts.length->c e=cor ts os hd e)(hl:∀e,e<2*ts.length->l e-l (oth e)=nW hd e (n e-1)){e:Nat}(he:e<2*ts.length) :
  j5 (nx a (DW a b W)) (tau a (DW a b W)) (fM pt hd e 0) (su (aO (behind ts os) e) (trm c l)):=by
 have m:=(P.good s).maps;obtain⟨⟨r0,r1,r2⟩,_⟩:=dM m he;obtain⟨l1,l2⟩:=P.lines s hc hl he (per (behind ts os) e);refine⟨lX ts os n e (per (behind ts os) e),⟨?_,by rw[l1,r1],λk k0 hk z=>?_⟩,by rw[l2,IL];rfl⟩
 ·have:=tS P s he (per (behind ts os) e);lia
 ·obtain⟨j,i,hj,hi,rfl⟩:=P.seg s he _ k hk;rw[P.come s hc hl he hi]at z;obtain⟨rfl,ee⟩:=P.hits s (cZ m he j) he hi z;by_cases j0:j=0
  ·subst j0;exact Yg k0 (YW _)
  ·exact r2 j (by lia) hj ee
theorem ED{q h:Nat}(hh:h<4):nh W q h<4:=by
 unfold nh;split
 ·omega
 ·split
  ·lia
  ·split<;>lia
theorem pU(s:Stp a b W){d:Nat}(h:(DW a b W).testBit d=true):∃p k q,d=4*p+k/\W p k=some q/\nx a (DW a b W) d=4*q+nh W q k/\(DW a b W).testBit (nx a (DW a b W) d)=true:=by
 obtain⟨q,hq⟩:=Option.isSome_iff_exists.mp ((kT s d).mp h);have ed:d=4*(d / 4)+d%4:=by lia
 have hn:=(EA s hq).1;rw[<-ed]at hn;refine⟨d / 4,d%4,q,ed,hq,hn,?_⟩;have bk:=s.sym hq;have h4:=s.h4 hq;have lt:nh W q (d%4)<4:=ED h4;have ex:(W q (nh W q (d%4))).isSome=true:=by
  unfold nh;split
  ·assumption
  ·split
   ·assumption
   ·split
    ·assumption
    ·rw[bk];rfl
 rw[hn];refine(kT s _).mpr ?_;rw[show(4*q+nh W q (d%4)) / 4=q by lia,show(4*q+nh W q (d%4))%4=nh W q (d%4) by lia];exact ex
theorem mE(s:Stp a b W){d:Nat}(h:(DW a b W).testBit d=true):∀i,(DW a b W).testBit (iter (nx a (DW a b W)) i d)=true
 |0=>h
 |i+1=>by
  obtain⟨_,_,_,_,_,_,z⟩:=pU s (mE s h i);exact z
theorem Pct.reach(P:Pct W pl ts os n pt hd)(s:Stp a b W)(cn:Cnn W){d:Nat}{x:Int}(hd':(DW a b W).testBit d=true)(on:j5 (nx a (DW a b W)) (tau a (DW a b W)) d x):∃i e,e<2*ts.length/\iter (nx a (DW a b W)) i d=fM pt hd e 0:=by
 obtain⟨N,⟨N0,N1,_⟩,_⟩:=on;refine ZS λno=>?_;have out:∀i p k q,iter (nx a (DW a b W)) i d=4*p+k->W p k=some q->p∉pl:=λi p k q e hw hp=>by
  obtain⟨y,hy,y1,y2⟩:=P.sur hp hw;exact no ⟨i,y,hy,by rw[e];unfold fM;rw[y1,y2]⟩
 have key:=cn (λp=>∃i k q,iter (nx a (DW a b W)) i d=4*p+k/\W p k=some q) (λp h q hp hw=>?_)
 ·obtain⟨p,k,q,e1,e2,_⟩:=pU s hd';have hp0:pl[place ts 0]?=some (pt 0 0):=P.at_ (by have:=P.one;lia);have m0:=Zg hp0;obtain⟨h0,q0,w0⟩:=P.pne m0;obtain⟨i,k',q',z1,z2⟩:=key p k q (pt 0 0) h0 q0 e2 w0 ⟨0,k,q,e1,e2⟩;exact out i _ k' q' z1 z2 m0
 ·obtain⟨i,k,r,e1,e2⟩:=hp;have hb:=mE s hd' i;have ei:iter (nx a (DW a b W)) (i+N) d=iter (nx a (DW a b W)) i d:=by rw[Nat.add_comm,bG,N1]
  obtain⟨M,eM⟩:∃M,i+N=M+1:=⟨i+N-1,by lia⟩
  obtain⟨p',k',r',f1,f2,f3,_⟩:=pU s (mE s hd' M);have f4:iter (nx a (DW a b W)) i d=4*r'+nh W r' k':=by rw[<-ei,eM];exact f3
  have k4:=s.h4 e2;have nl:nh W r' k' < 4:=ED (s.h4 f2);have er:r'=p:=by lia
  have ek:nh W r' k'=k:=by lia
  subst er;have hpn:=out i r' k r e1 e2;obtain⟨h1,h2,hne,ex⟩:=P.two hpn e2;have bk:=s.sym f2;have mb:=(ex _).mp (by rw[bk];rfl);have mk:=(ex _).mp (by rw[e2];rfl);have mh:=(ex _).mp (by rw[hw];rfl);have nb:k≠(k'+2)%4:=by
   intro z;have k4':=s.h4 f2;obtain⟨o,ho,hob⟩:∃o,o≠(k'+2)%4/\(W r' o).isSome=true:=by
    rcases mb with y | y
    ·exact⟨h2,by rw[y];exact Yh hne,(ex _).mpr (.inr rfl)⟩
    ·exact⟨h1,by rw[y];exact hne,(ex _).mpr (.inl rfl)⟩
   obtain⟨qo,hqo⟩:=Option.isSome_iff_exists.mp hob;have:=EC (W:=W) (q:=r') k4' (s.h4 hqo) ho λj=>by
    have mo:=(ex o).mp hob;rw[ex j];constructor
    ·intro y;lia
    ·intro y;lia
   lia
  by_cases c:h=k
  ·subst c;have hr:r=q:=Option.some.inj (e2.symm.trans hw);subst hr;obtain⟨p2,k2,q2,g1,g2,g3,_⟩:=pU s hb;have:p2=r'/\k2=h:=by rw[e1]at g1;have:=s.h4 g2;lia
   rw[this.1,this.2,e2]at g2;have hr2:r=q2:=Option.some.inj g2;subst hr2;obtain⟨p3,k3,q3,g4,g5,_⟩:=pU s (mE s hd' (i+1));have e5:iter (nx a (DW a b W)) (i+1) d=4*r+nh W r k2:=g3;have:p3=r:=by
    have:=s.h4 g5;have:=s.h4 e2;have:nh W r k2<4:=ED (by lia)
    lia
   subst this;exact⟨i+1,k3,q3,g4,g5⟩
  ·have:h=(k'+2)%4:=by lia
   rw[this,bk]at hw;cases hw;exact⟨M,k',r',f1,f2⟩
end
section
variable{a b:Nat}{W:Nat->Nat->Option Nat}{pl:List Nat}{ts:aR}{os:aT}{n:Nat->Nat}{pt hd:Nat->Nat->Nat}{c l:Nat->Int}
theorem yU(g:Good ts os){k:Nat}{d:List Nat}(h:(lls ts os)[k]?=some d){x:Nat}(hx:x∈d)(f:Nat->Int):su d f=su (aO (behind ts os) x) f:=by
 have L:=dS g h;exact iJ (lG L.1 (iV g.maps (L.2.1 x hx)) (vD g h hx))
theorem Pct.lands(P:Pct W pl ts os n pt hd)(s:Stp a b W)(hall:iY a (eps a b) 0=true)(h10:a*b<=10)(cn:Cnn W)(hc:∀e,e<2*ts.length->c e=cor ts os hd e)(hl:∀e,e<2*ts.length->l e-l (oth e)=nW hd e (n e-1)) :
  ∃o,o<(lls ts os).length/\∀(k:Nat) (d:List Nat),(lls ts os)[k]?=some d->su d (trm c l)=if k=o then -4 else 4:=by
 have gd:=P.good s;have m:=gd.maps;have one:=P.one;have w0:=P.go (show 0<2*ts.length by lia) (P.n0 (show 0<2*ts.length by lia));obtain⟨s0,sb,on,rest⟩:=FW s hall h10 cn ⟨_,_,_,w0⟩;obtain⟨i0,e0,he0,r0⟩:=P.reach s cn sb on;have on0:=on.iter i0;rw[r0]at on0;obtain⟨o,d0,ho,hm0,_⟩:=vC m he0;refine⟨o,(Zj.mp ho).1,λk d hk=>?_⟩;obtain⟨y,hy⟩:=List.exists_mem_of_ne_nil _ (dS gd hk).2.2.2;have hyN:=(dS gd hk).2.1 y hy;have ony:=P.once s hc hl hyN;rw[<-yU gd hk hy]at ony;by_cases z:k=o
 ·subst z;rw[Yb rfl];have e:d=d0:=Option.some.inj (hk.symm.trans ho);subst e;have:=P.once s hc hl he0;rw[<-yU gd hk hm0]at this;exact this.uniq on0
 ·rw[Ya z];have yb:(DW a b W).testBit (fM pt hd y 0)=true:=by
   have g:=P.go hyN (P.n0 hyN);have:=s.h4 g;refine(kT s _).mpr ?_;unfold fM;rw[show(4*pt y 0+hd y 0) / 4=pt y 0 by lia,show(4*pt y 0+hd y 0)%4=hd y 0 by lia,g];rfl
  rcases rest _ yb with q | ⟨i,q⟩
  ·exact ony.uniq q
  ·exfalso;obtain⟨N,⟨N0,N1,_⟩,_⟩:=on;have e1:iter (nx a (DW a b W)) (i+N*i0) s0=fM pt hd y 0:=by rw[Nat.add_comm,bG,l5 N1];exact q
   have ge:i0<=i+N*i0:=by
    have:=Nat.mul_le_mul_right i0 N0;rw[Nat.one_mul]at this;lia
   rw[show i+N*i0=i0+(i+N*i0-i0) by omega,bG,r0]at e1;obtain⟨j,i',hj,hi',ek⟩:=P.seg s he0 (i+N*i0-i0+1) (i+N*i0-i0) (by have:=tS P s he0 (i+N*i0-i0+1);lia);rw[ek,P.come s hc hl he0 hi']at e1;obtain⟨_,ey⟩:=P.hits s (cZ m he0 j) hyN hi' e1;have my:y∈d0:=(vD gd ho hm0 y).mpr ((fJ m he0).mpr ⟨j,ey⟩);exact z (EJ gd hk hy ho my)
theorem JM(g:Good ts os)(h4:∀p,p<os.length->su (row os p) (λe=>c (oth e))=4):((lls ts os).map λd=>su d (trm c l)).sum=4*(ts.length:Int)-4*(os.length:Int):=by
 rw[<-sW,iJ (yF g.maps)];have e1:su (ZR (2*ts.length)) (trm c l)=su (ZR (2*ts.length)) (λ_=>2)-su (ZR (2*ts.length)) c+su (ZR (2*ts.length)) l-su (ZR (2*ts.length)) (λe=>l (oth e)):=by
  have:trm c l=λe=>((2-c e)+l e)-l (oth e):=rfl;rw[this,mQ,pD,mQ]
 have eo:∀f:Nat->Int,su (ZR (2*ts.length)) (λe=>f (oth e))=su (ZR (2*ts.length)) f:=λf=>by
  rw[<-w9,iJ (DV ts.length)]
 have e2:su (ZR (2*ts.length)) c=4*(os.length:Int):=by
  rw[<-eo c,<-iJ (A8 g),sW,pC]
  ·rw[Zq]
  ·intro x hx;obtain⟨d,hd,rfl⟩:=Zh.mp hx;obtain⟨i,hi,rfl⟩:=Yd.mp hd;have:=h4 i hi;unfold row at this;rw[Zv,Zz hi]at this;exact this
 rw[e1,eo l,e2,uK,Yj]
 lia
theorem HK{o:Nat}(g:Good ts os)(h4:∀p,p<os.length->su (row os p) (λe=>c (oth e))=4)(ho:o<(lls ts os).length)(h:∀(k:Nat) (d:List Nat),(lls ts os)[k]?=some d->su d (trm c l)=if k=o then -4 else 4):Flat ts os:=by
 have t:=JM (l:=l) g h4;have s:=yT ((lls ts os).map λd=>su d (trm c l)) o (by rw[Zq];exact ho) λj hj hne=>by
  rw[Zq]at hj;rw[Zv,Zk,Zz hj];have:=h j _ (Zz hj);rw[Ya hne]at this;exact this
 rw[Zq,Zv,Zk,Zz ho]at s;have s2:=h o _ (Zz ho);rw[Yb rfl]at s2;have s':((lls ts os).map λd=>su d (trm c l)).sum=4*((lls ts os).length:Int)-4+su (lls ts os)[o] (trm c l):=s;unfold Flat;show os.length+(lls ts os).length=ts.length+2
 lia
theorem DF{l:List Nat}(nd:l.Nodup)(h:0<l.length):aY l l[0]=l[l.length-1]:=by
 unfold aY;rw[nd.idxOf_getElem 0 h,Nat.zero_add,Nat.mod_eq_of_lt (by omega),Zv,Zz (by omega)];rfl
theorem DD{l:List Nat}(nd:l.Nodup){i:Nat}(h:i<l.length)(h0:0<i):aY l l[i]=l[i-1]:=by
 unfold aY;rw[nd.idxOf_getElem i h,show i+l.length-1=(i-1)+l.length by lia,Nat.add_mod_right,Nat.mod_eq_of_lt (by omega),Zv,Zz (by omega)];rfl
theorem PQ{f:Nat->Nat}{l:List Nat}(ne:l≠[])(s:l.Pairwise λx y=>f x<f y)(f4:∀w∈l,f w<4):su l (λe=>((f e:Int)-(f (aY l e):Int)-1)%4+1)=4:=by
 have len:=List.length_pos_iff.mpr ne;have up:=List.pairwise_iff_getElem.mp s;have nd:l.Nodup:=s.imp λ{x y} z e=>by subst e;exact YW _ z
 have part:∀j,j<=l.length->su (l.take j) (λe=>((f e:Int)-(f (aY l e):Int)-1)%4+1)=if h:0<j/\j<=l.length then (f (l[j-1]'(by omega)):Int)-(f (l[l.length-1]'(by omega)):Int)+4 else 0:=by
  intro j;induction j with
  |zero=>intro _;rw[dif_neg (by lia)];rfl
  |succ j ih =>
   intro hj;rw[dif_pos ⟨by lia,hj⟩,List.take_succ_eq_append_getElem (by lia),mR,ih (by lia),aZ,jC];have b1:=f4 _ (Zp (show j<l.length by lia));have b2:=f4 _ (Zp (show l.length-1<l.length by lia));by_cases z:j=0
   ·subst z;rw[dif_neg (by lia),DF nd len];have le:f (l[0]'(by lia))<=f (l[l.length-1]'(by lia)):=by
     by_cases q:l.length-1=0
     ·simp only[q];exact ZA _
     ·exact Nat.le_of_lt (up 0 (l.length-1) (by lia) (by lia) (by lia))
    simp only[Nat.zero_add,Nat.sub_self];omega
   ·rw[dif_pos ⟨by lia,by lia⟩,DD nd (by lia) (by lia)];have lt:=up (j-1) j (by lia) (by lia) (by lia);simp only[Nat.add_sub_cancel]
    lia
 have:=part l.length (ZA _);rw[Yw,dif_pos ⟨len,ZA _⟩]at this;rw[this];lia
theorem Pct.plc(P:Pct W pl ts os n pt hd)(s:Stp a b W)(hc:∀e,e<2*ts.length->c e=cor ts os hd e):MM.Plc ts os c:=by
 have gd:=P.good s;refine⟨λe he=>?_,λe he=>?_,λp hp=>?_⟩
 ·rw[hc e he];unfold cor;omega
 ·rw[hc e he];unfold cor;omega
 ·have hp':p<pl.length:=by rw[<-P.ol];exact hp
  obtain⟨l,⟨k,r⟩,so,m⟩:=P.row hp';have rp:(MM.row os p).Perm l:=(show Rot (MM.row os p) l from⟨k,r⟩).perm;have nd:l.Nodup:=so.imp λ{x y} z e=>by subst e;exact YW _ z
  rw[iJ rp];have ne:l≠[]:=λz=>gd.g.full p hp (by rw[z]at rp;exact rp.eq_nil);rw[<-PQ ne so λw hw=>P.h4 s ((m w).mp hw).1 (P.n0 ((m w).mp hw).1)];refine fY λe he=>?_;obtain⟨heN,hpl⟩:=(m e).mp he;rw[hc _ (bF heN)];unfold cor behind;rw[dF,hpl,r,pM nd he]
theorem cyc{l:List Nat}(nd:l.Nodup){S:Nat->Prop}(h:∀x∈l,S x->S (aY l x)){x y:Nat}(hx:x∈l)(hy:y∈l)(sx:S x):S y:=by
 have down:∀(k:Nat) (hk:k<l.length),S l[k]->∀j (hj:j<=k),S (l[j]'(by lia)):=by
  intro k;induction k with
  |zero =>
   intro hk sk j hj;have:j=0:=by lia
   subst this;exact sk
  |succ k ih =>
   intro hk sk j hj;by_cases z:j=k+1
   ·subst z;exact sk
   ·have:=h _ (Zp hk) sk;rw[DD nd hk (by lia)]at this;exact ih (by lia) this j (by lia)
 obtain⟨i,hi,rfl⟩:=Yd.mp hx;obtain⟨j,hj,rfl⟩:=Yd.mp hy;have s0:=down i hi sx 0 (YX _);have s1:=h _ (Zp (show 0<l.length by omega)) s0;rw[DF nd (by omega)]at s1;exact down _ (by omega) s1 j (by omega)
theorem Pct.conn(P:Pct W pl ts os n pt hd)(s:Stp a b W)(cn:Cnn W):ID ts os:=by
 intro S hb ho x y hx hy sx;have gd:=P.good s;have round:∀{e e'},e<2*ts.length->e' < 2*ts.length->pt e 0=pt e' 0->S e->S e':=λ{e e'} he he' z se=>by
  have hp:=(P.same he he').mpr z;have m1:=(gd.g.has e he).2;have m2:=(gd.g.has e' he').2;rw[<-hp]at m2;refine cyc (gd.g.nd _) (λw hw sw=>?_) m1 m2 se;obtain⟨w1,w2⟩:=gd.g.ends _ _ hw;have:=hb _ (bF w1) (ho w w1 sw);unfold behind at this;rw[dF,w2]at this;exact this
 have key:=cn (λp=>∃e i,e<2*ts.length/\S e/\i<=n e/\pt e i=p) (λp h q hp hw=>?_) (pt x 0) _ _ (pt y 0) _ _ (P.go hx (P.n0 hx)) (P.go hy (P.n0 hy)) ⟨x,0,hx,sx,YX _,rfl⟩
 ·have my:pt y 0∈pl:=Zg (P.at_ hy);obtain⟨e,i,he,se,hi,ep⟩:=key;by_cases z:i=0
  ·subst z;exact round he hy ep se
  ·have en:i=n e:=by
    rcases Xw i (n e) with q | q
    ·exact Yg (by rw[ep];exact my) (P.mid he (by lia) q)
    ·lia
   refine round (bF he) hy ?_ (ho e he se);rw[P.rp he (YX _),YY,<-en,ep]
 ·obtain⟨e,i,he,se,hi,rfl⟩:=hp;by_cases c0:pt e i∈pl
  ·obtain⟨e1,h1,s1,p1⟩:∃e1,e1<2*ts.length/\S e1/\pt e1 0=pt e i:=by
    by_cases z:i=0
    ·subst z;exact⟨e,he,se,rfl⟩
    ·have en:i=n e:=by
      rcases Xw i (n e) with q | q
      ·exact Yg c0 (P.mid he (by lia) q)
      ·lia
     exact⟨oth e,bF he,ho e he se,by rw[P.rp he (YX _),YY,<-en]⟩
   obtain⟨e2,h2,p2,d2⟩:=P.sur c0 hw;have s2:=round h1 h2 (p1.trans p2.symm) s1;have g2:=P.go h2 (P.n0 h2);rw[p2,d2,hw]at g2;exact⟨e2,1,h2,s2,P.n0 h2,(Option.some.inj g2).symm⟩
  ·have i0:0<i:=Nat.pos_of_ne_zero λz=>by subst z;exact c0 (Zg (P.at_ he))
   have iN:i<n e:=by
    rcases Xw i (n e) with q | q
    ·exact q
    ·exfalso;have:i=n e:=by lia
     have:=Zg (P.at_ (bF he));rw[P.rp he (YX _),YY,<-‹i=n e›]at this;exact c0 this
   have g1:=P.go he iN;obtain⟨i',rfl⟩:∃i',i=i'+1:=⟨i-1,by lia⟩
   have g0:=P.go he (show i' < n e by lia);have bk:=s.sym g0;obtain⟨k1,k2,kne,ex⟩:=P.two c0 hw;have a1:=(ex _).mp (by rw[g1];rfl);have a2:=(ex _).mp (by rw[bk];rfl);have a3:=(ex _).mp (by rw[hw];rfl);have on:=P.on he iN;by_cases z:h=hd e (i'+1)
   ·rw[z,g1]at hw;exact⟨e,i'+1+1,he,se,by lia,Option.some.inj hw⟩
   ·have:h=(hd e i'+2)%4:=by lia
    rw[this,bk]at hw;exact⟨e,i',he,se,by lia,Option.some.inj hw⟩
theorem Pct.shape(P:Pct W pl ts os n pt hd)(s:Stp a b W)(hall:iY a (eps a b) 0=true)(h10:a*b<=10)(cn:Cnn W)(hc:∀e,e<2*ts.length->c e=cor ts os hd e)(hl:∀e,e<2*ts.length->l e-l (oth e)=nW hd e (n e-1))(hp:∀e,e<2*ts.length->0<=l e) :
  Good ts os/\FC ts os/\∃o,o<(lls ts os).length/\Shp ts os o c l:=by
 have gd:=P.good s;have pc:=P.plc s hc;obtain⟨o,ho,h⟩:=P.lands s hall h10 cn hc hl;exact⟨gd,⟨HK gd pc.at_ ho h,P.conn s cn⟩,o,ho,⟨pc,hp,h⟩⟩
end
end TU
namespace K38
open PySem L2 PyProof.Rows
def M0:Sp:=λvs H Q _=>∃h:Int,vs=[.int h]/\Q (.int ((h+2)%4)) H
theorem KU(T:Txt K mg t):Ok P w base T 14 1 M0:=by
 left
 obtain⟨h,rfl,q⟩:=h;refine⟨_,(by exists aU,0,j7 (T.g 0)),?_⟩;exact⟨(by show(0:Int)<4;decide),q⟩
end K38
namespace L2
open PySem PySem.Spec PyProof.Rows
def ahead(h:Nat)(p q:Pt):Prop:=(h=0/\p.2=q.2/\p.1<q.1)\/(h=1/\p.1=q.1/\p.2<q.2)\/(h=2/\p.2=q.2/\q.1<p.1)\/(h=3/\p.1=q.1/\q.2<p.2)
theorem ahead.trans{h:Nat}{p q r:Pt}(a:ahead h p q)(b:ahead h q r):ahead h p r:=by
 rcases a with⟨rfl,a1,a2⟩ | ⟨rfl,a1,a2⟩ | ⟨rfl,a1,a2⟩ | ⟨rfl,a1,a2⟩
 ·rcases b with⟨_,b1,b2⟩ | ⟨z,_⟩ | ⟨z,_⟩ | ⟨z,_⟩<;>first | exact Yg z (by decide) | exact .inl ⟨rfl,a1.trans b1,Int.lt_trans a2 b2⟩
 ·rcases b with⟨z,_⟩ | ⟨_,b1,b2⟩ | ⟨z,_⟩ | ⟨z,_⟩<;>first | exact Yg z (by decide) | exact .inr (.inl ⟨rfl,a1.trans b1,Int.lt_trans a2 b2⟩)
 ·rcases b with⟨z,_⟩ | ⟨z,_⟩ | ⟨_,b1,b2⟩ | ⟨z,_⟩<;>first | exact Yg z (by decide) | exact .inr (.inr (.inl ⟨rfl,a1.trans b1,Int.lt_trans b2 a2⟩))
 ·rcases b with⟨z,_⟩ | ⟨z,_⟩ | ⟨z,_⟩ | ⟨_,b1,b2⟩<;>first | exact Yg z (by decide) | exact .inr (.inr (.inr ⟨rfl,a1.trans b1,Int.lt_trans b2 a2⟩))
theorem ahead.strt{h:Nat}{p q:Pt}(a:ahead h p q):HZ p q:=by
 rcases a with⟨_,a1,a2⟩ | ⟨_,a1,a2⟩ | ⟨_,a1,a2⟩ | ⟨_,a1,a2⟩
 ·exact .inl ⟨a1,Int.ne_of_lt a2⟩
 ·exact .inr ⟨a1,Int.ne_of_lt a2⟩
 ·exact .inl ⟨a1,(Int.ne_of_lt a2).symm⟩
 ·exact .inr ⟨a1,(Int.ne_of_lt a2).symm⟩
theorem ahead.up{h:Nat}{p q:Pt}(a:ahead h p q):p.1=q.1↔h%2=1:=by
 rcases a with⟨rfl,a1,a2⟩ | ⟨rfl,a1,a2⟩ | ⟨rfl,a1,a2⟩ | ⟨rfl,a1,a2⟩
 ·exact⟨λz=>Yg z (Int.ne_of_lt a2),λz=>Yg z (by decide)⟩
 ·exact⟨λ_=>rfl,λ_=>a1⟩
 ·exact⟨λz=>Yg z.symm (Int.ne_of_lt a2),λz=>Yg z (by decide)⟩
 ·exact⟨λ_=>rfl,λ_=>a1⟩
theorem ahead.lt{h:Nat}{p q:Pt}(a:ahead h p q):h<4:=by
 rcases a with⟨rfl,_⟩ | ⟨rfl,_⟩ | ⟨rfl,_⟩ | ⟨rfl,_⟩<;>decide
structure Walk(ps:List Pt)(hs:Nat->Nat):Prop where
 len:2<=ps.length
 few:ps.length<=100
 go:∀k,k+1<ps.length->ahead (hs k) (pt ps k) (pt ps (k+1))
 on:∀k,k+2<ps.length->hs (k+1)≠(hs k+2)%4
def AF(ps:List Pt):Prop:=∀k,k+1<ps.length->HZ (pt ps k) (pt ps (k+1))
def Bdd(ps:List Pt):Prop:=∀k,k<ps.length->-1000<(pt ps k).1/\(pt ps k).1<1000
theorem oM{ps:List Pt}{x:Pt}{k:Nat}(h:k<ps.length):pt (ps++[x]) k=pt ps k:=by
 unfold pt;simp only[List.getD,Zx h]
theorem tH{ps:List Pt}{x:Pt}:pt (ps++[x]) ps.length=x:=by unfold pt;simp[List.getD]
theorem AF.app{ps:List Pt}{x:Pt}(h:AF ps)(h0:0<ps.length)(hx:HZ (pt ps (ps.length-1)) x):AF (ps++[x]):=by
 intro k hk;rw[Zm,ZQ]at hk;rcases Xw (k+1) ps.length with z | z
 ·rw[oM (by lia),oM z];exact h k z
 ·have e:k+1=ps.length:=by lia
  rw[oM (by lia),e,tH,show k=ps.length-1 by lia];exact hx
theorem Bdd.app{ps:List Pt}{x:Pt}(h:Bdd ps)(hx : -1000<x.1/\x.1<1000):Bdd (ps++[x]):=by
 intro k hk;rw[Zm,ZQ]at hk;rcases Xw k ps.length with z | z
 ·rw[oM z];exact h k z
 ·rw[show k=ps.length by lia,tH];exact hx
theorem FD(vs:List V):gM vs none (some 1)=vs.take 1:=by
 unfold gM HT.sIx;simp only[show ¬((1:Int)<0) by lia,if_false,List.drop_zero,YY];rw[show min (Int.toNat 1) vs.length=min 1 vs.length by rfl];rw[<-List.take_eq_take_min]
theorem MB(vs:List V)(h:1<=vs.length):gM vs (some (-1)) none=vs.drop (vs.length-1):=by
 unfold gM HT.sIx;simp only[show((-1:Int)<0) by lia,if_true];rw[show((-1+(vs.length:Int)).toNat)=vs.length-1 by lia];exact List.take_of_length_le (by rw[Yr];lia)
def eG(hs:Nat->Nat):Nat->List Nat
 |0=>[hs 0]
 |i+1=>if hs (i+1)=hs i then eG hs i else eG hs i++[hs (i+1)]
theorem qM(hs:Nat->Nat):∀i,0<(eG hs i).length
 |0=>Nat.one_pos
 |i+1=>by
  unfold eG;split
  ·exact qM hs i
  ·simp
theorem jZ(hs:Nat->Nat):∀i,(eG hs i).getD ((eG hs i).length-1) 0=hs i
 |0=>rfl
 |i+1=>by
  unfold eG;split
  ·rename_i c;rw[jZ hs i,c]
  ·simp[List.getD]
theorem kM(hs:Nat->Nat):∀i,(eG hs i).getD 0 0=hs 0
 |0=>rfl
 |i+1=>by
  unfold eG;split
  ·exact kM hs i
  ·rw[Zv,Zx (qM hs i),<-Zv];exact kM hs i
theorem ahead.hd{h:Nat}{p q:Pt}(a:ahead h p q):L2.hd p q=(h:Int):=by
 unfold L2.hd;rcases a with⟨rfl,a1,a2⟩ | ⟨rfl,a1,a2⟩ | ⟨rfl,a1,a2⟩ | ⟨rfl,a1,a2⟩
 ·rw[Yb a1,Ya (by lia)];rfl
 ·rw[Ya (by lia),Ya (by lia)];rfl
 ·rw[Yb a1,Yb a2];rfl
 ·rw[Ya (by lia),Yb a2];rfl
def Kh(hs:Nat->Nat)(i:Nat)(kp:List Pt):Prop:=kp.length=(eG hs i).length/\∀j,j+1<kp.length->L2.hd (pt kp j) (pt kp (j+1))=(((eG hs i).getD j 0:Nat):Int)
theorem Kh.start{hs:Nat->Nat}{p:Pt}:Kh hs 0 [p]:=⟨rfl,λj h=>by simp at h⟩
theorem Kh.stay{hs:Nat->Nat}{i:Nat}{kp:List Pt}(e:hs (i+1)=hs i)(k:Kh hs i kp):Kh hs (i+1) kp:=by
 unfold Kh eG;rw[Yb e];exact k
theorem KG{kp:List Pt}{q:Pt}{j:Nat}(h:j<kp.length):pt (kp++[q]) j=pt kp j:=by unfold pt;rw[Zv,Zx h,<-Zv]
theorem O6{kp:List Pt}{q:Pt}:pt (kp++[q]) kp.length=q:=by unfold pt;simp[List.getD]
theorem Kh.heads{hs:Nat->Nat}{i:Nat}{kp:List Pt}{q:Pt}(k:Kh hs i kp)(h0:0<kp.length)(a:ahead (hs i) (pt kp (kp.length-1)) q){j:Nat}(hj:j+1<(kp++[q]).length):L2.hd (pt (kp++[q]) j) (pt (kp++[q]) (j+1))=(((eG hs i).getD j 0:Nat):Int):=by
 rw[Zm,ZQ]at hj;by_cases z:j+1<kp.length
 ·rw[KG (by lia),KG z];exact k.2 j z
 ·have e:j+1=kp.length:=by lia
  rw[e,KG (by lia),O6,show j=kp.length-1 by lia,a.hd,k.1,jZ]
theorem Kh.app{hs:Nat->Nat}{i:Nat}{kp:List Pt}{q:Pt}(e:hs (i+1)≠hs i)(k:Kh hs i kp)(h0:0<kp.length)(a:ahead (hs i) (pt kp (kp.length-1)) q):Kh hs (i+1) (kp++[q]):=by
 unfold Kh eG;rw[Ya e];refine⟨by rw[Zm,Zm,k.1];rfl,λj hj=>?_⟩;rw[k.heads h0 a hj];rw[Zm,ZQ]at hj;congr 1;rw[Zv,Zv,Zx (by rw[<-k.1];lia)]
theorem Kh.end_{hs:Nat->Nat}{i:Nat}{kp:List Pt}{q:Pt}(k:Kh hs i kp)(h0:0<kp.length)(a:ahead (hs i) (pt kp (kp.length-1)) q):hds (kp++[q])=(eG hs i).map λn:Nat=>(n:Int):=by
 unfold hds;refine YQ λj=>?_;rw[Zk,Zk];by_cases z:j<kp.length
 ·rw[Yv (by simp;lia)];have hj:j<(eG hs i).length:=by rw[<-k.1];exact z
  rw[Zz hj];show some (L2.hd _ _)=some _;rw[k.heads h0 a (by simp;lia)];simp[List.getD,hj]
 ·rw[Zr (by simp;lia),Zr (by rw[<-k.1];lia)];rfl
end L2
namespace K38
open PySem L2 PyProof.Rows
def AX:Sp:=λvs H Q _=>∃(l:Addr) (ps:List Pt) (hs:Nat->Nat),vs=[.ref l]/\kQ H l ps/\Walk ps hs/\Bdd ps/\∀r H' kp,H r=none->aJ H H'->kQ H' r kp->IB kp->Bdd kp->hds kp=((eG hs (ps.length-2)).map λn:Nat=>(n:Int))->Q (.ref r) H'
theorem xU(T:Txt K mg t):Ok P w base T 56 1 AX:=by
 left
 obtain⟨l,ps,hs,rfl,hl,hW,hBd,q⟩:=h;refine⟨_,(by exists 1,iA jP (pv 0) gX ?_,iL aQ,0,2,(nO 3 ["_law_j","_law_line_here"] [none,some 0]),2,aU,2,0,aL,aG,1,0,eO,cI,aG,3,aG,3,cI,aG,3,aG,3,1,aG,0,2,hZ,1,iA jP (pv 0) ?_ gX,iL ?_),?_⟩;obtain⟨vs,y1,y2,y3⟩:=id hl;have h2:=hW.len;have h100:=hW.few;have hv0:∃v,vs[0]?=some v/\vs.take 1=[v]:=by
  cases vs with
  |nil=>simp at y2;lia
  |cons v vs=>exact⟨v,rfl,rfl⟩
 obtain⟨v0,hv0,ht0⟩:=hv0;refine⟨_,aB y1,λka hka=>?_⟩;rw[FD,ht0];have g1:=aC hka (.lst [v0]);refine(bU l _ rfl (.inl (aB (g1 _ _ y1))) _ _ rfl ⟨by lia,by lia,by lia,by lia⟩ ?_);rw[y2];refine bV (lo:=1) (n:=((ps.length:Int)-1-1).toNat) (λi σ H'=>aJ H H'/\(∃(us:List V) (kp:List Pt),H' ka=some (.lst us)/\us.length=kp.length/\kp.length<=i+1/\0<kp.length/\(∀(j:Nat) v x,us[j]?=some v->kp[j]?=some x->nK H v x)/\(AF kp/\Bdd kp/\Kh hs i kp)/\ahead (hs i) (pt kp (kp.length-1)) (pt ps (i+1)))/\∃o1 o2,σ=[some (.ref l),some (.ref ka),o1,o2]) ⟨g1,(mL ([v0]) ([pt ps 0]) aA rfl (ZA _) Nat.one_pos (λj v x a b=>?_) ⟨λk hk=>?_,λk hk=>?_,Kh.start⟩ (hW.go 0 (by lia))),none,none,rfl⟩ ?_ ?_
 ·cases j with
  |zero=>simp at a b;subst a b;exact y3 0 _ _ hv0 (pJ (by lia))
  |succ j=>simp at a
 ·simp at hk
 ·have:k=0:=by simpa using hk
  subst this;exact hBd 0 (by lia)
 ·rintro i σ H' hi ⟨g,⟨us,kp,e1,e2,e3,e4,e5,⟨e6,e6b,e6k⟩,e7⟩,o1,o2,rfl⟩;have hi2:i+2<ps.length:=by omega
  have r0:∀j:Nat,j<ps.length->∃a,vs[j]?=some (.ref a)/\H a=some (.tup [.int (pt ps j).1,.int (pt ps j).2]):=λj hj=>by
   obtain⟨_,a,z1,_,z3,z4⟩:=hl.pt (i:=j) hj;rw[y1]at z1;cases z1;exact⟨a,z3,z4⟩
  refine(aN _ _ rfl ⟨by lia,by lia,by lia,by lia⟩ (λD hD=>?_));refine bH (1+(i:Int)+2-(1+(i:Int)-1)).toNat (λj=>.int (pt ps (i+j)).1) hD (by lia) (λj H2 hj _=>hj) (λH2 _=>ZA _) ?_ ?_
  ·rintro j H2 x H3 k hj g6 ⟨rfl,rfl⟩ hk;obtain⟨a,z3,z4⟩:=r0 (i+j) (by lia);exact(eS ((Fills.refl _).set _ rfl) _ (.ref a) (aB (g6 _ _ (g _ _ y1))) (by show atI vs (1+(i:Int)-1+(j:Int))=_;rw[show 1+(i:Int)-1+(j:Int)=((i+j:Nat):Int) by lia];exact bB z3) (aN _ _ (aH (g6 _ _ (g _ _ z4))) rfl (hk _ (aJ.refl _))))
  ·intro H2 g2 e8;rw[show(1+(i:Int)+2-(1+(i:Int)-1)).toNat=3 by lia]at e8;have e9:H2 D=some (.lst [.int (pt ps i).1,.int (pt ps (i+1)).1,.int (pt ps (i+2)).1]):=e8;have o1':=(hW.go i (by lia)).up;have o2':=(hW.go (i+1) (by lia)).up;have on:=hW.on i hi2;have l1:=(hW.go i (by lia)).lt;have l2:=(hW.go (i+1) (by lia)).lt;have gH:=g.trans g2;refine(bU _ _ (aB e9) rfl _ _ (aB e9) rfl (bU _ _ (aB e9) rfl _ _ (aB e9) rfl ?_));have d1:decide (V.int (pt ps i).1=V.int (pt ps (i+1)).1)=decide (hs i%2=1):=by
    rw[decide_eq_decide];exact⟨λz=>o1'.mp (by injection z),λz=>by rw[o1'.mpr z]⟩
   have d2:decide (V.int (pt ps (i+1)).1=V.int (pt ps (i+2)).1)=decide (hs (i+1)%2=1):=by
    rw[decide_eq_decide];exact⟨λz=>o2'.mp (by injection z),λz=>by rw[o2'.mpr z]⟩
   by_cases c:hs i%2=hs (i+1)%2
   ·have e10:hs (i+1)=hs i:=by omega
    refine iFb ?_ ⟨gH,(mL us kp (g2 _ _ e1) e2 (by lia) e4 e5 ⟨e6,e6b,e6k.stay e10⟩ ?_),_,_,rfl⟩
    ·rw[d1,d2,c];simp
    ·rw[e10];refine e7.trans ?_;have:=hW.go (i+1) (by lia);rw[e10]at this;exact this
   ·obtain⟨a,z3,z4⟩:=r0 (i+1) (by lia);refine iTb ?_ (wO (.inl ⟨rfl,_,aB (g2 _ _ e1)⟩) _ _ (aB (gH _ _ y1)) (by show atI vs (1+(i:Int))=_;rw[show 1+(i:Int)=((i+1:Nat):Int) by lia];exact bB z3) _ (g2 _ _ e1) (eV (by lia)) (gH.upd hka) ⟨ (mL (us++[.ref a]) (kp++[pt ps (i+1)]) aA (by simp[e2]) (by simp;lia) (by simp) ?_ ⟨e6.app e4 e7.strt,e6b.app (hBd (i+1) (by lia)),e6k.app (λz=>c (by rw[z])) e4 e7⟩ ?_),_,_,rfl⟩)
    ·rw[d1,d2];simp only[Bool.not_eq_true',decide_eq_false_iff_not,V.bl.injEq];rw[decide_eq_decide];lia
    ·intro j v x h1 h2';rcases Xw j us.length with z | z
     ·rw[Zx z]at h1;rw[Zx (by lia)]at h2';exact e5 j v x h1 h2'
     ·rw[Zy z]at h1;rw[Zy (by lia)]at h2';have hj:j-us.length=0:=by
       have:=(Zj.mp h1).1;simp at this;lia
      rw[hj]at h1;rw[<-e2,hj]at h2';simp at h1 h2';subst h1 h2';exact⟨a,rfl,z4⟩
    ·rw[Zm,ZQ,Nat.add_sub_cancel,tH];exact hW.go (i+1) (by lia)
 ·rintro σ H' ⟨g,⟨us,kp,e1,e2,e3,e4,e5,⟨e6,e6b,e6k⟩,e7⟩,o1,o2,rfl⟩;have hn:((ps.length:Int)-1-1).toNat=ps.length-2:=by lia
  rw[hn]at e3 e7 e6k;rw[show ps.length-2+1=ps.length-1 by lia]at e7;have hvl:∃v,vs[ps.length-1]?=some v/\vs.drop (vs.length-1)=[v]:=by
   have hlt:vs.length-1<vs.length:=by omega
   refine⟨vs[vs.length-1],by rw[<-y2];exact Zz hlt,?_⟩;rw[List.drop_eq_getElem_cons hlt,List.drop_of_length_le (by lia)]
  obtain⟨vl,hvl,htl⟩:=hvl;refine⟨_,aB (g _ _ y1),λsa hsa=>?_⟩;rw[MB vs (by lia),htl];have g3:=aC hsa (.lst [vl]);refine(bS _ _ (g3 _ _ e1) aA (few (by simp;lia)) (λra hra=>?_));have gR:=(g.trans g3).trans (aC hra (.lst (us++[vl])));refine q ra _ (kp++[pt ps (ps.length-1)]) ((g.trans g3).free hra) gR (Lst.app aA e2 (λj v x a b=>nK.mono gR _ _ (e5 j v x a b)) (nK.mono gR _ _ (y3 _ _ _ hvl (pJ (by omega))))) ⟨by simp;lia,by simp;lia,e6.app e4 e7.strt⟩ (e6b.app (hBd _ (by omega))) (e6k.end_ e4 e7)
end K38
namespace K38
open PySem L2 PyProof.Rows
theorem ME{ts:MM.aR}{os:MM.aT}{hs:List Int}{i:Nat}:((ZR i).map λe=>(at0 hs (MM.oth e)-at0 hs (MM.behind ts os e)-1)%4+1).map V.int++[V.int ((at0 hs (MM.oth i)-at0 hs (MM.behind ts os i)-1)%4+1)]=((ZR (i+1)).map λe=>(at0 hs (MM.oth e)-at0 hs (MM.behind ts os e)-1)%4+1).map V.int:=by
 rw[ZH,Zt,Zt];rfl
theorem zL(ll:List (List Pt)):(lfs ll).length=2*ll.length:=by
 induction ll with
 |nil=>rfl
 |cons ps ll ih =>
  unfold lfs at ih ⊢;rw[List.flatMap_cons,Zm,ih];simp;lia
theorem N4(p q:Pt):hd p q=(if p.2=q.2 then (if q.1<p.1 then 1 else 0)*2 else (if q.2<p.2 then 1 else 0)*2+1):=by
 unfold hd;split<;>split<;>rfl
theorem LV(ps:List Pt)(i:Nat):((ZR i).map λk=>hd (pt ps k) (pt ps (k+1))).map V.int++[V.int (hd (pt ps i) (pt ps (i+1)))]=((ZR (i+1)).map λk=>hd (pt ps k) (pt ps (k+1))).map V.int:=by
 rw[ZH,Zt,Zt];rfl
def M4:Sp:=λvs H Q _=>∃(l:Addr) (ps:List Pt),vs=[.ref l]/\kQ H l ps/\1<=ps.length/\ps.length<=1000/\∀r H',H r=none->aJ H H'->H' r=some (.lst ((hds ps).map V.int))->Q (.ref r) H'
theorem D7(T:Txt K mg t):Ok P w base T 57 1 M4:=by
 left
 obtain⟨l,ps,rfl,hl,h1,h2,q⟩:=h;refine⟨_,(by exists 1,0,2,xI (i:=3) (j:=4) rfl nd rfl rfl (by decide) rfl rfl ?_ rfl,aG,0,2,aG,0,2,5,aU,a9 fW rfl (T.z 2) boot_int ?_,aL,4,aL,3,a9 fW rfl (T.z 2) boot_int ?_,aL,4,aL,3,1,aG,5,a9 fW rfl (T.z 2) boot_int ?_,cI,aL,3,aL,4,1),?_⟩;refine⟨few (by decide),λfa hfa=>?_⟩;have g1:=aC hfa (.lst []);obtain⟨vs,y1,y2,y3⟩:=id hl;refine(bU l _ rfl (.inl (aB (g1 _ _ y1))) _ _ rfl ⟨by lia,by lia,by lia,by lia⟩ ?_);rw[y2];refine bV (lo:=1) (n:=((ps.length:Int)-1).toNat) (λi σ H'=>aJ H H'/\H' fa=some (.lst (((ZR i).map λk=>hd (pt ps k) (pt ps (k+1))).map V.int))/\∃o1 o2 o3 o4,σ=[some (.ref l),some (.ref fa),o1,o2,o3,o4]) ⟨g1,aA,(iZ none none none none rfl)⟩ ?_ ?_
 ·rintro i σ H' hi ⟨g,hf,o1,o2,o3,o4,rfl⟩;obtain⟨_,a,z1,_,z3,z4⟩:=hl.pt (i:=i) (by lia);obtain⟨_,b,x1,_,x3,x4⟩:=hl.pt (i:=i+1) (by omega);rw[y1]at z1 x1;cases z1;cases x1;have i1:atI vs ((1+(i:Int))-1)=some (.ref a):=by rw[show(1+(i:Int))-1=(i:Int) by lia];exact bB z3
  have i2:atI vs (1+(i:Int))=some (.ref b):=by rw[show 1+(i:Int)=((i+1:Nat):Int) by lia];exact bB x3
  have za:=g _ _ z4;have xb:=g _ _ x4;refine(bU _ _ (aB (g _ _ y1)) i1 _ _ (aB (g _ _ y1)) i2 ?_);refine(bU _ _ (aH xb) rfl _ _ (aH za) rfl (.inr ⟨_,rfl,.inr ⟨by decide,by decide⟩,?_⟩));refine(bU _ _ (aH xb) rfl _ _ (aH za) rfl (.inr (cR _ rfl (.inr ⟨by decide,by decide⟩) (by show 2<=ZW;decide) (λba hba=>?_))));have g2:=aC hba (.lst [.int ((if decide ((pt ps (i+1)).2<(pt ps i).2)=true then 1 else 0)*2+1),.int ((if decide ((pt ps (i+1)).1<(pt ps i).1)=true then 1 else 0)*2)]);have bN:ba≠fa:=λz=>by subst z;rw[hf]at hba;cases hba
  refine(kD (.inl ⟨rfl,_,aB (g2 _ _ hf)⟩) _ _ (aH (g2 _ _ za)) rfl _ _ (aH (g2 _ _ xb)) rfl (.inr (wM _ rfl _ (.int (hd (pt ps i) (pt ps (i+1)))) (aB aA) ?_ _ (g2 _ _ hf) (eV (by simp;lia)) ⟨ (g.trans g2).upd hfa,?_,(iZ _ _ _ _ rfl)⟩)))
  ·rw[N4];by_cases c:(pt ps i).2=(pt ps (i+1)).2
   ·rw[Yb c,Ye (show V.int (pt ps i).2=V.int (pt ps (i+1)).2 by rw[c])];show some (V.int _)=_;congr 2;simp only[decide_eq_true_eq]
   ·rw[Ya c,Yc (show ¬(V.int (pt ps i).2=V.int (pt ps (i+1)).2) from λz=>c (by injection z))];show some (V.int _)=_;congr 2;simp only[decide_eq_true_eq]
  ·rw[aA,LV]
 ·rintro σ H' ⟨g,hf,o1,o2,o3,o4,rfl⟩;refine(q fa H' hfa g ?_);rw[hf];unfold hds;rw[show((ps.length:Int)-1).toNat=ps.length-1 by lia]
def M3:Sp:=λvs H Q _=>∃(l:Addr) (ll:List (List Pt)),vs=[.ref l]/\B2 H l ll/\ll.length<=1000/\(∀ps∈ll,2<=ps.length/\ps.length<=1000)/\∀r H',H r=none->aJ H H'->H' r=some (.lst ((lvs ll).map V.int))->Q (.ref r) H'
theorem D6(T:Txt K mg t):Ok P w base T 58 2 M3:=by
 left
 obtain⟨l,ll,rfl,hl,hn,hL,q⟩:=h;refine⟨_,(by exists 1,aW ?_,0,2,3,D7,2,1,aG,3,1,aU,aG,3,1),?_⟩;refine⟨few (by decide),λla hla=>?_⟩;obtain⟨vs,e1,e2,e3⟩:=id hl;have g1:=aC hla (.lst []);refine⟨⟨_,aB (g1 _ _ e1)⟩,cV (xs:=vs) (λi σ H'=>aJ H H'/\H' la=some (.lst ((lvs (ll.take i)).map V.int))/\∃o1 o2,σ=[some (.ref l),some (.ref la),o1,o2]) ⟨g1,aA,none,none,rfl⟩ (λi σ H' _ h=>aB (h.1 _ _ e1)) ?_ ?_⟩
 ·rintro i x σ H' hx ⟨g,hla',o1,o2,rfl⟩;have hi:i<ll.length:=by rw[<-e2];exact(Zj.mp hx).1
  obtain⟨l',rfl,hp⟩:=e3 i x ll[i] hx (Zz hi);have Li:=hL ll[i] (Zp hi);have hlen:(lvs (ll.take i)).length=2*i:=by rw[jV,Yx];lia
  have hh:0<(hds ll[i]).length:=by rw[tW];have:=Li.1;omega
  refine(bP l' _ rfl (g.ps hp) (by lia) Li.2 (λr H2 hr0 g2 e=>?_));have nr:r≠la:=λz=>by subst z;rw[hla']at hr0;cases hr0
  refine(AK (.inl ⟨rfl,_,aB (g2 _ _ hla')⟩) _ _ (aB e) (aS hh rfl) _ (g2 _ _ hla') (eV (by rw[Zq];lia)) ?_);have e':upd H2 la (.lst ((lvs (ll.take i)).map V.int++[.int (at0 (hds ll[i]) 0)])) r=some (.lst ((hds ll[i]).map V.int)):=by rw[aF nr];exact e
  refine(eS (.inl ⟨rfl,_,aB aA⟩) _ _ (aB e') (HV hh) (kU (by show(0:Int)<4;decide) _ aA (eV (by simp;lia)) ?_));refine⟨((g.trans g2).upd hla).upd hla,?_,_,_,rfl⟩;rw[aA];unfold lvs;rw[rO zS (Zz hi),Zt,Yp];rfl
 ·rintro σ H' ⟨g,hla',o1,o2,rfl⟩;refine(q la H' hla g ?_);rw[hla',e2,Yw]
def JX:Sp:=λvs H Q _=>∃(wa da pa la:Addr) (n:Nat) (ts:MM.aR) (os:MM.aT) (ll:List (List Pt)),vs=[.ref wa,.ref da]/\eA H wa n ts os/\MM.Good ts os/\H da=some (.tup [.ref pa,.ref la])/\B2 H la ll/\ll.length=ts.length/\ll.length<=1000/\(∀ps∈ll,2<=ps.length/\ps.length<=1000) /\
 ∀r c l H',aJ H H'->H' r=some (.tup [.ref c,.ref l])->H' c=some (.lst ((cns ts os (lvs ll)).map V.int))->H' l=some (.lst ((lfs ll).map V.int))->Q (.ref r) H'
theorem GX(T:Txt K mg t):Ok P w base T 60 3 JX:=by
 left
 obtain⟨wa,da,pa,la,n,ts,os,ll,rfl,hw,hh,hd,hl,hn,h1000,hL,q⟩:=h;refine⟨_,(by exists 2,D6,aL,1,3,2,4,3,aU,aG,2,fU,4,aG,2,iP,aL,0,aL,0,4,5,aW ?_,aL,1,6,7,D7,6,(nO 8 ["_law_k","_law_some"] [none,some 7]),7,0,aG,1,0,aG,1,0,5,hZ,5,fS YL PySem.F.slot_list_count PySem.F.type_list_count u6 ?_ ?_,8,fS YL PySem.F.slot_list_count PySem.F.type_list_count u6 ?_ ?_,8,3,5),?_⟩;obtain⟨tA,oA,hw1,ht,hos⟩:=id hw;refine(eQ _ _ (aH hd) rfl la ll rfl hl h1000 ⟨ hL,λha H1 ha0 g1 e1=>?_⟩);refine⟨few (by decide),λca hca=>?_⟩;have g2:=aC hca (.lst []);have hlen:=jV ll;refine(dJ ha _ rfl (.inl (aB (g2 _ _ e1))) _ rfl (by rw[Zq];lia) (by rw[Zq];lia) ?_);rw[Zq];refine bV (lo:=0) (n:=(((lvs ll).length:Nat):Int).toNat) (λi σ H'=>aJ H1 H'/\H' ca=some (.lst (((ZR i).map λe=>(at0 (lvs ll) (MM.oth e)-at0 (lvs ll) (MM.behind ts os e)-1)%4+1).map V.int))/\∃o,σ=[some (.ref wa),some (.ref da),some (.ref ha),some (.ref ca),o,none,none,none,none]) ⟨g2,aA,none,rfl⟩ ?_ ?_
 ·rintro i σ H' hi ⟨g,hc,o,rfl⟩;have hi':i<2*ts.length:=by lia
  have ho:=MM.bF hi';have hb:=hh.behind hi';have g3:=g1.trans g;refine(CF (.inl ⟨rfl,_,aB hc⟩) i (by simp) _ _ (aB (g _ _ e1)) (aS (j:=MM.oth i) (by lia) rfl) (bU _ _ (aH (g3 _ _ hw1)) rfl _ _ (aH (g3 _ _ hw1)) rfl (cN tA oA ts os i (by simp) (g3.ts ht) (g3.os hos) hh (eS hi' _ _ (aB (g _ _ e1)) (aS (j:=MM.behind ts os i) (by lia) rfl) (kU (by show(0:Int)<4;decide) _ hc (eV (by simp;lia)) ?_)))));refine⟨g.upd hca,?_,_,rfl⟩;rw[aA,ME]
 ·rintro σ H' ⟨g,hc,o,rfl⟩;refine⟨few (by decide),λfa hfa=>?_⟩;have hc':H' ca=some (.lst ((cns ts os (lvs ll)).map V.int)):=hc;have g3:=aC hfa (.lst []);have g13:=g1.trans g;obtain⟨vs,y1,y2,y3⟩:=id hl;refine(aN _ _ (aH (g3 _ _ (g13 _ _ hd))) rfl ⟨ ⟨_,aB (g3 _ _ (g13 _ _ y1))⟩,cV (xs:=vs) (λi σ H2=>aJ H' H2/\∃(fb:Addr),H2 fb=some (.lst ((lfs (ll.take i)).map V.int))/\∃o o2 o3 o4,σ=[some (.ref wa),some (.ref da),some (.ref ha),some (.ref ca),o,some (.ref fb),o2,o3,o4]) ⟨g3,fa,aA,(iZ _ none none none rfl)⟩ (λi σ H' _ h=>aB (h.1 _ _ (g13 _ _ y1))) ?_ ?_⟩)
  ·rintro i x σ H2 hx ⟨g4,fb,hf,o,o2,o3,o4,rfl⟩;have hi:i<ll.length:=by rw[<-y2];exact(Zj.mp hx).1
   obtain⟨l',rfl,hp⟩:=y3 i x ll[i] hx (Zz hi);have Li:=hL ll[i] (Zp hi);have hlen2:(lfs (ll.take i)).length=2*i:=by rw[zL,Yx];lia
   have hdl:=tW ll[i];refine(bP l' _ rfl ((g13.trans g4).ps hp) (by lia) Li.2 (λr H3 hr0 g5 e5=>?_));refine(bU r _ rfl (.inl (aB e5)) _ _ rfl ⟨by decide,by decide,by rw[Zq];lia,by rw[Zq];omega⟩ (λD hD=>?_));rw[Zq];refine bH ((((hds ll[i]).length:Nat):Int)-1).toNat (λk=>.int ((at0 (hds ll[i]) (k+1)-at0 (hds ll[i]) k)%4)) hD (by omega) (λj H' hj _=>hj) (λH' _=>ZA _) ?_ ?_
   ·rintro j H' x H'' k hj g6 ⟨rfl,rfl⟩ hk;refine(kD ((Fills.refl _).set _ rfl) _ _ (aB (g6 _ _ e5)) (aS (j:=j+1) (by omega) (by lia)) _ _ (aB (g6 _ _ e5)) (aS (j:=j) (by omega) (by lia)) ⟨ (by show(0:Int)<4;decide),hk _ (aJ.refl _)⟩)
   ·intro H4 g6 e6;have e7:H4 D=some (.lst ((dif (hds ll[i]) 0).map V.int)):=by
     rw[e6];unfold dif;rw[Yn,show((((hds ll[i]).length:Nat):Int)-1).toNat=(hds ll[i]).length-1 by lia];congr 2;refine Yt λk _=>?_;simp only[Function.comp,Int.sub_zero]
    refine(wQ (.inl ⟨rfl,_,aB e7⟩) _ _ rfl e7 (.inl ⟨rfl,_,aB e7⟩) _ _ rfl ⟨ e7,(by show 2<=ZW;decide),λna hna=>?_⟩);have g8:=aC hna (.lst [.int (cnt ll[i] 1),.int (cnt ll[i] 3)]);refine(bS _ _ (g8 _ _ (g6 _ _ (g5 _ _ hf))) aA (few (by simp;lia)) (λfc hfc=>?_));refine⟨(((g4.trans g5).trans g6).trans g8).trans (aC hfc _),fc,?_,(iZ _ _ _ _ rfl)⟩;rw[aA];unfold lfs;rw[rO _ (Zz hi),Zt];rfl
  ·rintro σ H2 ⟨g4,fb,hf,o,o2,o3,o4,rfl⟩;refine⟨(by show 2<=ZW;decide),λr hr0=>q r ca fb _ ((g13.trans g4).trans (aC hr0 _)) aA ?_ ?_⟩
   ·rw[aF (aI (g4 _ _ hc') hr0)];exact g4 _ _ hc'
   ·rw[aF (aI hf hr0),hf,y2,Yw]
end K38
namespace L2
open PySem PySem.Spec PyProof.Rows
def Go(a b h p q:Nat):Prop:=(h=0/\p%a+1<a/\q=p+1)\/(h=1/\p / a+1<b/\q=p+a)\/(h=2/\q%a+1<a/\p=q+1)\/(h=3/\q / a+1<b/\p=q+a)
theorem Go.sym{a b h p q:Nat}(s:Go a b h p q):Go a b ((h+2)%4) q p:=by
 unfold Go at s ⊢;rcases s with⟨rfl,h1,h2⟩ | ⟨rfl,h1,h2⟩ | ⟨rfl,h1,h2⟩ | ⟨rfl,h1,h2⟩
 ·exact .inr (.inr (.inl ⟨rfl,h1,h2⟩))
 ·exact .inr (.inr (.inr ⟨rfl,h1,h2⟩))
 ·exact .inl ⟨rfl,h1,h2⟩
 ·exact .inr (.inl ⟨rfl,h1,h2⟩)
def nr(a b p h:Nat):Option Nat:=if h=0 then (if p%a+1<a then some (p+1) else none) else (if p / a+1<b then some (p+a) else none)
def von:Option Nat->V
 |none=>.non
 |some q=>vn q
theorem nG{a b p:Nat}(h:p<a*b)(ha:0<a):p / a<b:=(Nat.div_lt_iff_lt_mul ha).mpr (by rw[Nat.mul_comm];exact h)
theorem NU{a b p h q:Nat}(ha:0<a)(hh:h<2)(hp:p<a*b)(e:nr a b p h=some q):Go a b h p q/\q<a*b:=by
 unfold nr at e;have e0:=Nat.div_add_mod p a;have hd:=nG hp ha;split at e
 ·rename_i h0
  split at e
  ·rename_i h1
   injection e with e;refine⟨.inl ⟨h0,h1,e.symm⟩,?_⟩;have:a*(p / a)+a<=a*b:=by rw[<-Nat.mul_succ];exact Nat.mul_le_mul_left a hd
   lia
  ·cases e
 ·rename_i h0
  split at e
  ·rename_i h1
   injection e with e;refine⟨.inr (.inl ⟨by lia,h1,e.symm⟩),?_⟩;have:a*(p / a)+a+a<=a*b:=by rw[<-Nat.mul_succ,<-Nat.mul_succ];exact Nat.mul_le_mul_left a h1
   have:=Nat.mod_lt p ha
   lia
  ·cases e
end L2
namespace K38
open PySem L2 PyProof.Rows
def JZ:Sp:=λvs H Q _=>∃(s:Addr) (a b p h:Nat),vs=[.ref s,vn p,vn h]/\H s=some (.tup [vn a,vn b])/\0<a/\a<=10/\b<=10/\p<a*b/\h<2/\∀H',aJ H H'->Q (von (nr a b p h)) H'
theorem G1(T:Txt K mg t):Ok P w base T 52 1 JZ:=by
 left
 obtain⟨s,a,b,p,h,rfl,hs,ha,ha10,hb10,hp,hh,q⟩:=h;refine⟨_,(by exists 3,aU,1,aL,0,aG,2,4,aU,bM,1,aL,0,aG,2,3,3,aL,0,4,4,aL,0,aU,3,aL,0,4),?_⟩;have hd:=nG hp ha;have hm:=Nat.mod_lt p ha;have e0:=Nat.div_add_mod p a;have c0:(0:Int)<(a:Int):=by lia
 refine(aN _ _ (aH hs) rfl ⟨ c0,(by show 4<=ZW;decide),λl1 hl1=>?_⟩);have g1:=aC hl1 (.lst [.int 1,.int 0,.int (-1),.int 0]);have x1:atI [V.int 1,.int 0,.int (-1),.int 0] (h:Int)=some (.int (if h=0 then 1 else 0)):=by
  rcases(by lia:h=0\/h=1) with rfl | rfl<;>rfl
 have x2:atI [V.int 0,.int 1,.int 0,.int (-1)] (h:Int)=some (.int (if h=0 then 0 else 1)):=by
  rcases(by lia:h=0\/h=1) with rfl | rfl<;>rfl
 refine(aN _ _ (aB aA) x1 ?_);refine(aN _ _ (aH (g1 _ _ hs)) rfl ⟨ ⟨c0,by lia⟩,(by show 4<=ZW;decide),λl2 hl2=>?_⟩);have g2:=g1.trans (aC hl2 (.lst [.int 0,.int 1,.int 0,.int (-1)]));have hs2:=g2 _ _ hs;refine(aN _ _ (aB aA) x2 ?_);have q':=q _ g2;have m1:((p:Int)%(a:Int))=((p%a:Nat):Int):=by lia
 have m2:((p:Int) / (a:Int))=((p / a:Nat):Int):=by lia
 dsimp only;rw[m1,m2];have nn:(0:Int)<=((p / a:Nat):Int):=Int.natCast_nonneg _;refine iFb (Yc (by split<;>lia)) (aN _ _ (aH hs2) rfl ?_);unfold nr at q';have fin:∀{x y:Int}{r:Nat},x+(a:Int)*y=(r:Int)->Q (vn r) (upd (upd H l1 (.lst [.int 1,.int 0,.int (-1),.int 0])) l2 (.lst [.int 0,.int 1,.int 0,.int (-1)]))->Q (.int (x+(a:Int)*y)) (upd (upd H l1 (.lst [.int 1,.int 0,.int (-1),.int 0])) l2 (.lst [.int 0,.int 1,.int 0,.int (-1)])):=λ{x y r} e z=>by rw[e];exact z
 rcases(by lia:h=0\/h=1) with rfl | rfl
 ·rw[Yb rfl]at q' ⊢;rw[Yb rfl];by_cases c:p%a+1<a
  ·rw[Yb c]at q';refine iFb (Yc (by lia)) (iFb (Yc (by lia)) (aN _ _ (aH hs2) rfl (iFb (Yc (by lia)) ?_)));refine(aN _ _ (aH hs2) rfl ⟨ .inl ⟨by lia,by lia⟩,fin (r:=p+1) ?_ q'⟩);have:((a*(p / a):Nat):Int)=(a:Int)*((p / a:Nat):Int):=Int.natCast_mul _ _;rw[Int.add_zero,<-this];lia
  ·rw[Ya c]at q';exact iTb (Ye (by lia)) (iT q')
 ·rw[Ya (by decide)]at q' ⊢;rw[Ya (by decide)];refine iFb (Yc (by lia)) (iFb (Yc (by lia)) (aN _ _ (aH hs2) rfl ?_));by_cases c:p / a+1<b
  ·rw[Yb c]at q';refine iFb (Yc (by lia)) (aN _ _ (aH hs2) rfl ⟨ .inl ⟨by lia,by lia⟩,fin (r:=p+a) ?_ q'⟩);have:((a*(p / a):Nat):Int)=(a:Int)*((p / a:Nat):Int):=Int.natCast_mul _ _;rw[Int.mul_add,<-this];lia
  ·rw[Ya c]at q';exact iTb (Ye (by lia)) q'
end K38
namespace L2
open PySem PySem.Spec PyProof.Rows
theorem Go.det{a b h p q r:Nat}(x:Go a b h p q)(y:Go a b h p r):q=r:=by unfold Go at x y;lia
structure Net(a b:Nat)(W:Nat->Nat->Option Nat):Prop where
 go:∀p h q,W p h=some q->h<4/\p<a*b/\q<a*b/\Go a b h p q
 sym:∀p h q,W p h=some q->W q ((h+2)%4)=some p
theorem MK{a b h p q r:Nat}(hh:h<4)(x:Go a b h p q)(y:Go a b h r q):p=r:=by
 have:=x.sym.det y.sym;exact this
def uT(W:Nat->Nat->Option Nat)(p h q:Nat):Nat->Nat->Option Nat:=λx y=>if x=p/\y=h then some q else W x y
theorem Net.put{a b:Nat}{W:Nat->Nat->Option Nat}(n:Net a b W){p h q:Nat}(hh:h<2)(hp:p<a*b)(hq:q<a*b)(g:Go a b h p q):Net a b (uT (uT W p h q) q (h+2) p) where
 go:=by
  intro x y z e;unfold uT at e;split at e
  ·rename_i c;injection e with e;subst e
   obtain⟨rfl,rfl⟩:=c;have:=g.sym;rw[show(h+2)%4=h+2 by lia]at this;exact⟨by lia,hq,hp,this⟩
  ·split at e
   ·rename_i c;injection e with e;subst e
    obtain⟨rfl,rfl⟩:=c;exact⟨by lia,hp,hq,g⟩
   ·exact n.go x y z e
 sym:=by
  intro x y z e;unfold uT at e ⊢;split at e
  ·rename_i c;injection e with e;subst e
   obtain⟨rfl,rfl⟩:=c;rw[Ya (by lia),Yb (by lia)]
  ·split at e
   ·rename_i c;injection e with e;subst e
    obtain⟨rfl,rfl⟩:=c;rw[Yb (by lia)]
   ·rename_i c1 c2
    have o:=n.sym x y z e;obtain⟨b1,b2,b3,b4⟩:=n.go x y z e;by_cases d1:z=q/\(y+2)%4=h+2
    ·obtain⟨rfl,d2⟩:=d1;have ey:y=h:=by lia
     subst ey;rw[Yb ⟨rfl,d2⟩,MK b1 b4 g]
    ·rw[Ya d1];by_cases d2:z=p/\(y+2)%4=h
     ·obtain⟨rfl,d3⟩:=d2;rw[Yb ⟨rfl,d3⟩];have:=b4.sym;rw[d3]at this;rw[this.det g]
     ·rw[Ya d2];exact o
abbrev kk(p h:Nat):List Key:=[.inl (p:Int),.inl (h:Int)]
def DWs(kvs:List (List Key×V))(W:Nat->Nat->Option Nat):Prop:=(∀e∈kvs,∃p h q:Nat,e=(kk p h,vn q))/\∀p h:Nat,bJ kvs (kk p h)=(W p h).map vn
theorem jG{p h p' h':Nat}:kk p h=kk p' h'↔p=p'/\h=h':=by
 constructor
 ·intro e;injection e with e1 e2;injection e2 with e2 e3;injection e1 with e1;injection e2 with e2
  lia
 ·rintro⟨rfl,rfl⟩;rfl
theorem yY{κ:Type}[DecidableEq κ]{kvs:List (κ×V)}{k:κ}{v:V}{e:κ×V}(h:e∈putK kvs k v):e∈kvs\/e=(k,v):=by
 unfold putK at h;split at h
 ·obtain⟨x,hx,rfl⟩:=Zh.mp h;by_cases c:x.1=k
  ·rw[Yb c,c];exact .inr rfl
  ·rw[Ya c];exact .inl hx
 ·rcases Zf.mp h with z | z
  ·exact .inl z
  ·exact .inr (by simpa using z)
theorem DA{κ:Type}[DecidableEq κ](kvs:List (κ×V))(k:κ)(v:V):putK kvs k v≠[]:=by
 intro e;have:=cE kvs k k v;rw[e,Yb rfl]at this;cases this
theorem DWs.put{kvs:List (List Key×V)}{W:Nat->Nat->Option Nat}(d:DWs kvs W)(p h q:Nat):DWs (putK kvs (kk p h) (vn q)) (uT W p h q):=by
 refine⟨λe he=>?_,λx y=>?_⟩
 ·rcases yY he with z | z
  ·exact d.1 e z
  ·exact⟨p,h,q,z⟩
 ·rw[cE];unfold uT;by_cases c:x=p/\y=h
  ·rw[Yb c,Yb (jG.mpr c)];rfl
  ·rw[Ya c,Ya (λz=>c (jG.mp z))];exact d.2 x y
theorem DWs.nil:DWs [] (λ_ _=>none):=⟨λe he=>(by cases he),λp h=>rfl⟩
theorem uH{κ:Type}[DecidableEq κ]{k:κ}{v:V}:∀{kvs:List (κ×V)},bJ kvs k=some v->(k,v)∈kvs
 |[],e=>by cases e
 |p::r,e=>by
  by_cases c:p.1=k
  ·rw[cF c]at e;injection e with e;subst e c;exact Zd
  ·rw[cG c]at e;exact Zw _ (uH e)
theorem jA{κ:Type}[DecidableEq κ]{k:κ}{v:V}:∀{kvs:List (κ×V)},(k,v)∈kvs->∃u,bJ kvs k=some u
 |p::r,e=>by
  by_cases c:p.1=k
  ·exact⟨_,cF c⟩
  ·rw[cG c];rcases Zn.mp e with z | z
   ·exact Yg (by rw[<-z]) c
   ·exact jA z
structure Cm(W:Nat->Nat->Option Nat)(N:Nat)(come:List Nat):Prop where
 nd:come.Nodup
 lt:∀p∈come,p<N
 ne:0<come.length
 out:∀p∈come,∃h q,W p h=some q
 cn:∃r,r∈come/\∀S:Nat->Prop,(∀p h q,S p->W p h=some q->S q)->S r->∀p∈come,S p
structure eJ(W:Nat->Nat->Option Nat)(N:Nat)(come:List Nat):Prop extends Cm W N come where
 cl:∀p h q,W p h=some q->p∈come
theorem Cm.few{W:Nat->Nat->Option Nat}{N:Nat}{come:List Nat}(c:Cm W N come):come.length<=N:=MM.bE N come c.nd c.lt
theorem fK{l m:List Nat}{i:Nat}(h:i<l.length):(l++m).getD i 0=l.getD i 0:=by simp only[List.getD,Zx h]
theorem mem_getD{l:List Nat}{x:Nat}(h:x∈l):∃i,i<l.length/\l.getD i 0=x:=by
 obtain⟨i,hi,rfl⟩:=List.getElem_of_mem h;exact⟨i,hi,by simp[List.getD,hi]⟩
theorem A5{ns:List Int}{l:List Nat}(p:ns.Perm (l.map λn:Nat=>(n:Int))):∃cm:List Nat,ns=(cm.map λn:Nat=>(n:Int))/\cm.Perm l:=by
 refine⟨ns.map Int.toNat,?_,?_⟩
 ·rw[Yn];have:∀x∈ns,x=((λn:Nat=>(n:Int))∘Int.toNat) x:=λx hx=>by
   obtain⟨n,_,rfl⟩:=Zh.mp (p.mem_iff.mp hx);simp
  have e:=Yt (f:=λx:Int=>x) this;rw[List.map_id']at e;exact e
 ·have:=p.map Int.toNat;rw[Yn]at this;have e:l.map (Int.toNat∘λn:Nat=>(n:Int))=l:=by
   have h:∀x∈l,(Int.toNat∘λn:Nat=>(n:Int)) x=(λx:Nat=>x) x:=λx _=>by simp
   rw[Yt h,List.map_id']
  rw[e]at this;exact this
theorem eJ.perm{W:Nat->Nat->Option Nat}{N:Nat}{l cm:List Nat}(c:eJ W N l)(p:cm.Perm l):eJ W N cm :=
 ⟨⟨p.nodup_iff.mpr c.nd,λx hx=>c.lt x (p.mem_iff.mp hx),by rw[p.length_eq];exact c.ne,λx hx=>c.out x (p.mem_iff.mp hx),let⟨r,hr,h⟩:=c.cn;⟨r,p.mem_iff.mpr hr,λS cl sr x hx=>h S cl sr x (p.mem_iff.mp hx)⟩⟩,λx h q e=>p.mem_iff.mpr (c.cl x h q e)⟩
theorem kX(l:List Nat)(x:Nat):vns l++[vn x]=vns (l++[x]):=by unfold vns;rw[Zt];rfl
theorem ER{a b:Nat}{W:Nat->Nat->Option Nat}{come:List Nat}(n:Net a b W)(c:Cm W (a*b) come)(cl:∀p∈come,∀h q,W p h=some q->q∈come) :
  Net a b (λp h=>if p∈come then W p h else none)/\eJ (λp h=>if p∈come then W p h else none) (a*b) come:=by
 refine⟨⟨λp h q e=>?_,λp h q e=>?_⟩,⟨⟨c.nd,c.lt,c.ne,λp hp=>?_,?_⟩,λp h q e=>?_⟩⟩
 ·split at e
  ·exact n.go p h q e
  ·cases e
 ·split at e
  ·rename_i hp
   rw[Yb (cl p hp h q e)];exact n.sym p h q e
  ·cases e
 ·obtain⟨h,q,e⟩:=c.out p hp;exact⟨h,q,by rw[Yb hp];exact e⟩
 ·obtain⟨r,hr,h⟩:=c.cn;refine⟨r,hr,λS cl' sr p hp=>(h (λx=>x∈come/\S x) (λp h q z e=>⟨cl p z.1 h q e,cl' p h q z.2 (by rw[Yb z.1];exact e)⟩) ⟨hr,sr⟩ p hp).2⟩
 ·split at e
  ·assumption
  ·cases e
end L2
namespace K38
open PySem L2 PyProof.Rows
def JW:Sp:=λvs H Q _=>∃(sa za:Addr) (ns:List Int) (a b:Nat),vs=[.ref sa,.ref za]/\SqL H sa (ns.map V.int)/\H za=some (.tup [vn a,vn b])/\0<a/\0<b/\a<=10/\b<=10/\a*b<=10/\(1<a\/1<b) /\
 ∀r ka ca H' kvs come W,aJ H H'->H' r=some (.tup [.ref ka,.ref ca])->H' ka=some (.dT kvs)->H' ca=some (.lst (vns come))->DWs kvs W->Net a b W->eJ W (a*b) come->Q (.ref r) H'
theorem GW(T:Txt K mg t):Ok P w base T 53 2 (JW):=by
 left
 obtain⟨sa,za,ns,a,b,rfl,hS,hz,ha,hb,ha10,hb10,hab,h1,q⟩:=h;have hu:=sH hr;refine⟨_,(by exists 2,lH,aL,1,aL,1,3,4,G1,1,bM,3,3,5,dI,cP,0,aU,3,aU,3,GT,4,5,(KQ hr.units0),2,lH,jQ hu (pv 2) ?_ (pv 4) rfl,bM,3,3,jQ hu (pv 2) ?_ ?_ rfl,4,aU,3,bM,3,6,jH,aP (BW rfl (PN hr)) rfl (T.z 7) boot_min ?_,2,7,7,6,8,dQ,DR hu (pv 2) ?_ ?_ ⟨rfl,rfl,rfl,rfl⟩,aG,6,7,8,aG,6,6,6,lJ hu (pv 2) ?_ (λ_ _=>rfl),aG,6,7,8,7,aU,7,9,lH,GP (pv 2),10,r8,aL,10,6,jQ hu (pv 9) (pv 10) ?_ rfl,lJ hu (pv 2) (pv 10) (λ_ _=>rfl),9,aP mD rfl (T.z 9) boot_sorted ?_,6),?_⟩;refine λfd hfd=>?_;have g1:=aC hfd (.dT []);have eN:((2:Int)*(a:Int)*(b:Int)).toNat=2*(a*b):=by
  rw[Int.mul_assoc,<-Int.natCast_mul];lia
 have eI:(2:Int)*(a:Int)*(b:Int)=2*((a*b:Nat):Int):=by rw[Int.mul_assoc,<-Int.natCast_mul]
 refine(aN _ _ (aH (g1 _ _ hz)) rfl (eS (.inl ⟨by decide,by decide⟩) _ _ (aH (g1 _ _ hz)) rfl (CG (.inr ⟨by lia,by lia⟩) _ rfl (by lia) (by lia) ?_)));refine bV (lo:=0) (n:=((2:Int)*(a:Int)*(b:Int)).toNat) (λi σ H'=>aJ H H'/\(∃kvs W,H' fd=some (.dT kvs)/\DWs kvs W/\Net a b W/\kvs.length<=2*i/\(kvs=[]->∀j,j<i->nr a b (j / 2) (j%2)=none))/\∃o1 o2 o3,σ=[some (.ref sa),some (.ref za),some (.ref fd),o1,o2,o3,none,none,none,none,none]) ⟨g1,(bP ([]) (λ_ _=>none) aA DWs.nil ⟨λp h q e=>(by cases e),λp h q e=>(by cases e)⟩ (YX _) (λ_ j hj=>by lia)),none,none,none,rfl⟩ ?_ ?_
 ·rintro i σ H' hi ⟨g,⟨kvs,W,e1,e2,e3,e4,e5⟩,o1,o2,o3,rfl⟩;rw[eN]at hi;have hp:i / 2<a*b:=by lia
  have ei:(0:Int)+(i:Int)=(i:Int):=by lia
  rw[ei];refine(wR ⟨by decide,by decide⟩ (by show(0:Int)<2;decide) za a b (i / 2) (i%2) ?_ (g _ _ hz) (oW ha ha10 hb10 hp (by lia) (λH2 g2=>?_)))
  ·show[V.ref za,V.int ((i:Int) / 2),V.int ((i:Int)%2)]=_;rw[show(i:Int) / 2=((i / 2:Nat):Int) by lia,show(i:Int)%2=((i%2:Nat):Int) by lia]
  have gH:=g.trans g2;refine(CD (by show(0:Int)<6;decide) sa ns _ rfl (gH.seq hS) (by lia) (λc=>?_));refine(bS c _ rfl (by lia) (by lia) (λm hm0 hm1=>?_));have rest:∀H3,aJ H H3->H3 fd=some (.dT kvs)->nr a b (i / 2) (i%2)=none->∃kvs W,H3 fd=some (.dT kvs)/\DWs kvs W/\Net a b W/\kvs.length<=2*(i+1)/\(kvs=[]->∀j,j<i+1->nr a b (j / 2) (j%2)=none):=λH3 _ f3 c0=>(bP kvs W f3 e2 e3 (by lia) (λz j hj=>by
   rcases Xw j i with y | y
   ·exact e5 z j y
   ·rw[show j=i by lia];exact c0))
  have rest2:∀H3,aJ H H3->H3 fd=some (.dT kvs)->kvs≠[]->∃kvs W,H3 fd=some (.dT kvs)/\DWs kvs W/\Net a b W/\kvs.length<=2*(i+1)/\(kvs=[]->∀j,j<i+1->nr a b (j / 2) (j%2)=none):=λH3 _ f3 c0=>(bP kvs W f3 e2 e3 (by lia) (λz=>Yg z c0))
  have c1:(i:Int) / 2=((i / 2:Nat):Int):=by lia
  have c2:(i:Int)%2=((i%2:Nat):Int):=by lia
  cases ec:nr a b (i / 2) (i%2) with
  |none =>
   refine⟨rfl,iFb (by rfl) (iF ⟨gH,rest H2 gH (g2 _ _ e1) ec,_,_,_,rfl⟩)⟩
  |some qq =>
   obtain⟨gq,hq⟩:=NU ha (by lia) hp ec;have dput:DWs (putK (putK kvs (kk (i / 2) (i%2)) (vn qq)) (kk qq (i%2+2)) (.int ((i:Int) / 2))) (uT (uT W (i / 2) (i%2) qq) qq (i%2+2) (i / 2)):=by rw[c1];exact(e2.put _ _ _).put _ _ _
   have tk:∀{H3:Hp}{T:Addr}{x y:Int}{p h:Nat},H3 T=none->x=(p:Int)->y=(h:Int)->upd H3 T (.tup [.int x,.int y]) T=some (.tup ((kk p h).map kV)):=λ{H3 T x y p h} _ e1 e2=>by rw[aA,e1,e2];rfl
   refine⟨rfl,iTb (by rfl) ⟨(by show(0:Int)<4;decide),i2 (λ_=>iT ?_) λ_=>?_⟩⟩
   ·refine⟨⟨by decide,by decide⟩,(by show(0:Int)<2;decide),(by show 2<=ZW;decide),λT1 hT1=>⟨_,j6.t (k:=kk (i / 2) (i%2)) (aC hT1 _ _ _ (g2 _ _ e1)) (tk hT1 c1 c2) (eV (by lia)),?_⟩⟩;refine⟨⟨by decide,by decide⟩,(by show(0:Int)<2;decide),(by show 2<=ZW;decide),λT2 hT2=>⟨_,j6.t (k:=kk qq (i%2+2)) (aC hT2 _ _ _ aA) (tk hT2 rfl (by lia)) (eV (Xj (aX _ _ _) (by lia))),?_⟩⟩;refine⟨((((gH).trans (aC hT1 _)).upd hfd).trans (aC hT2 _)).upd hfd,(bP _ _ aA dput (e3.put (by lia) hp hq gq) (Xz (aX _ _ _) (by have:=aX kvs (kk (i / 2) (i%2)) (von (some qq));lia)) (λz=>Yg z (DA _ _ _))),_,_,_,rfl⟩
   ·refine(λem hem=>⟨kvs,.inl (aC hem _ _ _ (g2 _ _ e1)),.inl aA,i2 (λc=>?_) λc=>?_⟩)
    ·refine⟨⟨by decide,by decide⟩,(by show(0:Int)<2;decide),(by show 2<=ZW;decide),λT1 hT1=>⟨_,j6.t (k:=kk (i / 2) (i%2)) (aC hT1 _ _ _ (aC hem _ _ _ (g2 _ _ e1))) (tk hT1 c1 c2) (eV (by lia)),?_⟩⟩;refine⟨⟨by decide,by decide⟩,(by show(0:Int)<2;decide),(by show 2<=ZW;decide),λT2 hT2=>⟨_,j6.t (k:=kk qq (i%2+2)) (aC hT2 _ _ _ aA) (tk hT2 rfl (by lia)) (eV (Xj (aX _ _ _) (by lia))),?_⟩⟩;refine⟨((((gH.trans (aC hem _)).trans (aC hT1 _)).upd hfd).trans (aC hT2 _)).upd hfd,(bP _ _ aA dput (e3.put (by lia) hp hq gq) (Xz (aX _ _ _) (by have:=aX kvs (kk (i / 2) (i%2)) (von (some qq));lia)) (λz=>Yg z (DA _ _ _))),_,_,_,rfl⟩
    ·refine⟨gH.trans (aC hem _),rest2 _ (gH.trans (aC hem _)) (aC hem _ _ _ (g2 _ _ e1)) (λz=>c (by rw[z];rfl)),_,_,_,rfl⟩
 ·rintro σ H' ⟨g,⟨kvs,W,e1,e2,e3,e4,e5⟩,o1,o2,o3,rfl⟩;rw[eN]at e4 e5;have hne:0<kvs.length:=by
   cases kvs with
   |cons x r=>simp
   |nil =>
    have hab1:0<a*b:=Nat.mul_pos ha hb;have z0:=e5 rfl 0 (by lia);have z1:=e5 rfl 1 (by lia);unfold nr at z0 z1;simp only[Nat.zero_div,Nat.zero_mod,if_true]at z0;simp only[show(1:Nat) / 2=0 by decide,show(1:Nat)%2=1 by decide,Nat.zero_div,if_false,show ¬((1:Nat)=0) by decide]at z1;rcases h1 with h1 | h1
    ·rw[Yb (by lia)]at z0;cases z0
    ·rw[Yb (by lia)]at z1;cases z1
  refine(bP fd kvs rfl e1 hne (λp hp=>?_) (λpp bb hp hbb=>?_))
  ·obtain⟨x,y,z,rfl⟩:=e2.1 p hp;exact⟨[(x:Int),(y:Int)],rfl⟩
  obtain⟨p0,h0,q0,rfl⟩:=e2.1 pp hp;have w0:∃h q,W p0 h=some q:=by
   obtain⟨u,hu'⟩:=jA hp;rw[e2.2]at hu';obtain⟨x,hx,_⟩:=Xx.mp hu';exact⟨h0,x,hx⟩
  refine .inr (.inl (bS _ _ (aH hbb) rfl (by show 1<=ZW;decide) (λca hca=>?_)));have hca':H ca=none:=g.free hca;have g2:=aC hca (.lst [vn p0]);obtain⟨h',q',w1⟩:=id w0;refine⟨λk σ H4=>∃(at':Nat) (come:List Nat),k=a*b-at'/\at'<=come.length/\aJ H' H4/\H4 ca=some (.lst (vns come))/\Cm W (a*b) come/\(∀i,i<at'->∀h q,W (come.getD i 0) h=some q->q∈come)/\∃o1 o2 o3 o4,σ=[some (.ref sa),some (.ref za),some (.ref fd),o1,o2,o3,some (.ref ca),some (vn at'),o4,none,none],
   (oU _ 0 ([p0]) rfl (YX _) g2 aA ⟨by simp,λp hp=>?_,Nat.one_pos,λp hp=>?_,⟨p0,by simp,λS _ sp p hp=>by rw[Zb.mp hp];exact sp⟩⟩ (λi hi=>by lia) (iZ _ _ _ _ rfl)),?_⟩
  ·rw[Zb.mp hp];exact(e3.go _ _ _ w1).2.1
  ·rw[Zb.mp hp];exact w0
  rintro k σ H4 ⟨at',come,rfl,hat,g4,f4,c4,cl4,o1,o2,o3,o4,rfl⟩;have hfew:=c4.few;refine(aN ca _ rfl (.inl (aB f4)) ?_);have hlv:((vns come).length:Nat)=come.length:=by simp
  by_cases hc:at' < come.length
  ·refine iTb (Ye (by rw[hlv];lia)) ⟨_,λσ' H' h=>h,?_⟩;have p4:=getD_mem hc;refine(cR 4 rfl (by decide) (by decide) (bV (lo:=0) (n:=4) (λi σ H5=>aJ H' H5/\(∃ex,H5 ca=some (.lst (vns (come++ex)))/\Cm W (a*b) (come++ex)/\∀h q,h<i->W (come.getD at' 0) h=some q->q∈come++ex)/\∃o4,σ=[some (.ref sa),some (.ref za),some (.ref fd),o1,o2,o3,some (.ref ca),some (vn at'),o4,none,none]) ⟨g4,⟨[],by rw[List.append_nil];exact f4,by rw[List.append_nil];exact c4,λh q z=>by lia⟩,_,rfl⟩ ?_ ?_))
   ·rintro i σ H5 hi ⟨g5,⟨ex,f5,c5,cl5⟩,o4,rfl⟩;rw[show(0:Int)+(i:Int)=(i:Int) by lia];have hd5:=g5 _ _ e1;have ix:atI (vns (come++ex)) (at':Int)=some (vn (come.getD at' 0)):=by rw[jI (j:=at') (by simp;lia) rfl,fK hc]
    have i0:atI (vns (come++ex)) ((0:Nat):Int)=some (vn (come.getD 0 0)):=by rw[jI (j:=0) (by rw[Zm];lia) rfl,fK (by lia)]
    have m0:come.getD 0 0∈come++ex:=ZO _ (getD_mem (by lia));refine(oF (.inr ⟨kvs,.inl hd5⟩) _ _ (aB f5) ix (by show 2<=ZW;decide) (λT1 hT1=>?_));have g6:=aC hT1 (.tup [vn (come.getD at' 0),vn i]);refine(sT _ _ (aB (g6 _ _ f5)) i0 _ (eX.t (k:=kk (come.getD at' 0) i) (g6 _ _ hd5) aA) ?_);rw[e2.2];have hl5:=c5.few;cases ew:W (come.getD at' 0) i with
    |none =>
     refine(cR _ (.inl (aB (g6 _ _ f5))) rfl (fH _) (iFb ?_ ⟨g5.trans g6,⟨ex,g6 _ _ f5,c5,λh q hh hq=>?_⟩,_,rfl⟩))
     ·show(!inV (vn (come.getD 0 0)) (vns (come++ex)))=false;rw[hG,Ye m0];rfl
     ·rcases Xw h i with z | z
      ·exact cl5 h q z hq
      ·rw[show h=i by lia,ew]at hq;cases hq
    |some qq =>
     refine(cR _ (.inl (aB (g6 _ _ f5))) rfl (fH _) ?_);show If (!inV (vn qq) (vns (come++ex))) _ _;rw[hG];by_cases hm:qq∈come++ex
     ·refine iFb (by rw[Ye hm];rfl) ⟨g5.trans g6,⟨ex,g6 _ _ f5,c5,λh q hh hq=>?_⟩,_,rfl⟩;rcases Xw h i with z | z
      ·exact cl5 h q z hq
      ·rw[show h=i by lia,ew]at hq;cases hq;exact hm
     ·refine iTb (by rw[Yc hm];rfl) (oF (.inl ⟨rfl,_,aB (g6 _ _ f5)⟩) _ _ (aB (g6 _ _ f5)) ix (by show 2<=ZW;decide) (λT2 hT2=>?_));have g7:=g6.trans (aC hT2 (.tup [vn (come.getD at' 0),vn i]));refine(uF (vn qq) ?_ _ (g7 _ _ f5) (eV (by simp at hl5 ⊢;lia)) ((g5.trans g7).upd hca) ⟨ex++[qq],?_,?_,λh q hh hq=>?_⟩ ⟨ _,rfl⟩)
      ·have dg:=eX.t (k:=kk (come.getD at' 0) i) (g7 _ _ hd5) (aA (H:=upd H5 T1 (.tup [vn (come.getD at' 0),vn i])) (a:=T2) (o:=.tup [vn (come.getD at' 0),vn i]));rw[e2.2,ew]at dg;exact dg
      ·rw[aA,<-Yp,kX]
      ·rw[<-Yp];obtain⟨b1,b2,b3,b4⟩:=e3.go _ _ _ ew;obtain⟨rr',hrr,hcn⟩:=c5.cn;refine⟨?_,λp hp=>?_,by simp;lia,λp hp=>?_,⟨rr',ZO _ hrr,λS cl sr p hp=>(Zf.mp hp).elim (hcn S cl sr p) λz=>by rw[Zb.mp z];exact cl _ _ _ (hcn S cl sr _ (ZO _ p4)) ew⟩⟩
       ·rw[List.nodup_append];exact⟨c5.nd,by simp,λx hx y hy z=>by rw[Zb.mp hy]at z;subst z;exact hm hx⟩
       ·rcases Zf.mp hp with z | z
        ·exact c5.lt p z
        ·rw[Zb.mp z];exact b3
       ·rcases Zf.mp hp with z | z
        ·exact c5.out p z
        ·rw[Zb.mp z];exact⟨_,_,e3.sym _ _ _ ew⟩
      ·rw[<-Yp];rcases Xw h i with z | z
       ·exact ZO _ (cl5 h q z hq)
       ·rw[show h=i by lia,ew]at hq;cases hq;exact ZN _ (by simp)
   ·rintro σ H5 ⟨g5,⟨ex,f5,c5,cl5⟩,o4,rfl⟩;have hl5:=c5.few;simp only[Zm]at hl5;refine(wN (a*b-(at'+1)) (by lia) (at'+1) (come++ex) rfl (by simp;lia) g5 f5 c5 ⟨ λi hi h q hq=>?_,(iZ _ _ _ _ rfl)⟩);rw[fK (by lia)]at hq;rcases Xw i at' with z | z
    ·exact ZO _ (cl4 i z h q hq)
    ·rw[show i=at' by lia]at hq;exact cl5 h q (e3.go _ _ _ hq).1 hq
  ·refine iFb (Yc (by rw[hlv];lia)) ?_;have cl:∀p∈come,∀h q,W p h=some q->q∈come:=λp hp h q hq=>by
    obtain⟨i,hi,rfl⟩:=mem_getD hp;exact cl4 i (by lia) h q hq
   obtain⟨nk,ck⟩:=ER e3 c4 cl;refine λkd hkd=>?_;have g5:=aC hkd (.dT []);have hd5:=g5 _ _ (g4 _ _ e1);have nkf:kd≠fd:=λz=>by subst z;rw[g4 _ _ e1]at hkd;cases hkd
   refine⟨kvs,hd5,λob=>?_⟩;have fz:∀b o,b≠fd->H4 b=some o->upd (upd H4 kd (.dT [])) fd (.frz ob (.dT kvs)) b=some o:=λb o hb e=>by rw[aF hb];exact g5 _ _ e
   refine E2 (d:=fd) (o:=ob) (kvs:=kvs) (λi σ H6=>(∀b o,b≠fd->H4 b=some o->H6 b=some o)/\H6 fd=some (.frz ob (.dT kvs))/\(∃ks,H6 kd=some (.dT ks)/\ks.length<=i/\(∀e∈ks,∃p h q:Nat,e=(kk p h,vn q))/\(∀(p h:Nat) v,bJ ks (kk p h)=some v->p∈come/\bJ kvs (kk p h)=some v)/\(∀j,j<i->∀(p h:Nat) v,kvs[j]?=some (kk p h,v)->p∈come->bJ ks (kk p h)=bJ kvs (kk p h)))/\∃o4 o5,σ=[some (.ref sa),some (.ref za),some (.ref fd),o1,o2,o3,some (.ref ca),some (vn at'),o4,some (.ref kd),o5]) ⟨fz,aA,(mM ([]) (by rw[aF nkf];exact aA) (YX _) (λe he=>(by cases he)) (λp h v e=>(by cases e)) (λj hj=>by lia)),_,_,rfl⟩ (λi σ H6 _ h=>h.2.1) ?_ ?_
   ·rintro i e σ H6 T1 hi ⟨k6,f6,⟨ks,d6,l6,s6,a6,b6⟩,o4,o5,rfl⟩ hT1;obtain⟨p1,h1',q1,rfl⟩:=e2.1 e (Zg hi);have hlt:i<kvs.length:=(Zj.mp hi).1;have nca:ca≠fd:=λz=>by subst z;rw[g4 _ _ e1]at f4;cases f4
    have f6c:=k6 ca _ nca f4;refine(dJ _ _ (aH hT1) rfl _ (.inl (aB f6c)) rfl (fH _) ?_);show If (inV (vn p1) (vns come)) _ _;rw[hG];obtain⟨u1,hu1⟩:=jA (Zg hi);have hu2:=hu1;rw[e2.2]at hu2;obtain⟨x1,hx1,hx2⟩:=Xx.mp hu2;subst hx2;by_cases hm:p1∈come
    ·refine iTb (Ye hm) (CC (vn x1) (.inr (eY kvs (kk p1 h1') T1 (.inr ⟨_,f6⟩) rfl hT1 hu1.symm)) _ (j6.t (k:=kk p1 h1') d6 hT1 (eV (by lia))) ?_);refine⟨λb o hb e=>?_,by rw[aF (Yh nkf)];exact f6,(mM _ aA (Xz (aX _ _ _) (by lia)) (λe he=>?_) (λp h v e=>?_) (λj hj p h v e hp=>?_)),_,_,rfl⟩
     ·rw[aF (λz=>by subst z;rw[hkd]at e;cases e)];exact k6 b o hb e
     ·rcases yY he with z | z
      ·exact s6 e z
      ·exact⟨p1,h1',x1,z⟩
     ·rw[cE]at e;split at e
      ·rename_i c
       obtain⟨rfl,rfl⟩:=jG.mp c;injection e with e;exact⟨hm,by rw[<-e];exact hu1⟩
      ·exact a6 p h v e
     ·rw[cE];split
      ·rename_i c
       obtain⟨rfl,rfl⟩:=jG.mp c;exact hu1.symm
      ·rename_i c
       rcases Xw j i with z | z
       ·exact b6 j z p h v e hp
       ·rw[show j=i by lia,hi]at e;injection e with e;injection e with e _;exact Yg e.symm c
    ·refine iFb (Yc hm) ⟨k6,f6,(mM ks d6 (by lia) s6 a6 (λj hj p h v e hp=>?_)),_,_,rfl⟩;rcases Xw j i with z | z
     ·exact b6 j z p h v e hp
     ·rw[show j=i by lia,hi]at e;injection e with e;injection e with e _;rw[<-(jG.mp e).1]at hp;exact Yg hp hm
   ·rintro σ H6 ⟨k6,f6,⟨ks,d6,l6,s6,a6,b6⟩,o4,o5,rfl⟩;have nca:ca≠fd:=λz=>by subst z;rw[g4 _ _ e1]at f4;cases f4
    have f6c:=k6 ca _ nca f4;have f6i:SqL H6 ca ((come.map λn:Nat=>(n:Int)).map V.int):=aB (by rw[f6c,uG]);refine(bS ca _ rfl f6i (by rw[Zq];lia) (λsl ns' hsl hp hs=>?_));obtain⟨cm,rfl,pm⟩:=A5 hp;rw[<-uG];have dk:DWs ks (λp h=>if p∈come then W p h else none):=by
     refine⟨s6,λp h=>?_⟩;show bJ ks (kk p h)=Option.map vn (if p∈come then W p h else none);by_cases hpc:p∈come
     ·rw[Yb hpc,<-e2.2];cases ev:bJ kvs (kk p h) with
      |none =>
       cases ev2:bJ ks (kk p h) with
       |none=>rfl
       |some v=>have:=(a6 p h v ev2).2;rw[ev]at this;cases this
      |some v =>
       obtain⟨j,hj⟩:=List.getElem?_of_mem (uH ev);rw[b6 j (Zj.mp hj).1 p h v hj hpc,ev]
     ·rw[Ya hpc];cases ev2:bJ ks (kk p h) with
      |none=>rfl
      |some v=>exact Yg (a6 p h v ev2).1 hpc
    have ksl:kd≠sl:=λz=>by subst z;rw[d6]at hsl;cases hsl
    refine⟨(by show 2<=ZW;decide),λrr hrr=>?_⟩;have krr:kd≠rr:=λz=>by subst z;rw[aF ksl,d6]at hrr;cases hrr
    have srr:sl≠rr:=λz=>by subst z;rw[aA]at hrr;cases hrr
    refine q rr kd sl _ ks cm _ (λb o e=>?_) aA ?_ ?_ dk nk (ck.perm pm)
    ·have e4':=g4 _ _ (g _ _ e);have nb:b≠fd:=λz=>by subst z;rw[hfd]at e;cases e
     have e6:=k6 b o nb e4';rw[aF (λz=>by subst z;rw[aF (λz=>by subst z;rw[e6]at hsl;cases hsl),e6]at hrr;cases hrr),aF (λz=>by subst z;rw[e6]at hsl;cases hsl)];exact e6
    ·rw[aF krr,aF ksl];exact d6
    ·rw[aF srr];exact aA
end K38
namespace L2
open PySem PySem.Spec PyProof.Rows
theorem jY{J:It}{js:List (Option Nat)}{σ:St}{H1:Hp}{R:Hp->Prop}{D:Addr}{g:TG}{tc:TT}{te:TE}(n:Nat)(fs:Nat->V)(pf:Nat->Bool)(hD:H1 D=none)(hn:n<=90000)
  (go:∀i H',i<n->aJ H1 H'->J.go i H') (stop:∀H',aJ H1 H'->J.stop n H')
  (hs:∀i H' x H'' (kt:V->Hp->Prop) (kf:Hp->Prop),i<n->aJ H1 H'->J.yld i H' x H''->(pf i=true->∀H4,aJ H' H4->kt (fs i) H4)->(pf i=false->∀H4,aJ H' H4->kf H4)->g x (inner js σ) H'' λσ2 H2=>Fills (inner js σ) σ2/\tc σ2 H2 λb H3=>If b (te σ2 H3 kt) (kf H3))
  (hd:∀H',aJ H1 H'->H' D=some (.lst (((ZR n).filter pf).map fs))->R H') :
  ∃W:Nat->Nat->List V->Hp->Prop,(∃m,W 0 m [] (upd H1 D (.lst []))) /\
   ∀i m ys H,W i m ys H->(J.stop i H/\R H)\/(J.go i H/\∃N:List V->Hp->Prop,(∀ys' H',N ys' H'->∃m',m' < m/\W (i+1) m' ys' H')/\∀x H',J.yld i H x H'->g x (inner js σ) H' λσ2 H2=>Fills (inner js σ) σ2/\tc σ2 H2 λb H3 =>
    If b (te σ2 H3 λy H4=>H4 D=some (.lst ys)/\ys.length<ZW/\N (ys++[y]) (upd H4 D (.lst (ys++[y])))) (N ys H3)):=by
 refine oP n (λi ys H'=>ys=((ZR i).filter pf).map fs/\aJ H1 H'/\H' D=some (.lst ys)) ⟨rfl,aC hD _,aA⟩ ?_ ?_
 ·rintro i ys H' hi ⟨rfl,g1,e⟩;refine⟨go i H' hi g1,λx H'' y=>hs i H' x H'' _ _ hi g1 y (λc H4 g4=>⟨g4 _ _ e,?_,?_,(g1.trans g4).upd hD,aA⟩) λc H4 g4=>⟨?_,g1.trans g4,g4 _ _ e⟩⟩
  ·rw[Zq];exact eV (Xj (List.length_filter_le _ _) (by rw[Yj];lia))
  ·rw[ZH,List.filter_append,Zt];simp[c]
  ·rw[ZH,List.filter_append,Zt];simp[c]
 ·rintro ys H' ⟨rfl,g1,e⟩;exact⟨stop H' g1,hd H' g1 e⟩
def heads(W:Nat->Nat->Option Nat)(p:Nat):List Nat:=(ZR 4).filter λh=>(W p h).isSome
structure Plc(W:Nat->Nat->Option Nat)(come pl:List Nat):Prop where
 nd:pl.Nodup
 sub:∀p∈pl,p∈come
 ne:0<pl.length
 two:∀p∈come,p∉pl->(heads W p).length=2
theorem DO{ps:List Nat}{n:Nat}(nd:ps.Nodup)(lt:∀x∈ps,x<n)(hl:ps.length=n){i:Nat}(hi:i<n):i∈ps:=by
 refine Decidable.byContradiction λz=>?_;have:=MM.bE n (i::ps) (List.nodup_cons.mpr ⟨z,nd⟩) λx hx=>by
  rcases Zn.mp hx with y | y
  ·rw[y];exact hi
  ·exact lt x y
 simp at this;lia
theorem picked{ps fl:List Nat}(nd:ps.Nodup)(lt:∀x∈ps,x<fl.length)(hl:ps.length=fl.length)(nf:fl.Nodup):(ps.map λk=>fl.getD k 0).Nodup/\∀x,x∈(ps.map λk=>fl.getD k 0)↔x∈fl:=by
 refine⟨?_,λx=>⟨λh=>?_,λh=>?_⟩⟩
 ·rw[List.Nodup,List.pairwise_map];refine List.Pairwise.imp_of_mem (λ{a b} ha hb h e=>h ?_) nd;have h1:=lt a ha;have h2:=lt b hb;simp only[List.getD,Zz h1,Zz h2,YM]at e;exact(List.getElem_inj nf).mp e
 ·obtain⟨k,hk,rfl⟩:=Zh.mp h;exact getD_mem (lt k hk)
 ·obtain⟨i,hi,rfl⟩:=mem_getD h;exact Zh.mpr ⟨i,DO nd lt hl hi,rfl⟩
end L2
namespace K38
open PySem L2 PyProof.Rows
def F6:Sp:=λvs H Q _=>∃(sa wa ca:Addr) (ns:List Int) (kvs:List (List Key×V)) (W:Nat->Nat->Option Nat) (N:Nat) (come:List Nat),vs=[.ref sa,.ref wa,.ref ca]/\SqL H sa (ns.map V.int)/\H wa=some (.dT kvs)/\DWs kvs W/\H ca=some (.lst (vns come))/\eJ W N come/\N<=10 /\
 ∀r pl H',H r=none->aJ H H'->H' r=some (.lst (vns pl))->Plc W come pl->Q (.ref r) H'
theorem DZ(T:Txt K mg t):Ok P w base T 54 2 (F6):=by
 left
 obtain⟨sa,wa,ca,ns,kvs,W,N,come,rfl,hS,hw,hW,hc,hC,hN,q⟩:=h;have hu:=sH hr;refine⟨_,(by exists 3,aW ?_,2,4,5,(eK ["_law_head","_law_ways_here","_law_point"] [none,some 1,some 4]),0,pQ ?_,pK (xR hu (dH (aE (pv 2) (aE (pv 0) aK))) (pv 1)),0,eO,5,cI,dI,cP,0,aU,4,3,4,(xT hr.units),3,3,iA jP (pv 2) gX ?_,iL aQ,(eK ["_law_k","_law_found"] [none,some 3]),aW ?_,xX,dI,cP,0,3,0,aG,1,0),?_⟩;refine⟨few (by decide),λfa hfa=>?_⟩;have g1:=aC hfa (.lst []);have hfew:=hC.few;have hlv:(vns come).length=come.length:=by simp
 refine⟨⟨_,aB (g1 _ _ hc)⟩,cV (xs:=vns come) (λi σ H'=>aJ H H'/\(∃fl,H' fa=some (.lst (vns fl))/\fl.Nodup/\(∀p∈fl,p∈come.take i)/\∀p∈come.take i,p∉fl->(heads W p).length=2)/\∃o1 o2,σ=[some (.ref sa),some (.ref wa),some (.ref ca),some (.ref fa),o1,o2]) ⟨g1,(cR ([]) aA List.nodup_nil (λp hp=>(by cases hp)) (λp hp=>by simp at hp)),_,_,rfl⟩ (λi σ H' _ h=>aB (h.1 _ _ hc)) ?_ ?_⟩
 ·rintro i x σ H' hx ⟨g,⟨fl,e1,e2,e3,e4⟩,o1,o2,rfl⟩;obtain⟨hi,rfl⟩:=mO hx;have pm:=getD_mem hi;have ft:come.take (i+1)=come.take i++[come.getD i 0]:=by
   rw[List.take_succ,Zz hi];simp[List.getD,hi]
  have nt:come.getD i 0∉come.take i:=by
   have nd1:=hC.nd;have:=List.Nodup.sublist (List.take_sublist (i+1) come) nd1;rw[ft,List.nodup_append]at this;exact λz=>this.2.2 _ z _ (Zb.mpr rfl) rfl
  have hfl:fl.length<=10:=Xz (MM.bE N fl e2 λp hp=>hC.lt p (List.mem_of_mem_take (e3 p hp))) hN;generalize hpp:come.getD i 0=p at pm ft nt ⊢;refine(cR _ rfl (by decide) (by decide) (λD hD=>?_));refine jY 4 (λk=>vn k) (λh=>(W p h).isSome) hD (by decide) (λj H2 hj _=>hj) (λH2 _=>ZA _) ?_ ?_
  ·rintro j H2 y H3 kt kf hj g2 ⟨rfl,rfl⟩ k1 k2;rw[show(0:Int)+(j:Int)=(j:Int) by lia];refine⟨(Fills.refl _).set _ rfl,(by show 2<=ZW;decide),λT1 hT1=>?_⟩;have g3:=aC hT1 (.tup [vn p,vn j]);refine⟨_,eX.t (k:=kk p j) (g3 _ _ (g2 _ _ (g _ _ hw))) aA,?_⟩;rw[hW.2];cases ew:W p j with
   |none=>exact iFb rfl (k2 (by rw[ew];rfl) _ g3)
   |some qq=>exact iTb rfl (k1 (by rw[ew];rfl) _ g3)
  ·intro H2 g2 e5;have gH:=g.trans g2;have e6:(((ZR 4).filter λh=>(W p h).isSome).map λk=>vn k).length=(heads W p).length:=by rw[Zq];rfl
   refine(aN D _ rfl (.inl (aB e5)) ?_);rw[e6];have step1:∃fl,H2 fa=some (.lst (vns fl))/\fl.Nodup/\(∀p∈fl,p∈come.take (i+1))/\((heads W p).length=2->∀p∈come.take (i+1),p∉fl->(heads W p).length=2):=(cR fl (g2 _ _ e1) e2 (λx hx=>by rw[ft];exact ZO _ (e3 x hx)) (λh2 x hx hn=>by
    rw[ft]at hx;rcases Zf.mp hx with z | z
    ·exact e4 x z hn
    ·rw[Zb.mp z];exact h2))
   have np:p∉fl:=λz=>nt (e3 p z);have step2:∀(H3:Hp),H3 fa=some (.lst (vns fl++[vn p]))->∃fl,H3 fa=some (.lst (vns fl))/\fl.Nodup/\(∀p∈fl,p∈come.take (i+1))/\∀p∈come.take (i+1),p∉fl->(heads W p).length=2:=λH3 e=>(cR (fl++[p]) (by rw[e,kX]) (by
     rw[List.nodup_append];exact⟨e2,by simp,λx hx y hy z=>by rw[Zb.mp hy]at z;subst z;exact np hx⟩) (λx hx=>by
     rw[ft];rcases Zf.mp hx with z | z
     ·exact ZO _ (e3 x z)
     ·exact ZN _ z) (λx hx hn=>by
     rw[ft]at hx;rcases Zf.mp hx with z | z
     ·exact e4 x z λy=>hn (ZO _ y)
     ·exact Yg (ZN _ z) hn))
   by_cases h2:(heads W p).length=2
   ·refine iFb (by rw[h2];rfl) (eY sa ns _ rfl (gH.seq hS) (by decide) (λc=>(bS c _ rfl (by lia) (by have:=hC.lt p pm;lia) (λm hm0 hm1=>⟨(by show(0:Int)<3;decide),i2 (λ_=>?_) λ_=>?_⟩))))
    ·refine(yQ (.inl ⟨rfl,_,aB (g2 _ _ e1)⟩) _ (g2 _ _ e1) (eV (by rw[Zq];lia)) (gH.upd hfa) (step2 _ aA) ⟨ _,_,rfl⟩)
    ·obtain⟨fl',z1,z2,z3,z4⟩:=step1;exact⟨gH,(cR fl' z1 z2 z3 (z4 h2)),_,_,rfl⟩
   ·refine iTb ?_ (iT (yQ (.inl ⟨rfl,_,aB (g2 _ _ e1)⟩) _ (g2 _ _ e1) (eV (by rw[Zq];lia)) (gH.upd hfa) (step2 _ aA) ⟨ _,_,rfl⟩));simp only[Bool.not_eq_true',decide_eq_false_iff_not];intro z;injection z with z;lia
 ·rintro σ H' ⟨g,⟨fl,e1,e2,e3,e4⟩,o1,o2,rfl⟩;rw[hlv,Yw]at e3 e4;dsimp only;refine via (λσ' H2=>aJ H H2/\∃(fb:Addr) (fl:List Nat),H2 fb=some (.lst (vns fl))/\Plc W come fl/\∃o1 o2,σ'=[some (.ref sa),some (.ref wa),some (.ref ca),some (.ref fb),o1,o2]) (λk=>?_) ?_
  ·refine⟨few (by decide),λem hem=>?_⟩;have g2:=aC hem (.lst []);refine(bP _ _ (.lst (aB (g2 _ _ e1)) (mF fl)) (.lst (aB aA) (mF [])) (gP fl) (gP []) ?_);rw[vR];by_cases hz:fl=[]
   ·refine iTb (by subst hz;rfl) ⟨_,aB (g2 _ _ (g _ _ hc)),λfb hfb=>k _ _ ?_⟩;rw[FD];have hct:(vns come).take 1=vns (come.take 1):=by unfold vns;rw[List.map_take]
    rw[hct];refine(eS ((g.trans g2).trans (aC hfb _)) fb (come.take 1) aA ⟨List.Nodup.sublist (List.take_sublist _ _) hC.nd,λp hp=>List.mem_of_mem_take hp,by rw[Yx];have:=hC.ne;lia,λp hp _=>e4 p hp (by rw[hz];simp)⟩ ⟨ _,_,rfl⟩)
   ·refine iFb (by rw[Yc hz];rfl) (k _ _ (eS (g.trans g2) fa fl (g2 _ _ e1) ⟨e2,e3,List.length_pos_iff.mpr hz,e4⟩ ⟨ _,_,rfl⟩))
  ·rintro σ' H2 ⟨g2,fb,fl,f1,f2,o1,o2,rfl⟩;have hl:(vns fl).length=fl.length:=by simp
   have hfl:fl.length<=10:=Xz (MM.bE N fl f2.nd λp hp=>hC.lt p (f2.sub p hp)) hN;refine(eY sa ns _ rfl (g2.seq hS) (by decide) (λc=>(bS c _ rfl (by decide) (by decide) (λm hm0 hm1=>(eQ fb _ rfl (.inl (aB f1)) m fl.length ?_ hm0 (by lia) (λta ps hta p1 p2 p3=>?_))))))
   ·rw[hl];rfl
   have g3:=aC hta (.lst (vns ps));refine⟨⟨_,aB aA⟩,λD hD=>?_⟩;refine bH ps.length (λk=>vn (fl.getD (ps.getD k 0) 0)) hD (by lia) (λi H3 hi g4=>⟨_,_,aB (g4 _ _ aA),by rw[Zk,Zz hi];rfl⟩) (λH3 g4=>⟨_,aB (g4 _ _ aA),by simp⟩) ?_ ?_
   ·rintro i H3 x H4 kk' hi g4 ⟨rfl,hy⟩ hk;have hx:=hy _ (aB (g4 _ _ aA));obtain⟨_,rfl⟩:=mO hx;exact(eS ((Fills.refl _).set _ rfl) _ _ (aB (g4 _ _ (g3 _ _ f1))) (jI (p2 _ (getD_mem hi)) rfl) (hk _ (aJ.refl _)))
   ·intro H3 g4 e5;obtain⟨k1,k2⟩:=picked p1 p2 p3 f2.nd;refine q D (ps.map λk=>fl.getD k 0) H3 ((g2.trans g3).free hD) ((g2.trans g3).trans g4) ?_ ⟨k1,λp hp=>f2.sub p ((k2 p).mp hp),by rw[Zq,p3];exact f2.ne,λp hp hn=>f2.two p hp λz=>hn ((k2 p).mpr z)⟩;rw[e5];unfold vns;rw[Yn];exact congrArg (λz=>some (HO.lst z)) (oJ ps λk=>vn (fl.getD k 0))
end K38
namespace L2
open PySem PySem.Spec PyProof.Rows
theorem cL.new{g:Addr}{H H4:Hp}{T:Addr}{o:HO}(s:cL g H H4)(h:H4 T=none):cL g H (upd H4 T o):=λb u hb e=>by
 have:=s b u hb e;rw[aF (aI this h)];exact this
theorem cL.at{g:Addr}{H H4:Hp}{o:HO}(s:cL g H H4):cL g H (upd H4 g o):=λb u hb e=>by rw[aF hb];exact s b u hb e
theorem cL.fr{g:Addr}{H H4:Hp}{l:Addr}{o:HO}(s:cL g H H4)(h:H l=none):cL g H (upd H4 l o):=λb u hb e=>by rw[aF (aI e h)];exact s b u hb e
structure iH(W:Nat->Nat->Option Nat)(pl pts hs:List Nat):Prop where
 len:pts.length=hs.length+1
 go:∀i,i<hs.length->W (pts.getD i 0) (hs.getD i 0)=some (pts.getD (i+1) 0)
 mid:∀i,0<i->i<hs.length->pts.getD i 0∉pl
 on:∀i,i+1<hs.length->hs.getD (i+1) 0≠(hs.getD i 0+2)%4
 df:∀i j,i<hs.length->j<hs.length->pts.getD i 0=pts.getD j 0->hs.getD i 0=hs.getD j 0->i=j
 fst:pts.getD 0 0∈pl
theorem fV{W:Nat->Nat->Option Nat}{p h:Nat}:h∈heads W p↔h<4/\(W p h).isSome=true:=by
 unfold heads;rw[Yz,Zs]
theorem vK(W:Nat->Nat->Option Nat)(p:Nat):(heads W p).Nodup:=List.Nodup.sublist List.filter_sublist ZC
theorem JK{l:List Nat}(h:l.length=2){x y z:Nat}(hx:x∈l)(hy:y∈l)(hz:z∈l)(h1:x≠y)(h2:x≠z):y=z:=by
 match l,h with
 |[u,v],_ =>
  simp only[Zn,ZL,or_false]at hx hy hz
  lia
theorem gI{l:List Nat}{x:Nat}:(l++[x]).getD l.length 0=x:=by simp[List.getD]
theorem iH.few{a b:Nat}{W:Nat->Nat->Option Nat}{pl pts hs:List Nat}(n:Net a b W)(t:iH W pl pts hs)(hab:a*b<=10):hs.length<=40:=by
 have h:=MM.bE 40 ((ZR hs.length).map λi=>4*pts.getD i 0+hs.getD i 0) ?_ ?_
 ·simpa using h
 ·rw[List.Nodup,List.pairwise_map];refine List.Pairwise.imp_of_mem (λ{i j} hi hj hne e=>hne ?_) ZC;have hi:=Zs.mp hi;have hj:=Zs.mp hj;have g1:=(n.go _ _ _ (t.go i hi)).1;have g2:=(n.go _ _ _ (t.go j hj)).1;exact t.df i j hi hj (by lia) (by lia)
 ·intro x hx;obtain⟨i,hi,rfl⟩:=Zh.mp hx;have g1:=n.go _ _ _ (t.go i (Zs.mp hi))
  lia
theorem iH.more{a b:Nat}{W:Nat->Nat->Option Nat}{come pl pts hs:List Nat}(n:Net a b W)(cm:eJ W (a*b) come)(pc:Plc W come pl)(t:iH W pl pts hs){h r:Nat}(hw:W (pts.getD hs.length 0) h=some r)
  (hn:0<hs.length->pts.getD hs.length 0∉pl/\h≠(hs.getD (hs.length-1) 0+2)%4):iH W pl (pts++[r]) (hs++[h]):=by
 have hl:=t.len;have gp:∀{i},i<=hs.length->(pts++[r]).getD i 0=pts.getD i 0:=λhi=>fK (by lia);have gh:∀{i},i<hs.length->(hs++[h]).getD i 0=hs.getD i 0:=λhi=>fK hi;have ge:(hs++[h]).getD hs.length 0=h:=gI;have gl:(pts++[r]).getD (hs.length+1) 0=r:=by rw[<-hl];exact gI
 have hh:h<4:=(n.go _ _ _ hw).1;have new:∀j,j<hs.length->pts.getD j 0=pts.getD hs.length 0->hs.getD j 0=h->False:=by
  intro j hj e1 e2;obtain⟨nq,nb⟩:=hn (by lia);have j0:0<j:=by
   rcases Nat.eq_zero_or_pos j with z | z
   ·subst z;rw[<-e1]at nq;exact Yg t.fst nq
   ·exact z
  have w1:=n.sym _ _ _ (t.go (hs.length-1) (by lia));rw[show hs.length-1+1=hs.length by lia]at w1;have w2:=n.sym _ _ _ (t.go (j-1) (by lia));rw[show j-1+1=j by lia,e1]at w2;have on:=t.on (j-1) (by lia);rw[show j-1+1=j by lia,e2]at on;have qc:pts.getD hs.length 0∈come:=cm.cl _ _ _ hw;have l1:=(n.go _ _ _ (t.go (hs.length-1) (by lia))).1;have l2:=(n.go _ _ _ (t.go (j-1) (by lia))).1;have bb:=JK (pc.two _ qc nq) (fV.mpr ⟨hh,by rw[hw];rfl⟩) (fV.mpr ⟨by lia,by rw[w1];rfl⟩) (fV.mpr ⟨by lia,by rw[w2];rfl⟩) nb on;have eh:hs.getD (hs.length-1) 0=hs.getD (j-1) 0:=by lia
  rw[bb,w2]at w1;injection w1 with w1;have:=t.df _ _ (by lia) (by lia) w1.symm eh
  lia
 refine⟨by simp;lia,λi hi=>?_,λi h0 hi=>?_,λi hi=>?_,λi j hi hj e1 e2=>?_,by rw[gp (YX _)];exact t.fst⟩
 ·simp only[Zm,ZQ]at hi;rcases Xw i hs.length with z | z
  ·rw[gp (by lia),gh z,gp (by lia)];exact t.go i z
  ·rw[show i=hs.length by lia,gp (ZA _),ge,gl];exact hw
 ·simp only[Zm,ZQ]at hi;rw[gp (by lia)];rcases Xw i hs.length with z | z
  ·exact t.mid i h0 z
  ·rw[show i=hs.length by lia];exact(hn (by lia)).1
 ·simp only[Zm,ZQ]at hi;rcases Xw (i+1) hs.length with z | z
  ·rw[gh z,gh (by lia)];exact t.on i z
  ·have e:i+1=hs.length:=by lia
   rw[e,ge,gh (by lia),show i=hs.length-1 by lia];exact(hn (by lia)).2
 ·simp only[Zm,ZQ]at hi hj;rw[gp (by lia),gp (by lia)]at e1;rcases Xw i hs.length with y | y
  ·rcases Xw j hs.length with z | z
   ·rw[gh y,gh z]at e2;exact t.df i j y z e1 e2
   ·have ej:j=hs.length:=by lia
    subst ej;rw[gh y,ge]at e2;exact(new i y e1 e2).elim
  ·have ei:i=hs.length:=by lia
   subst ei;rcases Xw j hs.length with z | z
   ·rw[gh z,ge]at e2;exact(new j z e1.symm e2.symm).elim
   ·lia
theorem sC{a b:Nat}{W:Nat->Nat->Option Nat}{come pl:List Nat}(n:Net a b W)(cm:eJ W (a*b) come)(pc:Plc W come pl){p q h:Nat}(hw:W p h=some q)(hq:q∉pl) :
  ∃x r,((ZR 4).filter λo=>(W q o).isSome&&decide (o≠(h+2)%4))=x::r/\(∃z,W q x=some z)/\x≠(h+2)%4/\x<4:=by
 have w1:=n.sym _ _ _ hw;have qc:=cm.cl _ _ _ w1;have h2:=pc.two q qc hq;cases e:((ZR 4).filter λo=>(W q o).isSome&&decide (o≠(h+2)%4)) with
 |nil =>
  exfalso;have all:∀x∈heads W q,x=(h+2)%4:=λx hx=>by
   obtain⟨x1,x2⟩:=fV.mp hx;refine Decidable.byContradiction λz=>?_;have:x∈((ZR 4).filter λo=>(W q o).isSome&&decide (o≠(h+2)%4)):=by
    rw[Yz];exact⟨Zs.mpr x1,by rw[x2];simpa using z⟩
   rw[e]at this;cases this
  have nd:=vK W q
  match hh:heads W q,h2 with
  |[u,v],_ =>
   rw[hh]at nd all;have e1:=all u (by simp);have e2:=all v (by simp);simp[e1,e2]at nd
 |cons x r =>
  have hx:x∈((ZR 4).filter λo=>(W q o).isSome&&decide (o≠(h+2)%4)):=by rw[e];simp
  rw[Yz,Xb]at hx;exact⟨x,r,rfl,Option.isSome_iff_exists.mp hx.2.1,Yf hx.2.2,Zs.mp hx.1⟩
theorem iD{l:List Nat}{m:Nat}(h:l.length=m+1):atI (vns l) (-1)=some (vn (l.getD m 0)):=by
 unfold atI;have e:ixN (vns l).length (-1)=some m:=by
  unfold ixN;rw[Zq,Ya (by decide),Yb (by lia)];simp only[Option.some.injEq];lia
 rw[e];show(vns l)[m]?=_;rw[Zk,Zz (by lia)];simp[List.getD,show m<l.length by lia]
def Gn(pl:List Nat)(gs:List (List Key×V))(p h:Nat)(pts hs:List Nat)(hv:Nat)(gs':List (List Key×V)):Prop :=
 (∀x y:Nat,(bJ gs' (kk x y)).isSome=true->(bJ gs (kk x y)).isSome=true\/x∉pl\/(x=p/\y=h)\/(0<hs.length/\x=pts.getD hs.length 0/\y=(hs.getD (hs.length-1) 0+2)%4)) /\
 (∀x y:Nat,(bJ gs (kk x y)).isSome=true->(bJ gs' (kk x y)).isSome=true)/\(hs.length=0->hv=h) /\
 (0<hs.length->hs.getD 0 0=h/\(bJ gs' (kk p h)).isSome=true/\(bJ gs' (kk (pts.getD hs.length 0) ((hs.getD (hs.length-1) 0+2)%4))).isSome=true)
theorem Gn.step{pl:List Nat}{gs gs':List (List Key×V)}{p h hv r x:Nat}{pts hs:List Nat}(g:Gn pl gs p h pts hs hv gs')(z0:pts.getD 0 0=p)(hlen:pts.length=hs.length+1)(hc:hs.length=0\/pts.getD hs.length 0∉pl) :
  Gn pl gs p h (pts++[r]) (hs++[hv]) x (putK (putK gs' (kk (pts.getD hs.length 0) hv) (.bl true)) (kk r ((hv+2)%4)) (.bl true)):=by
 have e1:(pts++[r]).getD (hs.length+1) 0=r:=by rw[<-hlen];exact gI
 have e2:(hs++[hv]).getD hs.length 0=hv:=gI;have up:∀u v:Nat,(bJ gs' (kk u v)).isSome=true->(bJ (putK (putK gs' (kk (pts.getD hs.length 0) hv) (.bl true)) (kk r ((hv+2)%4)) (.bl true)) (kk u v)).isSome=true:=λu v e=>by
  rw[cE];split
  ·rfl
  ·rw[cE];split
   ·rfl
   ·exact e
 unfold Gn;simp only[Zm,ZQ,Nat.add_sub_cancel];rw[e1,e2];refine⟨λu v e=>?_,λu v e=>up u v (g.2.1 u v e),λz=>by lia,λ_=>⟨?_,?_,?_⟩⟩
 ·rw[cE]at e;split at e
  ·rename_i c
   obtain⟨c1,c2⟩:=jG.mp c;exact .inr (.inr (.inr ⟨by lia,c1,c2⟩))
  ·rw[cE]at e;split at e
   ·rename_i c
    obtain⟨c1,c2⟩:=jG.mp c;rcases hc with q | q
    ·rw[q,z0]at c1;exact .inr (.inr (.inl ⟨c1,by rw[c2];exact g.2.2.1 q⟩))
    ·exact .inr (.inl (by rw[c1];exact q))
   ·rcases g.1 u v e with i1 | i1 | i1 | ⟨i1,i2,_⟩
    ·exact .inl i1
    ·exact .inr (.inl i1)
    ·exact .inr (.inr (.inl i1))
    ·rcases hc with q | q
     ·lia
     ·exact .inr (.inl (by rw[i2];exact q))
 ·by_cases q:hs.length=0
  ·have:hs=[]:=List.eq_nil_of_length_eq_zero q;subst this;exact g.2.2.1 q
  ·rw[fK (by lia)];exact(g.2.2.2 (by lia)).1
 ·by_cases q:hs.length=0
  ·rw[cE];split
   ·rfl
   ·rw[cE,Yb (jG.mpr ⟨by rw[q,z0],(g.2.2.1 q).symm⟩)];rfl
  ·exact up _ _ (g.2.2.2 (by lia)).2.1
 ·rw[cE,Yb rfl];rfl
end L2
namespace K38
open PySem L2 PyProof.Rows
def J0:Sp:=λvs H Q _=>∃(wa pa ga:Addr) (a b p h:Nat) (kvs gs:List (List Key×V)) (W:Nat->Nat->Option Nat) (come pl:List Nat),vs=[.ref wa,.ref pa,vn p,vn h,.ref ga]/\H wa=some (.dT kvs)/\DWs kvs W/\Net a b W/\eJ W (a*b) come/\a*b<=10/\Plc W come pl/\H pa=some (.lst (vns pl))/\H ga=some (.dT gs)/\ga≠wa/\gs.length<=50000/\p∈pl/\(∃q,W p h=some q) /\
 ∀r H' pts hs gs',H r=none->cL ga H H'->H' r=some (.lst (vns pts))->H' ga=some (.dT gs')->gs'.length<=gs.length+80->iH W pl pts hs->0<hs.length->hs.length<=40->pts.getD 0 0=p->pts.getD hs.length 0∈pl->(∃hv,Gn pl gs p h pts hs hv gs')->Q (.ref r) H'
theorem G2(T:Txt K mg t):Ok P w base T 55 1 J0:=by
 left
 obtain⟨wa,pa,ga,a,b,p,h,kvs,gs,W,come,pl,rfl,hw,hW,hN,hC,hab,hP,hpa,hga,ngw,hgl,hp,hph,q⟩:=h;have hu:=sH hr;refine⟨_,(by exists 5,2,cI,5,dQ,aG,5,1,6,aG,5,jQ hu (pv 4) ?_ DS rfl,6,3,5,lJ hu (pv 0) ?_ (λ_ _=>rfl),6,3,jQ hu (pv 4) ?_ DS rfl,aG,5,aU,3,dQ,aG,5,1,7,aU,3,3,aG,(eK ["_law_one","_law_ways_here","_law_back","_law_line_here"] [none,some 0,some 7,some 5]),0,pQ (PW.pt (tG (pK (xR hu (dH (aE (cU aG (pv 3) (y9 sV aQ) (λ_ _=>rfl)) (aE (pv 0) aK))) (pv 1))) (tF (gU eO (pv 0) (pv 2) (tP _))))),0,5),?_⟩;refine⟨(by show 1<=ZW;decide),λla hla=>?_⟩;have npg:pa≠ga:=λz=>by subst z;rw[hga]at hpa;cases hpa
 have nlg:la≠ga:=λz=>by subst z;rw[hga]at hla;cases hla
 have h2s:2<=ZW:=by decide
 refine⟨λk σ H4=>∃(pts hs:List Nat) (gs':List (List Key×V)) (hv:Nat),k=41-hs.length/\iH W pl pts hs/\cL ga H H4/\H4 la=some (.lst (vns pts))/\H4 ga=some (.dT gs')/\gs'.length<=gs.length+2*hs.length/\pts.getD 0 0=p /\
   Gn pl gs p h pts hs hv gs'/\((hs.length=0\/pts.getD hs.length 0∉pl)->(∃r,W (pts.getD hs.length 0) hv=some r)/\(0<hs.length->hv≠(hs.getD (hs.length-1) 0+2)%4)) /\
   ∃o1 o2,σ=[some (.ref wa),some (.ref pa),some (vn p),some (vn hv),some (.ref ga),some (.ref la),o1,o2],
  (cN _ ([p]) ([]) gs h rfl ⟨rfl,λi hi=>(by cases hi),λi _ hi=>(by cases hi),λi hi=>(by cases hi),λi j hi=>(by cases hi),hp⟩ (λb o hb e=>(by rw[aF (aI e hla)];exact e)) aA (oW (by rw[aF (Yh nlg)];exact hga) (ZA _) rfl ⟨λx y z=>.inl z,λx y z=>z,λ_=>rfl,λz=>Yg z (YW _)⟩ (λ_=>⟨hph,λz=>by cases z⟩) ⟨ _,_,rfl⟩)),?_⟩
 rintro k σ H4 ⟨pts,hs,gs',hv,rfl,tr,sb,f1,f2,l2,z0,inv,nx,o1,o2,rfl⟩;have hlen:=tr.len;have h40:=tr.few hN hab;have hlv:(vns pts).length=hs.length+1:=by rw[Zq];exact hlen
 have fpa:=sb pa _ npg hpa;have fwa:=sb wa _ (Yh ngw) hw;refine(aN la _ rfl (.inl (aB f1)) ?_);rw[hlv];by_cases hc:hs.length=0\/pts.getD hs.length 0∉pl
 ·
  obtain⟨⟨r,hr1⟩,hb⟩:=nx hc;have tr2:=tr.more hN hC hP hr1 (λz=>⟨hc.resolve_left (λy=>by lia),hb z⟩);have hl2:=tr2.len;simp only[Zm,ZQ]at hl2;have h41:=tr2.few hN hab;simp only[Zm,ZQ]at h41;have gE:(pts++[r]).getD (hs.length+1) 0=r:=by rw[<-hlen];exact gI
  have hv4:=(hN.go _ _ _ hr1).1;have vl2:atI (vns (pts++[r])) (-1)=some (vn r):=by rw[iD (m:=hs.length+1) (by simp;lia),gE]
  rcases Nat.eq_zero_or_pos hs.length with c0 | c0
  ·refine iTb (by rw[c0];rfl) (iT ⟨_,λσ' H' h=>h,?_⟩);refine(aN _ _ (aB f1) (iD hlen) ?_);refine⟨h2s,λT1 hT1=>⟨_,j6.t (k:=kk (pts.getD hs.length 0) hv) (aC hT1 _ _ _ f2) aA (eV (by lia)),?_⟩⟩;have sb2:=(sb.new (o:=.tup [vn (pts.getD hs.length 0),vn hv]) hT1).at (o:=.dT (putK gs' (kk (pts.getD hs.length 0) hv) (.bl true)));have f1b:upd (upd H4 T1 (.tup [vn (pts.getD hs.length 0),vn hv])) ga (.dT (putK gs' (kk (pts.getD hs.length 0) hv) (.bl true))) la=some (.lst (vns pts)):=by rw[aF nlg];exact aC hT1 _ _ _ f1
   refine⟨.inl ⟨rfl,_,aB f1b⟩,h2s,λT2 hT2=>(CB (vn r) ?_ _ (aC hT2 _ _ _ f1b) (eV (by lia)) ?_)⟩
   ·have dg:=eX.t (k:=kk (pts.getD hs.length 0) hv) (aC hT2 (.tup [vn (pts.getD hs.length 0),vn hv]) _ _ (sb2 wa _ (Yh ngw) hw)) aA;rw[hW.2,hr1]at dg;exact dg
   rw[kX];have sb3:=(sb2.new (o:=.tup [vn (pts.getD hs.length 0),vn hv]) hT2).fr (o:=.lst (vns (pts++[r]))) hla;have f2c:∀{o},upd (upd (upd (upd H4 T1 (.tup [vn (pts.getD hs.length 0),vn hv])) ga (.dT (putK gs' (kk (pts.getD hs.length 0) hv) (.bl true)))) T2 o) la (.lst (vns (pts++[r]))) ga=some (.dT (putK gs' (kk (pts.getD hs.length 0) hv) (.bl true))):=λ{o}=>by rw[aF (Yh nlg)];exact aC hT2 _ _ _ aA
   refine(bP _ _ (aB aA) vl2 (by show(0:Int)<4;decide) h2s (λT3 hT3=>⟨_,j6.t (k:=kk r ((hv+2)%4)) (aC hT3 _ _ _ f2c) (by rw[aA];show some (HO.tup [vn r,V.int (((hv:Int)+2)%4)])=_;rw[show((hv:Int)+2)%4=(((hv+2)%4:Nat):Int) by lia];rfl) (eV (Xj (aX _ _ _) (by lia))),?_⟩));have sb4:=(sb3.new (o:=.tup [vn r,.int (((hv:Int)+2)%4)]) hT3).at (o:=.dT (putK (putK gs' (kk (pts.getD hs.length 0) hv) (.bl true)) (kk r ((hv+2)%4)) (.bl true)));have f1d:∀{o'},upd (upd (upd (upd (upd (upd H4 T1 (.tup [vn (pts.getD hs.length 0),vn hv])) ga (.dT (putK gs' (kk (pts.getD hs.length 0) hv) (.bl true)))) T2 (.tup [vn (pts.getD hs.length 0),vn hv])) la (.lst (vns (pts++[r])))) T3 o') ga (.dT (putK (putK gs' (kk (pts.getD hs.length 0) hv) (.bl true)) (kk r ((hv+2)%4)) (.bl true))) la=some (.lst (vns (pts++[r]))):=λ{o'}=>by rw[aF nlg];exact aC hT3 _ _ _ aA
   have lg2:(putK (putK gs' (kk (pts.getD hs.length 0) hv) (.bl true)) (kk r ((hv+2)%4)) (.bl true)).length<=gs.length+2*(hs.length+1):=Xz (aX _ _ _) (by have:=aX gs' (kk (pts.getD hs.length 0) hv) (.bl true);lia);have z02:(pts++[r]).getD 0 0=p:=by rw[fK (by lia)];exact z0
   refine(dJ _ _ (aB f1d) vl2 _ (.inl (aB (sb4 pa _ npg hpa))) rfl (fH _) ?_);show If (!inV (vn r) (vns pl)) _ _;rw[hG];have gH:(hs++[hv]).getD hs.length 0=hv:=gI;by_cases hrp:r∈pl
   ·refine iFb (by rw[Ye hrp];rfl) (iI (41-(hs.length+1)) (by lia) (pts++[r]) (hs++[hv]) _ hv (by simp) tr2 sb4 (kW f1d aA (by simp;exact lg2) z02 (inv.step z0 hlen hc) (λz=>?_) ⟨ _,_,rfl⟩));simp only[Zm,ZQ]at z;rw[gE]at z;rcases z with z | z
    ·lia
    ·exact Yg hrp z
   ·refine iTb (by rw[Yc hrp];rfl) ⟨(by show(0:Int)<4;decide),?_⟩;obtain⟨x,rr,ex,⟨zz,ezz⟩,nxb,x4⟩:=sC hN hC hP hr1 hrp;refine(cR 4 rfl (by decide) (by decide) (λD hD=>?_));refine jY 4 (λk=>vn k) (λo=>(W r o).isSome&&decide (o≠(hv+2)%4)) hD (by decide) (λj H2 hj _=>hj) (λH2 _=>ZA _) ?_ ?_
    ·rintro j H2 y H3 kt kf hj g2 ⟨rfl,rfl⟩ k1 k2;rw[show(0:Int)+(j:Int)=(j:Int) by lia];refine(oF ((Fills.refl _).set _ rfl) _ _ (aB (g2 _ _ f1d)) vl2 h2s (λT4 hT4=>?_));have g3:=aC hT4 (.tup [vn r,vn j]);refine⟨_,eX.t (k:=kk r j) (g3 _ _ (g2 _ _ (sb4 wa _ (Yh ngw) hw))) aA,?_⟩;rw[hW.2];cases ew:W r j with
     |none=>exact iF (iF (k2 (by rw[ew];rfl) _ g3))
     |some qq =>
      refine iT (?_);have ce:(V.int (j:Int)=V.int (((hv:Int)+2)%4))↔j=(hv+2)%4:=⟨λz=>by injection z with z;lia,λz=>by rw[z];first | rfl | (congr 1;omega)⟩
      by_cases cj:j=(hv+2)%4
      ·exact iFb (by rw[Bool.not_eq_false',decide_eq_true_iff];exact ce.mpr cj) (k2 (by rw[ew];simp[cj]) _ g3)
      ·exact iTb (by rw[Bool.not_eq_true',decide_eq_false_iff_not];exact λz=>cj (ce.mp z)) (k1 (by rw[ew];simpa using cj) _ g3)
    ·intro H5 g5 e5;rw[ex]at e5;refine(aN _ _ (aB e5) (show atI (List.map (λk=>vn k) (x::rr)) ((0:Nat):Int)=some (vn x) from bB rfl) ?_);refine(iI (41-(hs.length+1)) (by lia) (pts++[r]) (hs++[hv]) _ x (by simp) tr2 (λb o hb e=>g5 _ _ (sb4 b o hb e)) (kW (g5 _ _ f1d) (g5 _ _ aA) (by simp;exact lg2) z02 (inv.step z0 hlen hc) (λ_=>?_) ⟨ _,_,rfl⟩));simp only[Zm,ZQ,Nat.add_sub_cancel];rw[gE,gH];exact⟨⟨zz,ezz⟩,λ_=>nxb⟩
  ·have hnp:pts.getD hs.length 0∉pl:=hc.resolve_left (λy=>by lia);refine iFb (Yc (λz=>by injection z with z;lia)) (dJ _ _ (aB f1) (iD hlen) _ (.inl (aB fpa)) rfl (fH _) (iTb ?_ ⟨_,λσ' H' h=>h,?_⟩))
   ·show(!inV (vn (pts.getD hs.length 0)) (vns pl))=true;rw[hG,Yc hnp];rfl
   refine(aN _ _ (aB f1) (iD hlen) ?_);refine⟨h2s,λT1 hT1=>⟨_,j6.t (k:=kk (pts.getD hs.length 0) hv) (aC hT1 _ _ _ f2) aA (eV (by lia)),?_⟩⟩;have sb2:=(sb.new (o:=.tup [vn (pts.getD hs.length 0),vn hv]) hT1).at (o:=.dT (putK gs' (kk (pts.getD hs.length 0) hv) (.bl true)));have f1b:upd (upd H4 T1 (.tup [vn (pts.getD hs.length 0),vn hv])) ga (.dT (putK gs' (kk (pts.getD hs.length 0) hv) (.bl true))) la=some (.lst (vns pts)):=by rw[aF nlg];exact aC hT1 _ _ _ f1
   refine⟨.inl ⟨rfl,_,aB f1b⟩,h2s,λT2 hT2=>(CB (vn r) ?_ _ (aC hT2 _ _ _ f1b) (eV (by lia)) ?_)⟩
   ·have dg:=eX.t (k:=kk (pts.getD hs.length 0) hv) (aC hT2 (.tup [vn (pts.getD hs.length 0),vn hv]) _ _ (sb2 wa _ (Yh ngw) hw)) aA;rw[hW.2,hr1]at dg;exact dg
   rw[kX];have sb3:=(sb2.new (o:=.tup [vn (pts.getD hs.length 0),vn hv]) hT2).fr (o:=.lst (vns (pts++[r]))) hla;have f2c:∀{o},upd (upd (upd (upd H4 T1 (.tup [vn (pts.getD hs.length 0),vn hv])) ga (.dT (putK gs' (kk (pts.getD hs.length 0) hv) (.bl true)))) T2 o) la (.lst (vns (pts++[r]))) ga=some (.dT (putK gs' (kk (pts.getD hs.length 0) hv) (.bl true))):=λ{o}=>by rw[aF (Yh nlg)];exact aC hT2 _ _ _ aA
   refine(bP _ _ (aB aA) vl2 (by show(0:Int)<4;decide) h2s (λT3 hT3=>⟨_,j6.t (k:=kk r ((hv+2)%4)) (aC hT3 _ _ _ f2c) (by rw[aA];show some (HO.tup [vn r,V.int (((hv:Int)+2)%4)])=_;rw[show((hv:Int)+2)%4=(((hv+2)%4:Nat):Int) by lia];rfl) (eV (Xj (aX _ _ _) (by lia))),?_⟩));have sb4:=(sb3.new (o:=.tup [vn r,.int (((hv:Int)+2)%4)]) hT3).at (o:=.dT (putK (putK gs' (kk (pts.getD hs.length 0) hv) (.bl true)) (kk r ((hv+2)%4)) (.bl true)));have f1d:∀{o'},upd (upd (upd (upd (upd (upd H4 T1 (.tup [vn (pts.getD hs.length 0),vn hv])) ga (.dT (putK gs' (kk (pts.getD hs.length 0) hv) (.bl true)))) T2 (.tup [vn (pts.getD hs.length 0),vn hv])) la (.lst (vns (pts++[r])))) T3 o') ga (.dT (putK (putK gs' (kk (pts.getD hs.length 0) hv) (.bl true)) (kk r ((hv+2)%4)) (.bl true))) la=some (.lst (vns (pts++[r]))):=λ{o'}=>by rw[aF nlg];exact aC hT3 _ _ _ aA
   have lg2:(putK (putK gs' (kk (pts.getD hs.length 0) hv) (.bl true)) (kk r ((hv+2)%4)) (.bl true)).length<=gs.length+2*(hs.length+1):=Xz (aX _ _ _) (by have:=aX gs' (kk (pts.getD hs.length 0) hv) (.bl true);lia);have z02:(pts++[r]).getD 0 0=p:=by rw[fK (by lia)];exact z0
   refine(dJ _ _ (aB f1d) vl2 _ (.inl (aB (sb4 pa _ npg hpa))) rfl (fH _) ?_);show If (!inV (vn r) (vns pl)) _ _;rw[hG];have gH:(hs++[hv]).getD hs.length 0=hv:=gI;by_cases hrp:r∈pl
   ·refine iFb (by rw[Ye hrp];rfl) (iI (41-(hs.length+1)) (by lia) (pts++[r]) (hs++[hv]) _ hv (by simp) tr2 sb4 (kW f1d aA (by simp;exact lg2) z02 (inv.step z0 hlen hc) (λz=>?_) ⟨ _,_,rfl⟩));simp only[Zm,ZQ]at z;rw[gE]at z;rcases z with z | z
    ·lia
    ·exact Yg hrp z
   ·refine iTb (by rw[Yc hrp];rfl) ⟨(by show(0:Int)<4;decide),?_⟩;obtain⟨x,rr,ex,⟨zz,ezz⟩,nxb,x4⟩:=sC hN hC hP hr1 hrp;refine(cR 4 rfl (by decide) (by decide) (λD hD=>?_));refine jY 4 (λk=>vn k) (λo=>(W r o).isSome&&decide (o≠(hv+2)%4)) hD (by decide) (λj H2 hj _=>hj) (λH2 _=>ZA _) ?_ ?_
    ·rintro j H2 y H3 kt kf hj g2 ⟨rfl,rfl⟩ k1 k2;rw[show(0:Int)+(j:Int)=(j:Int) by lia];refine(oF ((Fills.refl _).set _ rfl) _ _ (aB (g2 _ _ f1d)) vl2 h2s (λT4 hT4=>?_));have g3:=aC hT4 (.tup [vn r,vn j]);refine⟨_,eX.t (k:=kk r j) (g3 _ _ (g2 _ _ (sb4 wa _ (Yh ngw) hw))) aA,?_⟩;rw[hW.2];cases ew:W r j with
     |none=>exact iF (iF (k2 (by rw[ew];rfl) _ g3))
     |some qq =>
      refine iT (?_);have ce:(V.int (j:Int)=V.int (((hv:Int)+2)%4))↔j=(hv+2)%4:=⟨λz=>by injection z with z;lia,λz=>by rw[z];first | rfl | (congr 1;omega)⟩
      by_cases cj:j=(hv+2)%4
      ·exact iFb (by rw[Bool.not_eq_false',decide_eq_true_iff];exact ce.mpr cj) (k2 (by rw[ew];simp[cj]) _ g3)
      ·exact iTb (by rw[Bool.not_eq_true',decide_eq_false_iff_not];exact λz=>cj (ce.mp z)) (k1 (by rw[ew];simpa using cj) _ g3)
    ·intro H5 g5 e5;rw[ex]at e5;refine(aN _ _ (aB e5) (show atI (List.map (λk=>vn k) (x::rr)) ((0:Nat):Int)=some (vn x) from bB rfl) ?_);refine(iI (41-(hs.length+1)) (by lia) (pts++[r]) (hs++[hv]) _ x (by simp) tr2 (λb o hb e=>g5 _ _ (sb4 b o hb e)) (kW (g5 _ _ f1d) (g5 _ _ aA) (by simp;exact lg2) z02 (inv.step z0 hlen hc) (λ_=>?_) ⟨ _,_,rfl⟩));simp only[Zm,ZQ,Nat.add_sub_cancel];rw[gE,gH];exact⟨⟨zz,ezz⟩,λ_=>nxb⟩
 ·have c1:¬(hs.length=0):=λz=>hc (.inl z);have c2:pts.getD hs.length 0∈pl:=Decidable.byContradiction λz=>hc (.inr z);refine iFb (Yc (λz=>by injection z with z;lia)) (dJ _ _ (aB f1) (iD hlen) _ (.inl (aB fpa)) rfl (fH _) (iFb ?_ ?_))
  ·show(!inV (vn (pts.getD hs.length 0)) (vns pl))=false;rw[hG,Ye c2];rfl
  ·exact(q la H4 pts hs gs' hla sb f1 f2 (by lia) tr (by lia) h40 z0 c2 ⟨_,inv⟩)
end K38
namespace L2
open PySem PySem.Spec PyProof.Rows
theorem qJ{J:It}{js:List (Option Nat)}{σ:St}{H1:Hp}{R:Hp->Prop}{D:Addr}{g:TG}{te:TE}(ps:List Pt)(hD:H1 D=none)(hn:ps.length<=90000)
  (go:∀i H',i<ps.length->aJ H1 H'->J.go i H') (stop:∀H',aJ H1 H'->J.stop ps.length H')
  (hs:∀i H' v H'' (k:V->Hp->Prop),i<ps.length->aJ H1 H'->J.yld i H' v H''->(∀u H4,aJ H' H4->nK H4 u (pt ps i)->k u H4)->g v (inner js σ) H'' λσ2 H2=>Fills (inner js σ) σ2/\te σ2 H2 k)
  (hd:∀H',aJ H1 H'->kQ H' D ps->R H') :
  ∃W:Nat->Nat->List V->Hp->Prop,(∃m,W 0 m [] (upd H1 D (.lst []))) /\
   ∀i m ys H,W i m ys H->(J.stop i H/\R H)\/(J.go i H/\∃N:List V->Hp->Prop,(∀ys' H',N ys' H'->∃m',m' < m/\W (i+1) m' ys' H')/\∀x H',J.yld i H x H'->g x (inner js σ) H' λσ2 H2=>Fills (inner js σ) σ2/\nN σ2 H2 λb H3 =>
    If b (te σ2 H3 λy H4=>H4 D=some (.lst ys)/\ys.length<ZW/\N (ys++[y]) (upd H4 D (.lst (ys++[y])))) (N ys H3)):=by
 refine comp_map ps.length (λi ys H'=>ys.length=i/\aJ H1 H'/\H' D=some (.lst ys)/\∀(j:Nat) v,ys[j]?=some v->nK H' v (pt ps j)) ⟨rfl,aC hD _,aA,λj v h=>by simp at h⟩ ?_ ?_
 ·rintro i ys H' hi ⟨hl,g1,e,hp⟩;refine⟨go i H' hi g1,λx H'' y=>hs i H' x H'' _ hi g1 y λu H4 g4 hu=>⟨g4 _ _ e,eV (by lia),by simp[hl],(g1.trans g4).upd hD,aA,λj v h=>?_⟩⟩;have m:∀{v:V}{p:Pt},nK H4 v p->nK (upd H4 D (.lst (ys++[u]))) v p:=λ{v p} ⟨a,ea,ha⟩=>⟨a,ea,by rw[aF (pW ha (g4 _ _ e) (λz=>by cases z))];exact ha⟩
  rcases Xw j ys.length with z | z
  ·rw[Zx z]at h;exact m (nK.mono g4 _ _ (hp j v h))
  ·rw[Zy z]at h;have hj:j-ys.length=0:=by
    have:=(Zj.mp h).1;simp at this;lia
   rw[hj]at h;simp at h;subst h;rw[show j=i by lia];exact m hu
 ·rintro ys H' ⟨hl,g1,e,hp⟩;refine⟨stop H' g1,hd H' g1 ⟨ys,e,hl,λj v x h1 h2=>?_⟩⟩;have:j<ps.length:=(Zj.mp h2).1;rw[pJ this]at h2;cases h2;exact hp j v h1
structure Path(a b:Nat)(pts:List Nat)(hs:Nat->Nat):Prop where
 l2:2<=pts.length
 l50:pts.length<=50
 lt:∀i,i<pts.length->pts.getD i 0<a*b
 go:∀k,k+1<pts.length->hs k<4/\Go a b (hs k) (pts.getD k 0) (pts.getD (k+1) 0)
 on:∀k,k+2<pts.length->hs (k+1)≠(hs k+2)%4
theorem iH.path{a b:Nat}{W:Nat->Nat->Option Nat}{pl pts hs:List Nat}(n:Net a b W)(t:iH W pl pts hs)(h0:0<hs.length)(h40:hs.length<=40):Path a b pts (λk=>hs.getD k 0) where
 l2:=by rw[t.len];lia
 l50:=by rw[t.len];lia
 lt:=λi hi=>by
  rw[t.len]at hi;rcases Xw i hs.length with z | z
  ·exact(n.go _ _ _ (t.go i z)).2.1
  ·have:=(n.go _ _ _ (t.go (hs.length-1) (by lia))).2.2.1;rw[show hs.length-1+1=i by lia]at this;exact this
 go:=λk hk=>by
  rw[t.len]at hk;have:=n.go _ _ _ (t.go k (by lia));exact⟨this.1,this.2.2.2⟩
 on:=λk hk=>by rw[t.len]at hk;exact t.on k (by lia)
theorem dW{l:List Nat}{i:Nat}(h:i<l.length):l.reverse.getD i 0=l.getD (l.length-1-i) 0:=by
 simp only[List.getD,List.getElem?_reverse h]
theorem Path.rev{a b:Nat}{pts:List Nat}{hs:Nat->Nat}(p:Path a b pts hs):Path a b pts.reverse (λk=>(hs (pts.length-2-k)+2)%4) where
 l2:=by rw[Xq];exact p.l2
 l50:=by rw[Xq];exact p.l50
 lt:=λi hi=>by rw[Xq]at hi;rw[dW hi];exact p.lt _ (by omega)
 go:=λk hk=>by
  rw[Xq]at hk;rw[dW (by lia),dW hk];have:=(p.go (pts.length-2-k) (by omega)).2.sym;rw[show pts.length-2-k+1=pts.length-1-k by lia]at this;rw[show pts.length-1-(k+1)=pts.length-2-k by lia];exact⟨by lia,this⟩
 on:=λk hk=>by
  rw[Xq]at hk;have o:=p.on (pts.length-2-(k+1)) (by omega);have h1:=(p.go (pts.length-2-k) (by omega)).1;have h2:=(p.go (pts.length-2-(k+1)) (by omega)).1;rw[show pts.length-2-(k+1)+1=pts.length-2-k by lia]at o;intro z;exact o (by omega)
def FM(l:List Int):Prop:=l.length=5/\(∀j,j+1<5->at0 l j<at0 l (j+1))/\∀j,j<5->-2<=at0 l j/\at0 l j<=2+3*(j:Int)
def pm(a:Nat)(xl yl:List Int)(q:Nat):Pt:=(at0 xl (q%a),at0 yl (q / a))
theorem LK{a p:Nat}(ha:0<a)(h:p%a+1<a):(p+1)%a=p%a+1/\(p+1) / a=p / a:=by
 have e:p+1=(p%a+1)+a*(p / a):=by have:=Nat.div_add_mod p a;lia
 constructor
 ·rw[e,Nat.add_mul_mod_self_left,Nat.mod_eq_of_lt h]
 ·rw[e,Nat.add_mul_div_left _ _ ha,Nat.div_eq_of_lt h,Nat.zero_add]
theorem Path.walk{a b:Nat}{pts:List Nat}{hs:Nat->Nat}{xl yl:List Int}(p:Path a b pts hs)(hx:FM xl)(hy:FM yl)(ha:0<a)(ha5:a<=5)(hb5:b<=5):Walk (pts.map (pm a xl yl)) hs where
 len:=by rw[Zq];exact p.l2
 few:=by rw[Zq];have:=p.l50;lia
 go:=λk hk=>by
  rw[Zq]at hk;have e:∀{i},i<pts.length->pt (pts.map (pm a xl yl)) i=pm a xl yl (pts.getD i 0):=λ{i} hi=>by
   unfold pt;simp[List.getD,hi]
  rw[e (by lia),e hk];have g:=(p.go k hk).2;have l1:=p.lt k (by lia);have l2:=p.lt (k+1) hk;generalize pts.getD k 0=u at g l1 ⊢;generalize pts.getD (k+1) 0=v at g l2 ⊢;have d1:=nG l1 ha;have d2:=nG l2 ha;unfold ahead pm;dsimp only;rcases g with⟨h,h1,rfl⟩ | ⟨h,h1,rfl⟩ | ⟨h,h1,rfl⟩ | ⟨h,h1,rfl⟩
  ·obtain⟨m1,m2⟩:=LK ha h1;refine .inl ⟨h,by rw[m2],?_⟩;rw[m1];exact hx.2.1 _ (by lia)
  ·refine .inr (.inl ⟨h,by rw[Nat.add_mod_right],?_⟩);rw[Nat.add_div_right _ ha];exact hy.2.1 _ (by lia)
  ·obtain⟨m1,m2⟩:=LK ha h1;refine .inr (.inr (.inl ⟨h,by rw[m2],?_⟩));rw[m1];exact hx.2.1 _ (by lia)
  ·refine .inr (.inr (.inr ⟨h,by rw[Nat.add_mod_right],?_⟩));rw[Nat.add_div_right _ ha];exact hy.2.1 _ (by lia)
 on:=λk hk=>by rw[Zq]at hk;exact p.on k hk
theorem DH{a b:Nat}{pts:List Nat}{xl yl:List Int}(hx:FM xl)(ha:0<a)(ha5:a<=5):Bdd (pts.map (pm a xl yl)):=by
 intro k hk;rw[Zq]at hk;have e:pt (pts.map (pm a xl yl)) k=pm a xl yl (pts.getD k 0):=by unfold pt;simp[List.getD,hk]
 have m:=Nat.mod_lt (pts.getD k 0) ha;have:=hx.2.2 (pts.getD k 0%a) (by lia);rw[e];unfold pm;dsimp only
 lia
def F3(x y z:Addr)(H H':Hp):Prop:=∀b o,b≠x->b≠y->b≠z->H b=some o->H' b=some o
theorem F3.refl(x y z:Addr)(H:Hp):F3 x y z H H:=λ_ _ _ _ _ e=>e
theorem F3.trans{x y z:Addr}{H H1 H2:Hp}(a:F3 x y z H H1)(b:F3 x y z H1 H2):F3 x y z H H2:=λc o h1 h2 h3 e=>b c o h1 h2 h3 (a c o h1 h2 h3 e)
theorem aJ.f3{x y z:Addr}{H H':Hp}(g:aJ H H'):F3 x y z H H':=λb o _ _ _ e=>g b o e
theorem cL.f3{x y z:Addr}{H H':Hp}(g:cL x H H'):F3 x y z H H':=λb o h _ _ e=>g b o h e
theorem JG{x y z:Addr}{H:Hp}{o:HO}:F3 x y z H (upd H y o):=λb u _ h _ e=>by rw[aF h];exact e
theorem JF{x y z:Addr}{H:Hp}{o:HO}:F3 x y z H (upd H z o):=λb u _ _ h e=>by rw[aF h];exact e
def TyI(H:Hp)(tr:List Addr)(ts:MM.aR):Prop:=tr.length=ts.length/\∀(i:Nat) t,ts[i]?=some t->∃r,tr[i]?=some r/\H r=some (.tup [vn t.1,vn t.2])
def LnI(y z:Addr)(H:Hp)(lr:List Addr)(ll:List (List Pt)):Prop:=lr.length=ll.length/\∀(i:Nat) ps,ll[i]?=some ps->∃l,lr[i]?=some l/\l≠y/\l≠z/\kQ H l ps
section
variable{x y z:Addr}{H H':Hp}{gs:List (List Key×V)}{us ws:List V}
theorem F3.tup(f:F3 x y z H H')(k1:H x=some (.dT gs))(k2:H y=some (.lst us))(k3:H z=some (.lst ws)){r:Addr}{xs:List V}(h:H r=some (.tup xs)):H' r=some (.tup xs) :=
 f r _ (pW h k1 (λe=>by cases e)) (pW h k2 (λe=>by cases e)) (pW h k3 (λe=>by cases e)) h
theorem TyI.f3{tr:List Addr}{ts:MM.aR}(t:TyI H tr ts)(f:F3 x y z H H')(k1:H x=some (.dT gs))(k2:H y=some (.lst us))(k3:H z=some (.lst ws)):TyI H' tr ts :=
 ⟨t.1,λi s h=>let⟨r,e1,e2⟩:=t.2 i s h;⟨r,e1,f.tup k1 k2 k3 e2⟩⟩
theorem LnI.f3{lr:List Addr}{ll:List (List Pt)}(t:LnI y z H lr ll)(f:F3 x y z H H')(k1:H x=some (.dT gs))(k2:H y=some (.lst us))(k3:H z=some (.lst ws)):LnI y z H' lr ll :=
 ⟨t.1,λi ps h=>by
  obtain⟨l,e1,e2,e3,vs,v1,v2,v3⟩:=t.2 i ps h;refine⟨l,e1,e2,e3,vs,f l _ (pW v1 k1 (λe=>by cases e)) e2 e3 v1,v2,λj v p h1 h2=>?_⟩;obtain⟨a,ea,ha⟩:=v3 j v p h1 h2;exact⟨a,ea,f.tup k1 k2 k3 ha⟩⟩
end
theorem TyI.app{H:Hp}{tr:List Addr}{ts:MM.aR}(t:TyI H tr ts){r:Addr}{s:Nat×Nat}(h:H r=some (.tup [vn s.1,vn s.2])):TyI H (tr++[r]) (ts++[s]):=by
 refine⟨by simp[t.1],λi u hu=>?_⟩;rcases Xw i ts.length with z | z
 ·rw[Zx z]at hu;rw[Zx (by rw[t.1];exact z)];exact t.2 i u hu
 ·rw[Zy z]at hu;have hi:i-ts.length=0:=by
   have:=(Zj.mp hu).1;simp at this;lia
  rw[hi]at hu;simp at hu;subst hu;exact⟨r,by rw[Zy (by rw[t.1];exact z),t.1,hi];rfl,h⟩
theorem LnI.app{y z:Addr}{H:Hp}{lr:List Addr}{ll:List (List Pt)}(t:LnI y z H lr ll){l:Addr}{ps:List Pt}(h1:l≠y)(h2:l≠z)(h:kQ H l ps):LnI y z H (lr++[l]) (ll++[ps]):=by
 refine⟨by simp[t.1],λi u hu=>?_⟩;rcases Xw i ll.length with z | z
 ·rw[Zx z]at hu;rw[Zx (by rw[t.1];exact z)];exact t.2 i u hu
 ·rw[Zy z]at hu;have hi:i-ll.length=0:=by
   have:=(Zj.mp hu).1;simp at this;lia
  rw[hi]at hu;simp at hu;subst hu;exact⟨l,by rw[Zy (by rw[t.1];exact z),t.1,hi];rfl,h1,h2,h⟩
theorem LnI.ls{y z:Addr}{H:Hp}{lr:List Addr}{ll:List (List Pt)}(t:LnI y z H lr ll){l:Addr}(h:H l=some (.lst (lr.map V.ref))):B2 H l ll:=by
 refine⟨_,h,by rw[Zq];exact t.1,λi v ps h1 h2=>?_⟩;obtain⟨l',e1,_,_,e4⟩:=t.2 i ps h2;rw[Zk,e1]at h1;cases h1;exact⟨l',rfl,e4⟩
theorem TyI.ts{H:Hp}{tr:List Addr}{ts:MM.aR}(t:TyI H tr ts){l:Addr}(h:H l=some (.lst (tr.map V.ref))):nJ H l ts:=⟨tr,h,t.1,t.2⟩
theorem rX{ts:MM.aR}{s:Nat×Nat}{e:Nat}(h:e<2*ts.length):MM.place (ts++[s]) e=MM.place ts e:=by
 unfold MM.place;have:e / 2<ts.length:=by lia
 simp only[List.getD,Zx this]
theorem y8(ts:MM.aR)(s:Nat×Nat):MM.place (ts++[s]) (2*ts.length)=s.1:=by
 unfold MM.place;rw[Yb (by lia),show 2*ts.length / 2=ts.length by lia];simp[List.getD]
theorem y6(ts:MM.aR)(s:Nat×Nat):MM.place (ts++[s]) (2*ts.length+1)=s.2:=by
 unfold MM.place;rw[Ya (by lia),show(2*ts.length+1) / 2=ts.length by lia];simp[List.getD]
theorem yH{pl:List Nat}(nd:pl.Nodup){i:Nat}(h:i<pl.length):pl.idxOf (pl.getD i 0)=i:=by
 simp only[List.getD,Zz h,YM];exact nd.idxOf_getElem i h
structure Lp(pl:List Nat)(ga ta na:Addr)(H5 H':Hp)(tr lr:List Addr)(ts:MM.aR)(ll:List (List Pt))(gs:List (List Key×V)):Prop where
 f:F3 ga ta na H5 H'
 tA:H' ta=some (.lst (tr.map V.ref))
 tI:TyI H' tr ts
 lA:H' na=some (.lst (lr.map V.ref))
 lI:LnI ta na H' lr ll
 gA:H' ga=some (.dT gs)
 gl:gs.length<=80*ts.length
 ln:ll.length=ts.length
 pt:∀t∈ts,t.1<pl.length/\t.2<pl.length
 li:∀ps∈ll,IB ps/\Bdd ps
 gi:∀x y:Nat,(bJ gs (kk x y)).isSome=true->x∈pl->∃e,e<2*ts.length/\MM.place ts e=pl.idxOf x
theorem Lp.same{pl:List Nat}{ga ta na:Addr}{H5 H' H2:Hp}{tr lr:List Addr}{ts:MM.aR}{ll:List (List Pt)}{gs:List (List Key×V)}(p:Lp pl ga ta na H5 H' tr lr ts ll gs)(g:aJ H' H2):Lp pl ga ta na H5 H2 tr lr ts ll gs :=
 ⟨p.f.trans g.f3,g _ _ p.tA,p.tI.f3 (g.f3 (x:=ga) (y:=ta) (z:=na)) p.gA p.tA p.lA,g _ _ p.lA,p.lI.f3 (g.f3 (x:=ga)) p.gA p.tA p.lA,g _ _ p.gA,p.gl,p.ln,p.pt,p.li,p.gi⟩
abbrev GZ:=Nat×(Nat->Nat)×(Nat->Nat)
def Dt(z:GZ)(x y:Nat):Prop:=(x=z.2.1 0/\y=z.2.2 0)\/(x=z.2.1 z.1/\y=TU.bk z.1 z.2.2)
structure Gln(W:Nat->Nat->Option Nat)(pl:List Nat)(gl:List GZ)(ts:MM.aR)(ll:List (List Pt))(gs:List (List Key×V)):Prop where
 len:gl.length=ts.length
 lln:ll.length=ts.length
 tr:∀{k:Nat}{z:GZ},gl[k]?=some z->TU.Tr W pl z.1 z.2.1 z.2.2
 tie:∀{k:Nat}{z:GZ},gl[k]?=some z->ts[k]?=some (pl.idxOf (z.2.1 0),pl.idxOf (z.2.1 z.1))
 ln:∀{k:Nat}{z:GZ},gl[k]?=some z->∃ps,ll[k]?=some ps/\hds ps=(eG z.2.2 (z.1-1)).map λn:Nat=>(n:Int)
 gi:∀{x y:Nat},x∈pl->(bJ gs (kk x y)).isSome=true->∃(k:Nat) (z:GZ),gl[k]?=some z/\Dt z x y
 in_:∀{k:Nat}{z:GZ}{x y:Nat},gl[k]?=some z->Dt z x y->(bJ gs (kk x y)).isSome=true
 ap:∀{k k':Nat}{z z':GZ}{x y:Nat},gl[k]?=some z->gl[k']?=some z'->Dt z x y->Dt z' x y->k=k'
theorem jO{α:Type}{l:List α}{x y:α}{k:Nat}(h:(l++[x])[k]?=some y):l[k]?=some y\/(k=l.length/\y=x):=by
 rcases Xw k l.length with z | z
 ·rw[Zx z]at h;exact .inl h
 ·rw[Zy z]at h;have hk:=(Zj.mp h).1;rw[ZQ]at hk;have:k=l.length:=by lia
  subst this;rw[Nat.sub_self]at h;exact .inr ⟨rfl,(Option.some.inj h).symm⟩
theorem xF{α:Type}{l:List α}{x y:α}{k:Nat}(h:l[k]?=some y):(l++[x])[k]?=some y:=by rw[Zx (Zj.mp h).1];exact h
theorem sX{α:Type}{l:List α}{x:α}:(l++[x])[l.length]?=some x:=by simp
theorem iH.tr{W:Nat->Nat->Option Nat}{pl pts hs:List Nat}(t:iH W pl pts hs)(h0:0<hs.length)(hl:pts.getD hs.length 0∈pl):TU.Tr W pl hs.length (λi=>pts.getD i 0) (λi=>hs.getD i 0) :=
 ⟨h0,λ{i} hi=>t.go i hi,λ{i} h1 h2=>t.mid i h1 h2,λ{i} hi=>t.on i hi,t.fst,hl⟩
theorem Gln.step{a b:Nat}{W:Nat->Nat->Option Nat}{pl:List Nat}{gl:List GZ}{ts:MM.aR}{ll:List (List Pt)}{gs gs':List (List Key×V)}(g:Gln W pl gl ts ll gs)(s:TU.Stp a b W)(tw:TU.Two W pl){pts hs:List Nat}(t:iH W pl pts hs)(h0:0<hs.length)(hl:pts.getD hs.length 0∈pl){p h hv:Nat}
  (hp:pts.getD 0 0=p) (gn:Gn pl gs p h pts hs hv gs') (no:(bJ gs (kk p h)).isSome=false) {z:GZ}(tz:TU.Tr W pl z.1 z.2.1 z.2.2) (hz:∀x y,Dt z x y↔Dt (hs.length,(λi=>pts.getD i 0),λi=>hs.getD i 0) x y) {kp:List Pt}(hk:hds kp=(eG z.2.2 (z.1-1)).map λn:Nat=>(n:Int)) :
  Gln W pl (gl++[z]) (ts++[(pl.idxOf (z.2.1 0),pl.idxOf (z.2.1 z.1))]) (ll++[kp]) gs':=by
 have t0:=t.tr h0 hl;obtain⟨n1,n2,n3,n4⟩:=gn;obtain⟨m1,m2,m3⟩:=n4 h0;have dz:∀{x y},Dt z x y↔(x=p/\y=h)\/(x=pts.getD hs.length 0/\y=(hs.getD (hs.length-1) 0+2)%4):=λ{x y}=>by
  rw[hz];unfold Dt TU.bk;dsimp only;rw[hp,m1]
 have clash:∀{k:Nat}{w:GZ}{x y:Nat},gl[k]?=some w->Dt w x y->Dt z x y->False:=λ{k w x y} hw dw dz'=>by
  rcases dz.mp dz' with⟨rfl,rfl⟩ | ⟨e1,e2⟩
  ·have:=g.in_ hw dw;rw[no]at this;cases this
  ·have mt:=t0.meet (g.tr hw) s tw (by
    unfold Dt at dw;rw[e1,e2]at dw;exact dw)
   have:Dt w p h:=by
    unfold Dt;rw[hp,m1]at mt;exact mt
   have:=g.in_ hw this;rw[no]at this;cases this
 refine⟨by rw[Zm,Zm,g.len];rfl,by rw[Zm,Zm,g.lln];rfl,λ{k w} hw=>?_,λ{k w} hw=>?_,λ{k w} hw=>?_,λ{x y} hx e=>?_,λ{k w x y} hw d=>?_,λ{k k' w w' x y} hw hw' d d'=>?_⟩
 ·rcases jO hw with q | ⟨_,rfl⟩
  ·exact g.tr q
  ·exact tz
 ·rcases jO hw with q | ⟨e,rfl⟩
  ·exact xF (g.tie q)
  ·rw[e,g.len];exact sX
 ·rcases jO hw with q | ⟨e,rfl⟩
  ·obtain⟨ps,h1,h2⟩:=g.ln q;exact⟨ps,xF h1,h2⟩
  ·exact⟨kp,by rw[e,g.len,<-g.lln];exact sX,hk⟩
 ·rcases n1 x y e with q | q | q | ⟨_,q⟩
  ·obtain⟨k,w,h1,h2⟩:=g.gi hx q;exact⟨k,w,xF h1,h2⟩
  ·exact Yg hx q
  ·exact⟨gl.length,z,sX,dz.mpr (.inl q)⟩
  ·exact⟨gl.length,z,sX,dz.mpr (.inr q)⟩
 ·rcases jO hw with q | ⟨_,rfl⟩
  ·exact n2 x y (g.in_ q d)
  ·rcases dz.mp d with⟨rfl,rfl⟩ | ⟨rfl,rfl⟩
   ·exact m2
   ·exact m3
 ·rcases jO hw with q | ⟨e,rfl⟩<;>rcases jO hw' with q' | ⟨e',rfl⟩
  ·exact g.ap q q' d d'
  ·exact(clash q d d').elim
  ·exact(clash q' d' d).elim
  ·rw[e,e']
theorem Gln.step2{a b:Nat}{W:Nat->Nat->Option Nat}{pl:List Nat}{gl:List GZ}{ts:MM.aR}{ll:List (List Pt)}{gs gs':List (List Key×V)}(g:Gln W pl gl ts ll gs)(s:TU.Stp a b W)(tw:TU.Two W pl){pts hs:List Nat}(t:iH W pl pts hs)(h0:0<hs.length)(hl:pts.getD hs.length 0∈pl){p h hv:Nat}
  (hp:pts.getD 0 0=p) (gn:Gn pl gs p h pts hs hv gs') (no:(bJ gs (kk p h)).isSome=false) {pts2:List Nat}{hs2:Nat->Nat}(hz:(pts2=pts/\hs2=λk=>hs.getD k 0)\/(pts2=pts.reverse/\hs2=λk=>(hs.getD (pts.length-2-k) 0+2)%4)) {kp:List Pt}(hk:hds kp=(eG hs2 (pts2.length-2)).map λn:Nat=>(n:Int)) :
  ∃z,Gln W pl (gl++[z]) (ts++[(pl.idxOf (pts2.getD 0 0),pl.idxOf (pts2.getD (pts2.length-1) 0))]) (ll++[kp]) gs':=by
 have t0:=t.tr h0 hl;have tl:=t.len;rcases hz with⟨rfl,rfl⟩ | ⟨rfl,rfl⟩
 ·refine⟨(hs.length,(λi=>pts2.getD i 0),λi=>hs.getD i 0),?_⟩;have:=g.step s tw t h0 hl hp gn no t0 (λ_ _=>Iff.rfl) (kp:=kp) (by rw[show pts2.length-2=hs.length-1 by lia]at hk;exact hk);rw[show pts2.length-1=hs.length by lia];exact this
 ·have t1:=t0.rev s;have e1:pts.reverse.getD 0 0=pts.getD (hs.length-0) 0:=by rw[dW (by lia),show pts.length-1-0=hs.length-0 by lia]
  have e2:pts.reverse.getD (pts.reverse.length-1) 0=pts.getD (hs.length-hs.length) 0:=by rw[Xq,dW (by lia),show pts.length-1-(pts.length-1)=hs.length-hs.length by lia]
  have eh:(λk=>(hs.getD (pts.length-2-k) 0+2)%4)=λk=>(hs.getD (hs.length-1-k) 0+2)%4:=by
   funext k;rw[show pts.length-2-k=hs.length-1-k by omega]
  rw[eh,Xq,show pts.length-2=hs.length-1 by lia]at hk;refine⟨(hs.length,(λi=>pts.getD (hs.length-i) 0),λi=>(hs.getD (hs.length-1-i) 0+2)%4),?_⟩;rw[e1,e2];refine g.step s tw t h0 hl hp gn no t1 (λx y=>?_) hk;have h4:=s.h4 (t0.go t0.n0);unfold Dt TU.bk;dsimp only at h4 ⊢;rw[YY,Nat.sub_self,Nat.sub_self,show((hs.getD 0 0+2)%4+2)%4=hs.getD 0 0 by lia,YY];exact or_comm
def z0':GZ:=(0,(λ_=>0),λ_=>0)
def gn(gl:List GZ)(e:Nat):Nat:=(gl.getD (e / 2) z0').1
def gpt(gl:List GZ)(e i:Nat):Nat:=if e%2=0 then (gl.getD (e / 2) z0').2.1 i else (gl.getD (e / 2) z0').2.1 ((gl.getD (e / 2) z0').1-i)
def ghd(gl:List GZ)(e i:Nat):Nat:=if e%2=0 then (gl.getD (e / 2) z0').2.2 i else ((gl.getD (e / 2) z0').2.2 ((gl.getD (e / 2) z0').1-1-i)+2)%4
def Al(W:Nat->Nat->Option Nat)(pl:List Nat)(gs:List (List Key×V))(i j:Nat):Prop:=∀k h q:Nat,k<pl.length->W (pl.getD k 0) h=some q->(k<i\/(k=i/\h<j))->(bJ gs (kk (pl.getD k 0) h)).isSome=true
theorem Net.stp{a b:Nat}{W:Nat->Nat->Option Nat}(n:Net a b W)(ha:0<a):TU.Stp a b W where
 h4:=λ{p h q} e=>(n.go p h q e).1
 sym:=λ{p h q} e=>n.sym p h q e
 e:=λ{p q} e=>by
  obtain⟨_,h2,h3,h4⟩:=n.go p 0 q e;have:p%a+1<a/\q=p+1:=by unfold Go at h4;lia
  exact⟨h2,this⟩
 n:=λ{p q} e=>by
  obtain⟨_,h2,h3,h4⟩:=n.go p 1 q e;have:p / a+1<b/\q=p+a:=by unfold Go at h4;lia
  exact⟨h2,this⟩
theorem Plc.two'{a b:Nat}{W:Nat->Nat->Option Nat}{N:Nat}{come pl:List Nat}(s:TU.Stp a b W)(pc:Plc W come pl)(cm:eJ W N come):TU.Two W pl:=λ{p h q} hp hw=>by
 have h2:=pc.two p (cm.cl p h q hw) hp
 match hm:heads W p,h2 with
 |[x,y],_ =>
  have nd:=vK W p;rw[hm]at nd;have lt:∀k,(W p k).isSome=true->k∈heads W p:=λk hk=>fV.mpr ⟨by
   obtain⟨q,e⟩:=Option.isSome_iff_exists.mp hk;exact s.h4 e,hk⟩
  refine⟨x,y,λz=>by subst z;simp at nd,λk=>⟨λz=>?_,λz=>?_⟩⟩
  ·have:=lt k z;rw[hm]at this;simpa using this
  ·have:k∈heads W p:=by rw[hm];simpa using z
   exact(fV.mp this).2
theorem Gln.at_{W:Nat->Nat->Option Nat}{pl:List Nat}{gl:List GZ}{ts:MM.aR}{ll:List (List Pt)}{gs:List (List Key×V)}(g:Gln W pl gl ts ll gs){e:Nat}(he:e<2*ts.length):∃z,gl[e / 2]?=some z/\gl.getD (e / 2) z0'=z:=by
 have h:e / 2<gl.length:=by rw[g.len];lia
 exact⟨gl[e / 2],Zz h,by simp[List.getD,h]⟩
theorem iE{α:Type}{f:α->List Int}(hf:∀x,(f x).length=2):∀{ll:List α}{k r:Nat}{x:α},ll[k]?=some x->r<2->at0 (ll.flatMap f) (2*k+r)=at0 (f x) r
 |[],k,r,x,h,_=>by simp at h
 |y::ll,0,r,x,h,hr=>by
  have:y=x:=by simpa using h
  subst this;unfold at0;rw[List.flatMap_cons,Zv,Zv,Zx (by rw[hf];lia),Nat.mul_zero,Nat.zero_add]
 |y::ll,k+1,r,x,h,hr=>by
  have ih:=iE hf (ll:=ll) (k:=k) (r:=r) (x:=x) (by simpa using h) hr;unfold at0 at ih ⊢;rw[List.flatMap_cons,<-ih,Zv,Zy (by rw[hf];lia),Zv,hf];congr 2
  lia
theorem qR{l:List Nat}{j:Nat}:at0 (l.map λn:Nat=>(n:Int)) j=((l.getD j 0:Nat):Int):=by
 unfold at0;rw[Zv,Zk,Zv];cases l[j]?<;>rfl
theorem Gln.head{W:Nat->Nat->Option Nat}{pl:List Nat}{gl:List GZ}{ts:MM.aR}{ll:List (List Pt)}{gs:List (List Key×V)}(g:Gln W pl gl ts ll gs){e:Nat}(he:e<2*ts.length):at0 (lvs ll) e=(ghd gl e 0:Int):=by
 obtain⟨z,h1,h2⟩:=g.at_ he;obtain⟨ps,h3,h4⟩:=g.ln h1;have n0:=(g.tr h1).n0;have hf:∀x:List Pt,(zS x).length=2:=λ_=>rfl;unfold ghd;rw[h2];by_cases c:e%2=0
 ·rw[Yb c,show e=2*(e / 2)+0 by lia];unfold lvs;rw[iE hf h3 (by lia)];show at0 (hds ps) 0=_;rw[h4,qR,kM]
 ·rw[Ya c,show e=2*(e / 2)+1 by lia];unfold lvs;rw[iE hf h3 (by lia)];show(at0 (hds ps) ((hds ps).length-1)+2)%4=_;rw[h4,qR,Zq,jZ,YY]
  lia
def ts1(f:Nat->Nat):Nat->Int
 |0=>0
 |i+1=>ts1 f i+((((f (i+1)+6-f i)%4:Nat):Int)-2)
theorem kZ{hd:Nat->Nat->Nat}{e:Nat}{f:Nat->Nat}:∀{i},(∀j,j<=i->hd e j=f j)->TU.nW hd e i=ts1 f i
 |0,_=>rfl
 |i+1,h=>by
  show TU.nW hd e i+_=ts1 f i+_;rw[kZ λj hj=>h j (by lia),h i (by lia),h (i+1) (by lia)]
theorem wW(f:Nat->Nat):∀N,ts1 f N=MM.su (ZR N) λj=>(((f (j+1)+6-f j)%4:Nat):Int)-2
 |0=>rfl
 |N+1=>by
  show ts1 f N+_=_;rw[ZH,MM.mR,MM.aZ,MM.jC,wW f N];lia
theorem FX{f:Nat->Nat}{N:Nat}(h4:∀j,j<=N->f j<4)(on:∀j,j<N->f (j+1)≠(f j+2)%4):ts1 (λi=>(f (N-i)+2)%4) N = - ts1 f N:=by
 have rp:((ZR N).map λj=>N-1-j).Perm (ZR N):=by
  refine MM.lG ?_ ZC λx=>?_
  ·rw[List.Nodup,List.pairwise_map];exact List.Pairwise.imp_of_mem (λ{x y} hx hy ne z=>ne (by have:=Zs.mp hx;have:=Zs.mp hy;omega)) ZC
  ·rw[Zh];constructor
   ·rintro⟨y,hy,rfl⟩;have:=Zs.mp hy;exact Zs.mpr (by omega)
   ·intro hx;have:=Zs.mp hx;exact⟨N-1-x,Zs.mpr (by omega),by omega⟩
 rw[wW,wW,<-MM.iJ rp,MM.w9];have neg:∀(l:List Nat) (v:Nat->Int),- MM.su l v=MM.su l λj=>- v j:=λl v=>by
  induction l with
  |nil=>rfl
  |cons x l ih=>rw[MM.aZ,MM.aZ,<-ih];lia
 rw[neg];refine MM.fY λj hj=>?_;have hj:=Zs.mp hj;have e1:N-(N-1-j+1)=j:=by omega
 have e2:N-(N-1-j)=j+1:=by omega
 rw[e1,e2];have a1:=h4 j (by lia);have a2:=h4 (j+1) (by lia);have a3:=on j (by lia)
 lia
theorem HR{L:List Int}{x:Int}(h:0<L.length):dif (L++[x]) 0=dif L 0++[(x-at0 L (L.length-1)-0)%4]:=by
 have al:∀{k},k<L.length->at0 (L++[x]) k=at0 L k:=λ{k} hk=>by unfold at0;rw[Zv,Zx hk,<-Zv]
 have ar:at0 (L++[x]) L.length=x:=by unfold at0;simp[List.getD]
 unfold dif;rw[Zm,ZQ,show L.length+1-1=(L.length-1)+1 by lia,ZH,Zt];congr 1
 ·refine Yt λk hk=>?_;have:=Zs.mp hk;rw[al (by omega),al (by omega)]
 ·show[(at0 (L++[x]) (L.length-1+1)-at0 (L++[x]) (L.length-1)-0)%4]=_;rw[show L.length-1+1=L.length by lia,ar,al (by omega)]
theorem zX{f:Nat->Nat}:∀{i:Nat},(∀j,j<=i->f j<4)->(∀j,j<i->f (j+1)≠(f j+2)%4)->(((dif ((eG f i).map λn:Nat=>(n:Int)) 0).count 1:Nat):Int)-((dif ((eG f i).map λn:Nat=>(n:Int)) 0).count 3:Nat)=ts1 f i
 |0,_,_=>rfl
 |i+1,h4,on=>by
  have ih:=zX (i:=i) (λj hj=>h4 j (by lia)) λj hj=>on j (by lia);show _=ts1 f i+_;rw[<-ih];have a1:=h4 i (by lia);have a2:=h4 (i+1) (by lia);have a3:=on i (by lia);rw[show eG f (i+1)=if f (i+1)=f i then eG f i else eG f i++[f (i+1)] from rfl];by_cases c:f (i+1)=f i
  ·rw[Yb c,c];lia
  ·rw[Ya c,Zt];have lp:0<((eG f i).map λn:Nat=>(n:Int)).length:=by rw[Zq];exact qM f i
   show(((dif ((eG f i).map (λn:Nat=>(n:Int))++[((f (i+1):Nat):Int)]) 0).count 1:Nat):Int)-((dif ((eG f i).map (λn:Nat=>(n:Int))++[((f (i+1):Nat):Int)]) 0).count 3:Nat)=_;rw[HR lp,List.count_append,List.count_append,qR,Zq,jZ];have:((f (i+1):Int)-(f i:Int)-0)%4=1\/((f (i+1):Int)-(f i:Int)-0)%4=3:=by omega
   rcases this with z | z
   ·rw[z];have e1:List.count (1:Int) [1]=1:=rfl;have e2:List.count (3:Int) [1]=0:=rfl;rw[e1,e2];lia
   ·rw[z];have e1:List.count (1:Int) [3]=0:=rfl;have e2:List.count (3:Int) [3]=1:=rfl;rw[e1,e2];lia
theorem Gln.turns{a b:Nat}{W:Nat->Nat->Option Nat}{pl:List Nat}{gl:List GZ}{ts:MM.aR}{ll:List (List Pt)}{gs:List (List Key×V)}(g:Gln W pl gl ts ll gs)(s:TU.Stp a b W){e:Nat}(he:e<2*ts.length):at0 (lfs ll) e-at0 (lfs ll) (MM.oth e)=TU.nW (ghd gl) e (gn gl e-1):=by
 obtain⟨z,h1,h2⟩:=g.at_ he;obtain⟨ps,h3,h4⟩:=g.ln h1;have t:=g.tr h1;have n0:=t.n0;have b4:∀j,j<=z.1-1->z.2.2 j<4:=λj hj=>s.h4 (t.go (by omega));have on:∀j,j<z.1-1->z.2.2 (j+1)≠(z.2.2 j+2)%4:=λj hj=>t.on (by omega);have hf:∀x:List Pt,([cnt x 1,cnt x 3]:List Int).length=2:=λ_=>rfl;have l0:at0 (lfs ll) (2*(e / 2)+0)=cnt ps 1:=by unfold lfs;rw[iE hf h3 (by lia)];rfl
 have l1:at0 (lfs ll) (2*(e / 2)+1)=cnt ps 3:=by unfold lfs;rw[iE hf h3 (by lia)];rfl
 have key:=zX b4 on;rw[<-h4]at key;have key':cnt ps 1-cnt ps 3=ts1 z.2.2 (z.1-1):=key;have en:gn gl e=z.1:=by unfold gn;rw[h2]
 rw[en];by_cases c:e%2=0
 ·rw[kZ (f:=z.2.2) λj _=>by unfold ghd;rw[Yb c,h2],<-key'];have o:MM.oth e=2*(e / 2)+1:=by unfold MM.oth;rw[Yb c];lia
  rw[o,l1,show at0 (lfs ll) e=at0 (lfs ll) (2*(e / 2)+0) by congr 1;lia,l0]
 ·rw[kZ (f:=λi=>(z.2.2 (z.1-1-i)+2)%4) λj _=>by unfold ghd;rw[Ya c,h2],FX b4 on,<-key'];have o:MM.oth e=2*(e / 2)+0:=by unfold MM.oth;rw[Ya c];lia
  rw[o,l0,show at0 (lfs ll) e=at0 (lfs ll) (2*(e / 2)+1) by congr 1;lia,l1]
  lia
theorem HG(ll:List (List Pt))(e:Nat):0<=at0 (lfs ll) e:=by
 have:∀x∈lfs ll,0<=x:=λx hx=>by
  obtain⟨ps,_,h⟩:=Yk.mp hx;have h':x=cnt ps 1\/x=cnt ps 3:=by simpa using h
  rcases h' with rfl | rfl<;>exact Int.natCast_nonneg _
 unfold at0;rw[Zv];cases h:(lfs ll)[e]? with
 |none=>exact Int.le_refl _
 |some x=>exact this x (Zg h)
theorem l8{pl:List Nat}{x:Nat}(h:x∈pl):pl[pl.idxOf x]?=some x:=by
 have hi:=ZM h;rw[Zz hi,List.getElem_idxOf hi]
theorem Gln.start{W:Nat->Nat->Option Nat}{pl:List Nat}:Gln W pl [] [] [] []:=⟨rfl,rfl,λ{k z} h=>(by simp at h),λ{k z} h=>(by simp at h),λ{k z} h=>(by simp at h),λ{x y} _ h=>(by cases h),λ{k z x y} h=>(by simp at h),λ{k k' z z' x y} h=>(by simp at h)⟩
theorem Gln.pct{a b:Nat}{W:Nat->Nat->Option Nat}{pl:List Nat}{gl:List GZ}{ts:MM.aR}{os:MM.aT}{ll:List (List Pt)}{gs:List (List Key×V)}(g:Gln W pl gl ts ll gs)(s:TU.Stp a b W)(tw:TU.Two W pl)(pnd:pl.Nodup)(pne:∀p∈pl,∃h q,W p h=some q)(pl0:0<pl.length)(al:Al W pl gs pl.length 0)(ol:os.length=pl.length)
  (mem:∀k,k<pl.length->∀e,e∈MM.row os k↔e<2*ts.length/\MM.place ts e=k) (rows:∀k,k<pl.length->∃l,MM.Rot (MM.row os k) l/\l.Nodup/\l.Pairwise λe e'=>at0 (lvs ll) e<=at0 (lvs ll) e'):TU.Pct W pl ts os (gn gl) (gpt gl) (ghd gl):=by
 have sur:∀{p h q},p∈pl->W p h=some q->∃e,e<2*ts.length/\gpt gl e 0=p/\ghd gl e 0=h:=λ{p h q} hp hw=>by
  have hi:=ZM hp;have eg:pl.getD (pl.idxOf p) 0=p:=by rw[Zv,l8 hp];rfl
  have:=al (pl.idxOf p) h q hi (by rw[eg];exact hw) (.inl hi);rw[eg]at this;obtain⟨k,z,h1,h2⟩:=g.gi hp this;have hk:k<ts.length:=by rw[<-g.len];exact(Zj.mp h1).1
  have ez:gl.getD k z0'=z:=by rw[Zv,h1];rfl
  rcases h2 with⟨rfl,rfl⟩ | ⟨rfl,rfl⟩
  ·refine⟨2*k,by lia,?_,?_⟩
   ·unfold gpt;rw[Yb (by lia),show 2*k / 2=k by lia,ez]
   ·unfold ghd;rw[Yb (by lia),show 2*k / 2=k by lia,ez]
  ·refine⟨2*k+1,by lia,?_,?_⟩
   ·unfold gpt;rw[Ya (by lia),show(2*k+1) / 2=k by lia,ez,YY]
   ·unfold ghd TU.bk;rw[Ya (by lia),show(2*k+1) / 2=k by lia,ez,YY]
 have inj:∀{e e'},e<2*ts.length->e' < 2*ts.length->gpt gl e 0=gpt gl e' 0->ghd gl e 0=ghd gl e' 0->e=e':=λ{e e'} he he' h1 h2=>by
  obtain⟨z,z1,z2⟩:=g.at_ he;obtain⟨z',z1',z2'⟩:=g.at_ he';have D:∀{e z},gl.getD (e / 2) z0'=z->Dt z (gpt gl e 0) (ghd gl e 0):=λ{e z} q=>by
   unfold Dt gpt ghd TU.bk;rw[q];by_cases c:e%2=0
   ·rw[Yb c,Yb c];exact .inl ⟨rfl,rfl⟩
   ·rw[Ya c,Ya c,YY,YY];exact .inr ⟨rfl,rfl⟩
  have d1:=D z2;have d2:=D z2';rw[<-h1,<-h2]at d2;have ek:=g.ap z1 z1' d1 d2;rw[<-ek,z1]at z1';have ezz:z=z':=Option.some.inj z1';subst ezz;have t:=g.tr z1;by_cases c:e%2=e' % 2
  ·lia
  ·exfalso;have self:=t.self s tw;unfold gpt at h1;unfold ghd at h2;rw[z2,z2']at h1 h2;by_cases c0:e%2=0
   ·rw[Yb c0,Ya (by lia),YY]at h1 h2;exact self ⟨h1.symm,h2.symm⟩
   ·rw[Ya c0,Yb (by lia),YY]at h1 h2;exact self ⟨h1,h2⟩
 have one:1<=ts.length:=by
  obtain⟨h,q,hw⟩:=pne pl[0] (Zp pl0);obtain⟨e,he,_⟩:=sur (Zp pl0) hw
  lia
 have get:∀{e},e<2*ts.length->∃z,gl[e / 2]?=some z/\gn gl e=z.1/\TU.Tr W pl (gn gl e) (gpt gl e) (ghd gl e):=λ{e} he=>by
  obtain⟨z,z1,z2⟩:=g.at_ he;have t:=g.tr z1;refine⟨z,z1,by unfold gn;rw[z2],?_⟩;by_cases c:e%2=0
  ·have e1:gpt gl e=z.2.1:=by funext i;unfold gpt;rw[Yb c,z2]
   have e2:ghd gl e=z.2.2:=by funext i;unfold ghd;rw[Yb c,z2]
   rw[e1,e2];unfold gn;rw[z2];exact t
  ·have e1:gpt gl e=λi=>z.2.1 (z.1-i):=by funext i;unfold gpt;rw[Ya c,z2]
   have e2:ghd gl e=λi=>(z.2.2 (z.1-1-i)+2)%4:=by funext i;unfold ghd;rw[Ya c,z2]
   rw[e1,e2];unfold gn;rw[z2];exact t.rev s
 have par:∀e,MM.oth e / 2=e / 2/\(MM.oth e%2=0↔¬e%2=0):=λe=>⟨MM.pR e,by rw[MM.tJ];lia⟩
 refine⟨one,λ{e} he=>?_,λ{e i} he hi=>?_,λ{e i} he h0 hi=>?_,λ{e i} he hi=>?_,λ{e} he=>?_,λ{e} he=>?_,λ{e i} he hi=>?_,λ{e i} he hi=>?_,inj,sur,ol,λ{x} hx=>?_,pnd,λ{p} hp=>pne p hp,tw⟩
 ·obtain⟨_,_,_,t⟩:=get he;exact t.n0
 ·obtain⟨_,_,_,t⟩:=get he;exact t.go hi
 ·obtain⟨_,_,_,t⟩:=get he;exact t.mid h0 hi
 ·obtain⟨_,_,_,t⟩:=get he;exact t.on hi
 ·obtain⟨z,z1,z2⟩:=g.at_ he;have t:=g.tr z1;have tt:=g.tie z1;have et:ts.getD (e / 2) (0,0)=(pl.idxOf (z.2.1 0),pl.idxOf (z.2.1 z.1)):=by rw[Zv,tt];rfl
  unfold MM.place gpt;rw[et,z2];by_cases c:e%2=0
  ·rw[Yb c,Yb c];exact l8 t.fst
  ·rw[Ya c,Ya c,YY];exact l8 t.lst
 ·unfold gn;rw[(par e).1]
 ·obtain⟨z,z1,z2⟩:=g.at_ he;unfold gn at hi;unfold gpt gn;rw[(par e).1,z2];rw[z2]at hi;by_cases c:e%2=0
  ·rw[Ya (λq=>(par e).2.mp q c),Yb c]
  ·rw[Yb ((par e).2.mpr c),Ya c,show z.1-(z.1-i)=i by omega]
 ·obtain⟨z,z1,z2⟩:=g.at_ he;have t:=g.tr z1;unfold gn at hi;unfold ghd gn;rw[(par e).1,z2];rw[z2]at hi;by_cases c:e%2=0
  ·rw[Ya (λq=>(par e).2.mp q c),Yb c]
  ·have h4:=s.h4 (t.go hi);rw[Yb ((par e).2.mpr c),Ya c,show z.1-1-(z.1-1-i)=i by omega];lia
 ·obtain⟨l,r,nd,so⟩:=rows x hx;have ml:∀e,e∈l↔e<2*ts.length/\MM.place ts e=x:=λe=>by rw[<-r.perm.mem_iff];exact mem x hx e
  refine⟨l,r,?_,ml⟩;refine List.Pairwise.imp_of_mem (λ{e e'} he he' q=>?_) (so.and nd);obtain⟨h1,p1⟩:=(ml e).mp he;obtain⟨h2,p2⟩:=(ml e').mp he';have q1:=q.1;rw[g.head h1,g.head h2]at q1;refine Nat.lt_of_le_of_ne (by lia) λz=>q.2 (inj h1 h2 ?_ z);have at_:∀{e},e<2*ts.length->pl[MM.place ts e]?=some (gpt gl e 0):=λ{e} he=>by
   obtain⟨z,z1,z2⟩:=g.at_ he;have t:=g.tr z1;have tt:=g.tie z1;have et:ts.getD (e / 2) (0,0)=(pl.idxOf (z.2.1 0),pl.idxOf (z.2.1 z.1)):=by rw[Zv,tt];rfl
   unfold MM.place gpt;rw[et,z2];by_cases c:e%2=0
   ·rw[Yb c,Yb c];exact l8 t.fst
   ·rw[Ya c,Ya c,YY];exact l8 t.lst
  have a1:=at_ h1;have a2:=at_ h2;rw[p1]at a1;rw[p2,a1]at a2;exact Option.some.inj a2
theorem Al.up{W:Nat->Nat->Option Nat}{pl:List Nat}{gs:List (List Key×V)}{i j:Nat}(h:Al W pl gs i j)(e:∀q,W (pl.getD i 0) j=some q->(bJ gs (kk (pl.getD i 0) j)).isSome=true):Al W pl gs i (j+1):=λk h' q hk hw z=>by
 by_cases c:k=i/\h'=j
 ·obtain⟨rfl,rfl⟩:=c;exact e q hw
 ·exact h k h' q hk hw (by lia)
theorem Al.more{W:Nat->Nat->Option Nat}{pl:List Nat}{gs gs':List (List Key×V)}{i j:Nat}(h:Al W pl gs i j)(m:∀x y:Nat,(bJ gs (kk x y)).isSome=true->(bJ gs' (kk x y)).isSome=true):Al W pl gs' i j:=λk h' q hk hw z=>m _ _ (h k h' q hk hw z)
theorem Al.on{a b:Nat}{W:Nat->Nat->Option Nat}{pl:List Nat}{gs:List (List Key×V)}{i:Nat}(s:TU.Stp a b W)(h:Al W pl gs i 4):Al W pl gs (i+1) 0:=λk h' q hk hw z=>h k h' q hk hw (by have:=s.h4 hw;lia)
def Hdg(ts:MM.aR)(os:MM.aT)(c l:Nat->Int):Prop:=∃h:Nat->Int,∀e,e<2*ts.length->(h (MM.oth e)-(h e+l e-l (MM.oth e))-2)%4=0/\(h (MM.behind ts os e)-h (MM.oth e)+c e)%4=0
theorem CN(f:Nat->Nat)(h4:∀j,f j<4\/True):∀{i},(∀j,j<=i->f j<4)->(∀j,j<i->f (j+1)≠(f j+2)%4)->((f i:Int)-(f 0:Int)-ts1 f i)%4=0
 |0,_,_=>by show((f 0:Int)-(f 0:Int)-0)%4=0;lia
 |i+1,b4,on=>by
  have ih:=CN f h4 (i:=i) (λj hj=>b4 j (by lia)) λj hj=>on j (by lia);have a1:=b4 i (by lia);have a2:=b4 (i+1) (by lia);show((f (i+1):Int)-(f 0:Int)-(ts1 f i+((((f (i+1)+6-f i)%4:Nat):Int)-2)))%4=0
  lia
theorem KI{a b:Nat}{W:Nat->Nat->Option Nat}{pl come:List Nat}{gl:List GZ}{ts:MM.aR}{os:MM.aT}{ll:List (List Pt)}{gs:List (List Key×V)}(g:Gln W pl gl ts ll gs)(nt:Net a b W)(ha:0<a)(cm:eJ W (a*b) come)(pc:Plc W come pl)(hall:TU.iY a (TU.eps a b) 0=true)(h10:a*b<=10)(al:Al W pl gs pl.length 0)(ol:os.length=pl.length)
  (mem:∀k,k<pl.length->∀e,e∈MM.row os k↔e<2*ts.length/\MM.place ts e=k) (rows:∀k,k<pl.length->∃l,MM.Rot (MM.row os k) l/\l.Nodup/\l.Pairwise λe e'=>at0 (lvs ll) e<=at0 (lvs ll) e') :
  MM.Good ts os/\MM.FC ts os/\(∃o,o<(MM.lls ts os).length/\MM.Shp ts os o (at0 (cns ts os (lvs ll))) (at0 (lfs ll)))/\Hdg ts os (at0 (cns ts os (lvs ll))) (at0 (lfs ll)):=by
 have s:=nt.stp ha;have tw:TU.Two W pl:=pc.two' s cm;have P:=g.pct s tw pc.nd (λp hp=>cm.out p (pc.sub p hp)) pc.ne al ol mem rows;have gd:=P.good s;have ll2:(lvs ll).length=2*ts.length:=by rw[jV,g.lln]
 have hc:∀e,e<2*ts.length->at0 (cns ts os (lvs ll)) e=TU.cor ts os (ghd gl) e:=λe he=>by
  have hb:=gd.maps.lt e he;unfold cns TU.cor;have:at0 ((ZR (lvs ll).length).map λe=>(at0 (lvs ll) (MM.oth e)-at0 (lvs ll) (MM.behind ts os e)-1)%4+1) e=(at0 (lvs ll) (MM.oth e)-at0 (lvs ll) (MM.behind ts os e)-1)%4+1:=by
   show((ZR (lvs ll).length).map λe=>(at0 (lvs ll) (MM.oth e)-at0 (lvs ll) (MM.behind ts os e)-1)%4+1).getD e 0=_;rw[Zv,Zk,Yv (by lia)];rfl
  rw[this,g.head (MM.bF he),g.head hb]
 have hl:=λe he=>g.turns s (e:=e) he;have cn:TU.Cnn W:=λS cl p h q p' h' q' hw hw' sp=>by
  obtain⟨r,hr,hS⟩:=cm.cn;refine ZS λno=>?_;have m1:=cm.cl p h q hw;have m2:=cm.cl p' h' q' hw';by_cases sr:S r
  ·exact no (hS S cl sr p' m2)
  ·exact hS (λx=>¬S x) (λx k y nx e sy=>nx (cl y _ x sy (nt.sym x k y e))) sr p m1 sp
 obtain⟨_,fc,sh⟩:=P.shape s hall h10 cn hc hl λe _=>HG ll e;refine⟨gd,fc,sh,λe=>(ghd gl e 0:Int),λe he=>⟨?_,?_⟩⟩
 ·have n0:=P.n0 he;have h0:ghd gl (MM.oth e) 0=(ghd gl e (gn gl e-1)+2)%4:=by rw[P.rh he n0,YY]
  have t1:=hl e he;rw[kZ (f:=ghd gl e) λ_ _=>rfl]at t1;have t2:=CN (ghd gl e) (λ_=>.inr trivial) (i:=gn gl e-1) (λj hj=>P.h4 s he (by lia)) λj hj=>P.on he (by lia);show((ghd gl (MM.oth e) 0:Int)-((ghd gl e 0:Int)+at0 (lfs ll) e-at0 (lfs ll) (MM.oth e))-2)%4=0;rw[h0]
  lia
 ·show((ghd gl (MM.behind ts os e) 0:Int)-(ghd gl (MM.oth e) 0:Int)+at0 (cns ts os (lvs ll)) e)%4=0;rw[hc e he];unfold TU.cor;lia
structure SHp(ts:MM.aR)(os:MM.aT)(o:Nat)(c l:Nat->Int)(k:Nat):Prop where
 s:MM.Shp ts os o c l
 h:Hdg ts os c l
 b:∀e,l e<=1000+(k:Int)
theorem SHp.up{ts:MM.aR}{os:MM.aT}{o k:Nat}{c l:Nat->Int}(s:SHp ts os o c l k):SHp ts os o c l (k+1):=⟨s.s,s.h,λe=>by have:=s.b e;lia⟩
theorem FK{ts:MM.aR}{os:MM.aT}{o k:Nat}{c l l':Nat->Int}{e:Nat}(g:MM.Good ts os)(s:SHp ts os o c l k)(h:∀z,l' z=l z+(if z=e then 1 else 0)+(if z=MM.oth e then 1 else 0)):SHp ts os o c l' (k+1):=by
 refine⟨MM.AN g s.s h,?_,λz=>?_⟩
 ·obtain⟨f,hf⟩:=s.h;refine⟨f,λz hz=>⟨?_,(hf z hz).2⟩⟩;have:=(hf z hz).1;have e1:l' z-l' (MM.oth z)=l z-l (MM.oth z):=by
   rw[h z,h (MM.oth z)];have:(MM.oth z=e)=(z=MM.oth e):=propext MM.qH;have:(MM.oth z=MM.oth e)=(z=e):=propext ⟨λq=>MM.iO q,λq=>by rw[q]⟩;simp only[*]
   lia
  lia
 ·have:=s.b z;have ne:=MM.mX e;rw[h z];by_cases c1:z=e
  ·rw[Yb c1,Ya (λq=>ne (by rw[<-q,c1]))];lia
  ·rw[Ya c1];split<;>lia
theorem wC{ts:MM.aR}{os:MM.aT}{o k:Nat}{c c' l l':Nat->Int}{e a:Nat}{b:Int}(g:MM.Good ts os)(s:SHp ts os o c l k)(he:e<2*ts.length)(ha:a<2*ts.length)(hb:MM.behind ts os a=e)(h1:1<c (MM.oth e))
  (hc:∀z,c' z=c z-(if z=MM.oth e then 1 else 0)+(if z=a then 1 else 0)) (hl:∀z,l' z=l z+(if z=e then 1-b else 0)+(if z=MM.oth e then -b else 0)) (hb0:b=if 0<l (MM.oth e) then 1 else 0):SHp ts os o c' l' (k+1):=by
 have ne:=MM.mX e;have b01:b=0\/b=1:=by rw[hb0];split<;>simp
 refine⟨MM.sU g s.s he ha hb h1 hc hl hb0,?_,λz=>?_⟩
 ·obtain⟨f,hf⟩:=s.h;refine⟨λz=>if z=e then f z-1 else f z,λz hz=>⟨?_,?_⟩⟩
  ·have q:=(hf z hz).1;have eo:(MM.oth z=MM.oth e)=(z=e):=propext ⟨λq=>MM.iO q,λq=>by rw[q]⟩;have eo':(MM.oth z=e)=(z=MM.oth e):=propext MM.qH;have nz:=MM.mX z;have h1:=hl z;have h2:=hl (MM.oth z);simp only[eo,eo']at h2 ⊢;by_cases c1:z=e
   ·have c2:¬z=MM.oth e:=λq=>ne (by rw[<-q,c1]);simp only[c1,if_true]at h1 h2 ⊢;rw[Ya (Yh ne)]at h1 h2 ⊢;rw[c1]at q
    lia
   ·by_cases c2:z=MM.oth e
    ·simp only[c1,c2,if_true,if_false]at h1 h2 ⊢;rw[Ya ne]at h1 h2 ⊢;rw[c2]at q
     lia
    ·simp only[c1,c2,if_false]at h1 h2 ⊢
     lia
  ·have q:=(hf z hz).2;have h3:=hc z;have eo':(MM.oth z=e)=(z=MM.oth e):=propext MM.qH;have eb:(MM.behind ts os z=e)=(z=a):=propext ⟨λq=>g.maps.inj _ _ hz ha (q.trans hb.symm),λq=>by rw[q];exact hb⟩;simp only[eo',eb]at h3 ⊢;by_cases c1:z=MM.oth e<;>by_cases c2:z=a
   ·rw[Yb c1,Yb c2]at h3 ⊢;lia
   ·rw[Yb c1,Ya c2]at h3 ⊢;lia
   ·rw[Ya c1,Yb c2]at h3 ⊢;lia
   ·rw[Ya c1,Ya c2]at h3 ⊢;lia
 ·have:=s.b z;rw[hl z];by_cases c1:z=e
  ·rw[Yb c1,Ya (λq=>ne (by rw[<-q,c1]))];rcases b01 with z | z<;>rw[z]<;>lia
  ·rw[Ya c1];split
   ·rcases b01 with z | z<;>rw[z]<;>lia
   ·lia
end L2
namespace K38
open PySem L2 PyProof.Rows
def CV:Sp:=λvs H Q _=>∃(wa sa c0 l0:Addr) (n o:Nat) (ts:MM.aR) (os:MM.aT) (cs ls:List Int) (c m:Int),vs=[.ref wa,.ref sa,.int c,.int m]/\eA H wa n ts os/\MM.Good ts os/\ts.length<=40/\H sa=some (.tup [.ref c0,.ref l0])/\H c0=some (.lst (cs.map V.int))/\H l0=some (.lst (ls.map V.int)) /\
 cs.length=2*ts.length/\ls.length=2*ts.length/\SHp ts os o (at0 cs) (at0 ls) 0/\0<=m/\m<=20 /\
 ∀(r cA lA:Addr) (cs ls:List Int) (H':Hp),aJ H H'->H' r=some (.tup [.ref cA,.ref lA])->H' cA=some (.lst (cs.map V.int))->H' lA=some (.lst (ls.map V.int))->H cA=none->H lA=none->cA≠lA->cs.length=2*ts.length->ls.length=2*ts.length->SHp ts os o (at0 cs) (at0 ls) m.toNat->Q (.ref r) H'
theorem xW(T:Txt K mg t):Ok P w base T 62 3 CV:=by
 left
 obtain⟨wa,sa,c0,l0,n,o,ts,os,cs0,ls0,c,m,rfl,hWeb,g,h40,hsa,hc0,hl0,lc0,ll0,shp,hm0,hm1,q⟩:=h;refine⟨_,(by exists xI (i:=4) (j:=5) rfl nd rfl rfl (by decide) rfl rfl ?_ rfl,a9 bO rfl (T.z 5) boot_list ?_,aL,1,a9 bO rfl (T.z 5) boot_list ?_,aL,1,3,6,7,dI,2,aU,6,8,7,4,9,fU,8,10,aG,(eK ["_law_one","_law_end","_law_web"] [none,some 8,some 0]),4,0,pQ ?_,cI,iP,aL,2,aL,2,0,1,0,cI,bM,7,cH ?_ ?_,aU,aG,5,8,dB ?_ ?_ set_list,5,8,cH ?_ ?_,aU,aG,5,9,dB ?_ ?_ set_list,5,9,aG,4,9,cH ?_ ?_,aG,4,9,dB ?_ ?_ set_list,4,9,cH ?_ ?_,aU,aG,4,10,dB ?_ ?_ set_list,4,10,11,a9 fW rfl (T.z 2) boot_int ?_,IU,aG,5,9,cH ?_ ?_,aG,5,9,11,dB ?_ ?_ set_list,5,9,cH ?_ ?_,aU,aG,5,8,11,dB ?_ ?_ set_list,5,8,4,5),?_⟩;obtain⟨tA,oA,hw,hts,hos⟩:=id hWeb;refine(bU _ _ (aH hsa) rfl c0 _ rfl (.inl (aB hc0)) (λcA hcA=>?_));have g1:=aC hcA (.lst (cs0.map V.int));refine(bU _ _ (aH (g1 _ _ hsa)) rfl l0 _ rfl (.inl (aB (g1 _ _ hl0))) (λlA hlA=>?_));have g2:=aC hlA (.lst (ls0.map V.int));have ncl:cA≠lA:=aI aA hlA;have hlA0:H lA=none:=g1.free hlA;have eC:=g2 _ _ (aA (H:=H) (a:=cA) (o:=.lst (cs0.map V.int)));have eL:(upd (upd H cA (.lst (cs0.map V.int))) lA (.lst (ls0.map V.int))) lA=some (.lst (ls0.map V.int)):=aA;have g03:=g1.trans g2;generalize upd (upd H cA (.lst (cs0.map V.int))) lA (.lst (ls0.map V.int))=H3 at eC eL g03;clear g1 g2;refine(cR m rfl (by lia) (by lia) (bV (lo:=0) (n:=m.toNat)
  (λi σ H'=>aJ H H'/\(∃cs ls:List Int,H' cA=some (.lst (cs.map V.int))/\H' lA=some (.lst (ls.map V.int))/\cs.length=2*ts.length/\ls.length=2*ts.length/\SHp ts os o (at0 cs) (at0 ls) i) /\
   ∃o6 o7 o8 o9 o10 o11:Option V,σ=[some (.ref wa),some (.ref sa),some (.int c),some (.int m),some (.ref cA),some (.ref lA),o6,o7,o8,o9,o10,o11])
  ⟨g03,(bP _ _ eC eL lc0 ll0 shp),(oE _ _ _ _ _ _ rfl)⟩ ?_ ?_))
 ·rintro i σ H4 hi ⟨g4,⟨cs,ls,e1,e2,lc,ll,sh⟩,o6,o7,o8,o9,o10,o11,rfl⟩;show cJ 6 (V.int (0+(i:Int))) _ _ _;rw[Int.zero_add];refine(bS _ _ rfl (by lia) (by lia) (λp hp0 hp1=>?_));have hl1:=g.one;have lcm:(cs.map V.int).length=2*ts.length:=by rw[Zq];exact lc
  refine(bS cA _ rfl (.inl (aB e1)) (by show(0:Int)<(((cs.map V.int).length:Nat):Int);lia) ?_);obtain⟨e,he,ee⟩:=MM.LJ p (n:=(cs.map V.int).length) (by lia);show cJ 8 (V.int (p%(((cs.map V.int).length:Nat):Int))) _ _ _;rw[ee];rw[lcm]at he;have heo:=MM.bF he;refine⟨e,rfl,?_⟩;refine(dJ cA _ rfl (.inl (aB e1)) _ rfl (by lia) (by lia) (λD hD=>?_));refine oP ((((cs.map V.int).length:Nat):Int)).toNat (λj ys H'=>ys=vns ((ZR j).filter λx=>decide (MM.behind ts os x=e))/\H'=upd H4 D (.lst ys)) ⟨rfl,rfl⟩ ?_ ?_
  ·rintro j ys H' hj ⟨rfl,rfl⟩;have hj':j<2*ts.length:=by lia
   refine⟨hj,?_⟩;rintro x H'' ⟨rfl,rfl⟩;have gD:=aC hD (.lst (vns ((ZR j).filter λx=>decide (MM.behind ts os x=e))));have gg:=g4.trans gD;have ej:(0:Int)+(j:Int)=(j:Int):=Int.zero_add _;rw[ej];refine(kD ((Fills.refl _).set _ rfl) _ _ (aH (gg _ _ hw)) rfl _ _ (aH (gg _ _ hw)) rfl (cN tA oA ts os j rfl (gg.ts hts) (gg.os hos) g ⟨ hj',?_⟩));have hlen:(vns ((ZR j).filter λx=>decide (MM.behind ts os x=e))).length<=80:=by
    rw[Zq];have:=List.length_filter_le (λx=>decide (MM.behind ts os x=e)) (ZR j);rw[Yj]at this
    lia
   have rs:(ZR (j+1)).filter (λx=>decide (MM.behind ts os x=e))=(ZR j).filter (λx=>decide (MM.behind ts os x=e))++(if MM.behind ts os j=e then [j] else []):=by
    rw[ZH,List.filter_append,List.filter_cons,List.filter_nil];by_cases z:MM.behind ts os j=e<;>simp[z]
   by_cases z:MM.behind ts os j=e
   ·refine iTb (by rw[z];simp) ?_;refine⟨aA,Xj hlen (by decide),?_,by rw[eZ]⟩;rw[rs,Yb z,oG];rfl
   ·refine iFb (Yc (λh=>z (by have:=V.int.inj h;lia))) ?_;rw[rs,Ya z,List.append_nil];exact⟨rfl,rfl⟩
  rintro ys H5 ⟨rfl,rfl⟩;refine⟨ZA _,?_⟩;have eN:((((cs.map V.int).length:Nat):Int)).toNat=2*ts.length:=by lia
  rw[eN];have gD:=aC hD (.lst (vns ((ZR (2*ts.length)).filter λx=>decide (MM.behind ts os x=e))));obtain⟨a0,ha0,hb0⟩:=MM.OR g.maps he;have hmem:a0∈(ZR (2*ts.length)).filter λx=>decide (MM.behind ts os x=e):=Yz.mpr ⟨Zs.mpr ha0,by simp[hb0]⟩;have hpos:=List.length_pos_of_mem hmem;have hA:=Yz.mp (getD_mem hpos);have ha:=Zs.mp hA.1;have hb:MM.behind ts os (((ZR (2*ts.length)).filter λx=>decide (MM.behind ts os x=e)).getD 0 0)=e:=Yf hA.2;refine(aN _ _ (aB aA) (jI (j:=0) hpos rfl) ?_);generalize ((ZR (2*ts.length)).filter λx=>decide (MM.behind ts os x=e)).getD 0 0=a at ha hb;have g5:=g4.trans gD;have f1:=gD _ _ e1;have f2:=gD _ _ e2;generalize upd H4 D (.lst (vns ((ZR (2*ts.length)).filter λx=>decide (MM.behind ts os x=e))))=H5 at g5 f1 f2;have hoe:=MM.mX e;have keepL:∀{H':Hp}{u:HO},aJ H H'->aJ H (upd H' lA u):=λgg b v h=>by rw[aF (aI h hlA0)];exact gg _ _ h
  have keepC:∀{H':Hp}{u:HO},aJ H H'->aJ H (upd H' cA u):=λgg b v h=>by rw[aF (aI h hcA)];exact gg _ _ h
  refine⟨⟨by decide,by decide⟩,(by show(0:Int)<4;decide),i2 (λ_=>?_) (λ_=>?_)⟩
  ·refine(aN _ _ (aB f2) (aS (j:=e) (by lia) rfl) (aN _ e f2 (dC (by rw[Zq];lia) rfl) ?_));rw[<-ZG];have f3:(upd H5 lA (.lst ((ls.set e (at0 ls e+1)).map V.int))) lA=some (.lst ((ls.set e (at0 ls e+1)).map V.int)):=aA;refine(aN _ _ (aB f3) (aS (j:=MM.oth e) (by rw[ZP];lia) rfl) (aN _ (MM.oth e) f3 (dC (by rw[Zq,ZP];lia) rfl) ?_));rw[<-ZG,eZ];refine⟨keepL g5,(bP cs _ (by rw[aF ncl];exact f1) aA lc (by rw[ZP,ZP];exact ll) (FK (e:=e) g sh λz=>?_)),(oE _ _ _ _ _ _ rfl)⟩;rw[fF (by rw[ZP];lia),fF (by lia),fF (by lia)];by_cases z1:z=MM.oth e
   ·have z2:¬z=e:=λh=>hoe (by rw[<-z1,h]);rw[Yb z1,Ya hoe,Ya z2,Yb z1,z1];lia
   ·rw[Ya z1,Ya z1];by_cases z2:z=e
    ·rw[Yb z2,Yb z2,z2];lia
    ·rw[Ya z2,Ya z2];lia
  ·refine(aN _ _ (aB f1) (aS (j:=MM.oth e) (by lia) rfl) (i2 (λhc=>?_) (λ_=>?_)))
   ·have h1:1<at0 cs (MM.oth e):=Yf hc;refine(aN _ _ (aB f1) (aS (j:=MM.oth e) (by lia) rfl) (aN _ (MM.oth e) f1 (dC (by rw[Zq];lia) rfl) ?_));rw[<-ZG];generalize hcs1:cs.set (MM.oth e) (at0 cs (MM.oth e)-1)=cs1;have l1:cs1.length=2*ts.length:=by rw[<-hcs1,ZP];exact lc
    have f3:(upd H5 cA (.lst (cs1.map V.int))) cA=some (.lst (cs1.map V.int)):=aA;refine(aN _ _ (aB f3) (aS (j:=a) (by lia) rfl) (aN _ a f3 (dC (by rw[Zq];lia) rfl) ?_));rw[<-ZG,eZ];generalize hcs2:cs1.set a (at0 cs1 a+1)=cs2;have l2:cs2.length=2*ts.length:=by rw[<-hcs2,ZP];exact l1
    have f4:(upd H5 cA (.lst (cs2.map V.int))) lA=some (.lst (ls.map V.int)):=by rw[aF (Yh ncl)];exact f2
    have f4c:(upd H5 cA (.lst (cs2.map V.int))) cA=some (.lst (cs2.map V.int)):=aA;have g6:aJ H (upd H5 cA (.lst (cs2.map V.int))):=keepC g5;generalize upd H5 cA (.lst (cs2.map V.int))=H6 at f4 f4c g6;refine(aN _ _ (aB f4) (aS (j:=MM.oth e) (by lia) rfl) (.inr ⟨_,rfl,?_⟩));generalize hbk:(if decide (0<at0 ls (MM.oth e))=true then (1:Int) else 0)=bk;have hbk':bk=if 0<at0 ls (MM.oth e) then 1 else 0:=by rw[<-hbk];simp only[decide_eq_true_eq]
    refine(aN _ _ (aB f4) (aS (j:=MM.oth e) (by lia) rfl) (aN _ (MM.oth e) f4 (dC (by rw[Zq];lia) rfl) ?_));rw[<-ZG];generalize hls1:ls.set (MM.oth e) (at0 ls (MM.oth e)-bk)=ls1;have l3:ls1.length=2*ts.length:=by rw[<-hls1,ZP];exact ll
    have f5:(upd H6 lA (.lst (ls1.map V.int))) lA=some (.lst (ls1.map V.int)):=aA;refine(aN _ _ (aB f5) (aS (j:=e) (by lia) rfl) (aN _ e f5 (dC (by rw[Zq];lia) rfl) ?_));rw[<-ZG,eZ];refine⟨keepL g6,(bP cs2 _ (by rw[aF ncl];exact f4c) aA l2 (by rw[ZP];exact l3) (wC (e:=e) (a:=a) (b:=bk) g sh he ha hb h1 (λz=>?_) (λz=>?_) hbk')),(oE _ _ _ _ _ _ rfl)⟩
    ·rw[<-hcs2,fF (by lia),<-hcs1,fF (by lia),fF (by lia)];by_cases z1:z=a
     ·rw[Yb z1,Yb z1,z1];by_cases z3:a=MM.oth e
      ·rw[Yb z3,Yb z3,z3]
      ·rw[Ya z3,Ya z3];lia
     ·rw[Ya z1,Ya z1];by_cases z2:z=MM.oth e
      ·rw[Yb z2,Yb z2,z2];lia
      ·rw[Ya z2,Ya z2];lia
    ·rw[fF (by lia),<-hls1,fF (by lia),fF (by lia)];by_cases z1:z=e
     ·have z2:¬z=MM.oth e:=λh=>hoe (by rw[<-h,z1]);rw[Yb z1,Ya (Yh hoe),Yb z1,Ya z2,z1];lia
     ·rw[Ya z1,Ya z1];by_cases z2:z=MM.oth e
      ·rw[Yb z2,Yb z2,z2];lia
      ·rw[Ya z2,Ya z2];lia
   ·exact⟨g5,(bP cs ls f1 f2 lc ll sh.up),(oE _ _ _ _ _ _ rfl)⟩
 rintro σ H4 ⟨g4,⟨cs,ls,e1,e2,lc,ll,sh⟩,o6,o7,o8,o9,o10,o11,rfl⟩;refine⟨(by show 2<=ZW;decide),λr hr'=>?_⟩;have gr:=aC hr' (.tup [.ref cA,.ref lA]);exact q r cA lA cs ls _ (g4.trans gr) aA (gr _ _ e1) (gr _ _ e2) hcA hlA0 ncl lc ll sh
end K38
namespace L2
open PySem PySem.Spec PyProof.Rows
theorem Lst.f3{x y z:Addr}{H H':Hp}{gs:List (List Key×V)}{us ws:List V}{l:Addr}{ps:List Pt}(h:kQ H l ps)(f:F3 x y z H H')(k1:H x=some (.dT gs))(k2:H y=some (.lst us))(k3:H z=some (.lst ws))(h1:l≠y)(h2:l≠z):kQ H' l ps:=by
 obtain⟨vs,v1,v2,v3⟩:=h;refine⟨vs,f l _ (pW v1 k1 (λe=>by cases e)) h1 h2 v1,v2,λj v p h1 h2=>?_⟩;obtain⟨a,ea,ha⟩:=v3 j v p h1 h2;exact⟨a,ea,f.tup k1 k2 k3 ha⟩
theorem Lp.step{pl:List Nat}{ga ta na:Addr}{H5 H6 HE:Hp}{tr lr:List Addr}{ts:MM.aR}{ll:List (List Pt)}{gs gs':List (List Key×V)}(p:Lp pl ga ta na H5 H6 tr lr ts ll gs)(f:F3 ga ta na H6 HE){T3 r2:Addr}{x y:Nat}{kp:List Pt}
  (e1:HE ta=some (.lst (tr.map V.ref++[.ref T3]))) (e2:HE T3=some (.tup [vn x,vn y])) (e3:HE na=some (.lst (lr.map V.ref++[.ref r2]))) (n1:r2≠ta) (n2:r2≠na) (e4:kQ HE r2 kp) (e5:HE ga=some (.dT gs')) (hl:gs'.length<=gs.length+80)
  (hx:x<pl.length) (hy:y<pl.length) (hk:IB kp/\Bdd kp) (gi:∀u v:Nat,(bJ gs' (kk u v)).isSome=true->(bJ gs (kk u v)).isSome=true\/u∉pl\/pl.idxOf u=x\/pl.idxOf u=y) :
  Lp pl ga ta na H5 HE (tr++[T3]) (lr++[r2]) (ts++[(x,y)]) (ll++[kp]) gs' where
 f:=p.f.trans f
 tA:=by rw[e1,Zt];rfl
 tI:=(p.tI.f3 f p.gA p.tA p.lA).app e2
 lA:=by rw[e3,Zt];rfl
 lI:=(p.lI.f3 f p.gA p.tA p.lA).app n1 n2 e4
 gA:=e5
 gl:=by have:=p.gl;simp;lia
 ln:=by have:=p.ln;simp;lia
 pt:=λt ht=>by
  rcases Zf.mp ht with z | z
  ·exact p.pt t z
  ·rw[Zb.mp z];exact⟨hx,hy⟩
 li:=λps hps=>by
  rcases Zf.mp hps with z | z
  ·exact p.li ps z
  ·rw[Zb.mp z];exact hk
 gi:=λu v e hu=>by
  rcases gi u v e with z | z | z | z
  ·obtain⟨i,h1,h2⟩:=p.gi u v z hu;exact⟨i,by simp only[Zm,ZQ];lia,by rw[rX h1];exact h2⟩
  ·exact Yg hu z
  ·exact⟨2*ts.length,by simp only[Zm,ZQ];lia,by rw[y8];exact z.symm⟩
  ·exact⟨2*ts.length+1,by simp only[Zm,ZQ];lia,by rw[y6];exact z.symm⟩
def dec(H:Hp)(q:Addr):List Int:=match H q with
 |some (.tup [.int x,.int y])=>[x,y]
 |_=>[]
theorem dec_is{H:Hp}{q:Addr}{x y:Int}(h:H q=some (.tup [.int x,.int y])):dec H q=[x,y]:=by unfold dec;rw[h]
theorem Lst.refs{H:Hp}{l:Addr}{ps:List Pt}(h:kQ H l ps):∃as:List Addr,H l=some (.lst (as.map V.ref))/\as.length=ps.length/\∀(i:Nat) a,as[i]?=some a->H a=some (.tup [.int (L2.pt ps i).1,.int (L2.pt ps i).2]):=by
 obtain⟨vs,v1,v2,v3⟩:=h;have al:∀(us:List V) (k:Nat),(∀(i:Nat) v,us[i]?=some v->∃a,v=.ref a/\H a=some (.tup [.int (L2.pt ps (k+i)).1,.int (L2.pt ps (k+i)).2]))->∃as:List Addr,us=as.map V.ref/\∀(i:Nat) a,as[i]?=some a->H a=some (.tup [.int (L2.pt ps (k+i)).1,.int (L2.pt ps (k+i)).2]):=by
  intro us;induction us with
  |nil=>intro k _;exact⟨[],rfl,λi a h=>by simp at h⟩
  |cons u us ih =>
   intro k hh;obtain⟨a,rfl,ha⟩:=hh 0 u rfl;obtain⟨as,e1,e2⟩:=ih (k+1) λi v hv=>by
    have:=hh (i+1) v (by simpa using hv);rw[show k+(i+1)=k+1+i by lia]at this;exact this
   refine⟨a::as,by rw[e1];rfl,λi b hb=>?_⟩;cases i with
   |zero=>simp at hb;subst hb;exact ha
   |succ i =>
    have:=e2 i b (by simpa using hb);rw[show k+1+i=k+(i+1) by lia]at this;exact this
 obtain⟨as,e1,e2⟩:=al vs 0 λi v hv=>by
  have hi:i<ps.length:=by rw[<-v2];exact(Zj.mp hv).1
  obtain⟨a,ea,h⟩:=v3 i v _ hv (pJ hi);exact⟨a,ea,by rw[Nat.zero_add];exact h⟩
 refine⟨as,by rw[v1,e1],by rw[<-v2,e1,Zq],λi a h=>?_⟩;have:=e2 i a h;rw[Nat.zero_add]at this;exact this
theorem jB{Hx:Hp}{as rs:List Addr}{ow:List Nat}{f:Nat->Int}(p:rs.Perm as)(hl:as.length=ow.length)(ha:∀(i:Nat) a,as[i]?=some a->Hx a=some (.tup [.int (f (ow.getD i 0)),vn (ow.getD i 0)])) :
  (∀q∈rs,∃e,e∈ow/\Hx q=some (.tup [.int (f e),vn e]))/\∀e,e∈rs.map (λq=>((dec Hx q).getD 1 0).toNat)↔e∈ow:=by
 have h1:∀q∈rs,∃e,e∈ow/\Hx q=some (.tup [.int (f e),vn e]):=λq hq=>by
  obtain⟨i,hi⟩:=List.mem_iff_getElem?.mp (p.mem_iff.mp hq);have hlt:i<as.length:=(Zj.mp hi).1;exact⟨_,getD_mem (by lia),ha i q hi⟩
 refine⟨h1,λe=>⟨λh=>?_,λh=>?_⟩⟩
 ·obtain⟨q,hq,rfl⟩:=Zh.mp h;obtain⟨e,he,hx⟩:=h1 q hq;rw[dec_is hx];simpa using he
 ·obtain⟨i,hi,rfl⟩:=mem_getD h;have hlt:i<as.length:=by lia
  refine Zh.mpr ⟨as[i],p.mem_iff.mpr (Zp hlt),?_⟩;rw[dec_is (ha i as[i] (Zz hlt))];simp
theorem N7(vs:List V){n:Nat}{k:Int}(hk:k=(n:Int))(h:n<=vs.length):gM vs (some k) none=vs.drop n:=by
 subst hk;unfold gM HT.sIx;simp only[show ¬((n:Int)<0) by lia,if_false];rw[show min (Int.toNat (n:Int)) vs.length=n by simp;lia];exact List.take_of_length_le (by rw[Yr];lia)
theorem N6(vs:List V){n:Nat}{k:Int}(hk:k=(n:Int))(h:n<=vs.length):gM vs none (some k)=vs.take n:=by
 subst hk;unfold gM HT.sIx;simp only[show ¬((n:Int)<0) by lia,if_false,List.drop_zero,YY];rw[show min (Int.toNat (n:Int)) vs.length=n by simp;lia]
theorem yX{os:MM.aT}{l:List Nat}{k:Nat}(h:k<os.length):MM.row (os++[l]) k=MM.row os k:=by
 unfold MM.row;simp only[List.getD,Zx h]
theorem yW{os:MM.aT}{l:List Nat}:MM.row (os++[l]) os.length=l:=by unfold MM.row;simp[List.getD]
def gpc(a b c:Nat):Bool:=(c%4==0&&decide (c / 4%a+1<a))||(c%4==1&&decide (c / 4 / a+1<b))||(c%4==2&&decide (0<c / 4%a))||(c%4==3&&decide (0<c / 4 / a))
theorem LX{a b h p q:Nat}(ha:0<a)(g:Go a b h p q):gpc a b (4*p+h)=true:=by
 unfold gpc;rcases g with⟨rfl,h1,rfl⟩ | ⟨rfl,h1,rfl⟩ | ⟨rfl,h1,rfl⟩ | ⟨rfl,h1,rfl⟩
 ·rw[show(4*p+0)%4=0 by lia,show(4*p+0) / 4=p by lia,Ye h1];rfl
 ·rw[show(4*p+1)%4=1 by lia,show(4*p+1) / 4=p by lia,Ye h1];simp
 ·rw[show(4*(q+1)+2)%4=2 by lia,show(4*(q+1)+2) / 4=q+1 by lia,(LK ha h1).1,Ye (show 0<q%a+1 by lia)];simp
 ·rw[show(4*(q+a)+3)%4=3 by lia,show(4*(q+a)+3) / 4=q+a by lia,Nat.add_div_right _ ha,Ye (Nat.succ_pos (q / a))];simp
theorem eT:∀(l m:List Nat),l.Nodup->(∀x∈l,x∈m)->l.length<=m.length
 |[],_,_,_=>YX _
 |x::l,m,nd,h=>by
  have h1:=List.nodup_cons.mp nd;have ih:=eT l (m.erase x) h1.2 λy hy=>by
   have ne:y≠x:=λz=>h1.1 (by rw[<-z];exact hy);exact(List.mem_erase_of_ne ne).mpr (h y (Zw _ hy))
  have hx:=List.length_erase_of_mem (h x Zd);have:0<m.length:=List.length_pos_of_mem (h x Zd);simp only[Yq]
  lia
structure Dsx(a b:Nat)(pl:List Nat)(i j:Nat)(ds:List Nat):Prop where
 nd:ds.Nodup
 gp:∀c∈ds,c<4*(a*b)/\gpc a b c=true
 pr:∀c∈ds,(∃k,k<i/\c / 4=pl.getD k 0)\/(c / 4=pl.getD i 0/\c%4<j)
theorem Dsx.nil{a b:Nat}{pl:List Nat}:Dsx a b pl 0 0 []:=⟨List.nodup_nil,λc h=>(by cases h),λc h=>(by cases h)⟩
theorem Dsx.up{a b:Nat}{pl ds:List Nat}{i j:Nat}(d:Dsx a b pl i j ds):Dsx a b pl i (j+1) ds:=⟨d.nd,d.gp,λc h=>(d.pr c h).imp id λz=>⟨z.1,by lia⟩⟩
theorem Dsx.on{a b:Nat}{pl ds:List Nat}{i j:Nat}(d:Dsx a b pl i j ds):Dsx a b pl (i+1) 0 ds:=⟨d.nd,d.gp,λc h=>.inl (by
 rcases d.pr c h with⟨k,h1,h2⟩ | ⟨h1,_⟩
 ·exact⟨k,by lia,h2⟩
 ·exact⟨i,by lia,h1⟩)⟩
theorem Dsx.add{a b:Nat}{pl ds:List Nat}{i j:Nat}(d:Dsx a b pl i j ds)(np:pl.Nodup)(hi:i<pl.length)(hj:j<4)(hp:pl.getD i 0<a*b)(hg:gpc a b (4*pl.getD i 0+j)=true):Dsx a b pl i (j+1) (ds++[4*pl.getD i 0+j]):=by
 have nw:4*pl.getD i 0+j∉ds:=λz=>by
  rcases d.pr _ z with⟨k,h1,h2⟩ | ⟨_,h2⟩
  ·have e1:=yH np (i:=k) (by lia);have e2:=yH np hi;rw[show(4*pl.getD i 0+j) / 4=pl.getD i 0 by lia]at h2;rw[h2]at e2
   lia
  ·lia
 refine⟨?_,λc h=>?_,λc h=>?_⟩
 ·rw[List.nodup_append];exact⟨d.nd,by simp,λx hx y hy z=>by rw[Zb.mp hy]at z;subst z;exact nw hx⟩
 ·rcases Zf.mp h with z | z
  ·exact d.gp c z
  ·rw[Zb.mp z];exact⟨by lia,hg⟩
 ·rcases Zf.mp h with z | z
  ·exact d.up.pr c z
  ·rw[Zb.mp z];exact .inr ⟨by lia,by lia⟩
theorem Dsx.few{a b:Nat}{pl ds:List Nat}{i j:Nat}(d:Dsx a b pl i j ds)(h:((ZR (4*(a*b))).filter (gpc a b)).length<=26):ds.length<=26 :=
 Xz (eT ds _ d.nd λc hc=>Yz.mpr ⟨Zs.mpr (d.gp c hc).1,(d.gp c hc).2⟩) h
theorem O9{X:Cx}{es rest:List Expr}{k}{pos:Pos}{te:TE}{t:TA}(ha:PE X (.Tuple es k pos) te)(hr:PA X rest t):PA X (.Tuple es k pos::rest) (oZ te t):=aE ha hr rfl
theorem GQ{X:Cx}{i j:Int}{k}{p q pos:Pos}{a b}:PE X (.Tuple [.Constant (.int i) a p,.Constant (.int j) b q] k pos) (JP (oZ (tC (.int i)) (oZ (tC (.int j)) F0))):=dH (aE aQ (aE aQ aK rfl) rfl)
inductive Prs:List Expr->List (Int×Int)->Prop
 |nil:Prs [] []
 |cons {i j:Int}{k} {p q pos:Pos}{a b} {es:List Expr}{ps:List (Int×Int)}:Prs es ps->Prs (.Tuple [.Constant (.int i) a p,.Constant (.int j) b q] k pos::es) ((i,j)::ps)
def JR:List (Int×Int)->TA
 |[]=>F0
 |p::ps=>oZ (JP (oZ (tC (.int p.1)) (oZ (tC (.int p.2)) F0))) (JR ps)
theorem DU{X:Cx}:∀{es:List Expr}{ps:List (Int×Int)},Prs es ps->PA X es (JR ps)
 |_,_,.nil=>aK
 |_,_,.cons h=>O9 GQ (DU h)
theorem KN{X:Cx}{es:List Expr}{ps:List (Int×Int)}{pos:Pos}(h:Prs es ps):PE X (.List es pos) (MT (JR ps)):=fO (DU h)
theorem DY{x:Int}{j:Nat}(hj:j<0+1)(h1 : -2<=x)(h2:x<=2) : -2<=at0 [x] j/\at0 [x] j<=2+3*(j:Int):=by
 have:j=0:=by lia
 subst this;show -2<=x/\x<=_
 lia
theorem FH{l:List Int}{n:Nat}{x:Int}(hl:l.length=n+1)(h:∀j,j<n+1->-2<=at0 l j/\at0 l j<=2+3*(j:Int))(h1 : -2<=x)(h2:x<=2+3*((n+1:Nat):Int)):∀j,j<n+1+1->-2<=at0 (l++[x]) j/\at0 (l++[x]) j<=2+3*(j:Int):=by
 intro j hj;have e1:∀{i},i<l.length->at0 (l++[x]) i=at0 l i:=λ{i} hi=>by unfold at0;simp only[List.getD,Zx hi]
 have e2:at0 (l++[x]) l.length=x:=by unfold at0;simp[List.getD]
 rcases Xw j (n+1) with z | z
 ·rw[e1 (by lia)];exact h j z
 ·rw[show j=l.length by lia,e2,hl];exact⟨h1,h2⟩
theorem uR{l:List Int}{n:Nat}{x:Int}(hl:l.length=n+1)(h:∀j,j+1<n+1->at0 l j<at0 l (j+1))(hx:at0 l n<x):∀j,j+1<n+1+1->at0 (l++[x]) j<at0 (l++[x]) (j+1):=by
 intro j hj;have e1:∀{i},i<l.length->at0 (l++[x]) i=at0 l i:=λ{i} hi=>by unfold at0;simp only[List.getD,Zx hi]
 have e2:at0 (l++[x]) l.length=x:=by unfold at0;simp[List.getD]
 rcases Xw (j+1) (n+1) with z | z
 ·rw[e1 (by lia),e1 (by lia)];exact h j z
 ·rw[e1 (by lia),show j+1=l.length by lia,e2,show j=n by lia];exact hx
theorem lx2{a b c d:Int}(h:SO.lx [a,b] [c,d]=false):c<=a:=by
 unfold SO.lx at h;by_cases z:a=c
 ·lia
 ·rw[Ya z]at h;have:=of_decide_eq_false h
  lia
theorem xE{Hx:Hp}{as rs:List Addr}{ow:List Nat}{f:Nat->Int}(p:rs.Perm as)(hl:as.length=ow.length)(ha:∀(i:Nat) a,as[i]?=some a->Hx a=some (.tup [.int (f (ow.getD i 0)),vn (ow.getD i 0)]))(nd:ow.Nodup)(so:rs.Pairwise λa b=>SO.lx (dec Hx b) (dec Hx a)=false) :
  (rs.map λq=>((dec Hx q).getD 1 0).toNat).Nodup/\(rs.map λq=>((dec Hx q).getD 1 0).toNat).Pairwise λe e'=>f e<=f e':=by
 have te:=jB p hl ha;constructor
 ·have e:as.map (λq=>((dec Hx q).getD 1 0).toNat)=ow:=by
   refine YQ λi=>?_;rw[Zk];by_cases hi:i<as.length
   ·rw[Zz hi,Zz (by lia)];have:=ha i as[i] (Zz hi);show some ((dec Hx as[i]).getD 1 0).toNat=some _;rw[dec_is this];simp[List.getD,show i<ow.length by lia]
   ·rw[Zr (by lia),Zr (by lia)];rfl
  have:=(p.map λq=>((dec Hx q).getD 1 0).toNat)
  rw[e]at this;exact this.nodup_iff.mpr nd
 ·rw[List.pairwise_map];refine List.Pairwise.imp_of_mem (λ{x y} hx hy h=>?_) so;obtain⟨e,_,h1⟩:=te.1 x hx;obtain⟨e',_,h2⟩:=te.1 y hy;rw[dec_is h1,dec_is h2]at h;rw[dec_is h1,dec_is h2];have:=lx2 h;simpa using this
end L2
namespace K38
open PySem L2 PyProof.Rows
def AY:Sp:=λvs H Q _=>∃(sa:Addr) (ns:List Int),vs=[.ref sa]/\SqL H sa (ns.map V.int) /\
 ∀r wa da pa la ts os sp ll H',aJ H H'->H' r=some (.tup [.ref wa,.ref da])->eA H' wa os.length ts os->(MM.Good ts os/\MM.FC ts os/\(∃o,o<(MM.lls ts os).length/\MM.Shp ts os o (at0 (cns ts os (lvs ll))) (at0 (lfs ll)))/\Hdg ts os (at0 (cns ts os (lvs ll))) (at0 (lfs ll)))->H' da=some (.tup [.ref pa,.ref la])->kQ H' pa sp->sp.length<=10->Bdd sp->B2 H' la ll->ll.length=ts.length->ts.length<=40->os.length<=10->(∀ps∈ll,IB ps/\Bdd ps)->Q (.ref r) H'
theorem xV(T:Txt K mg t):Ok P w base T 59 3 (AY):=by
 left
 obtain⟨sa,ns,rfl,hS,q⟩:=h;have hu:=sH hr;have h2s:2<=ZW:=by decide
 have nd_l_head_l_end:(["_law_head","_law_end"]:List Str).Nodup:=by decide
 have nd_l_end_l_heads_here:(["_law_end","_law_heads_here"]:List Str).Nodup:=by decide
 have nd_l_end_l_place_here_l_ties:(["_law_end","_law_place_here","_law_ties"]:List Str).Nodup:=by decide
 have nd_l_point_l_xs_l_ys_l_size:(["_law_point","_law_xs","_law_ys","_law_size"]:List Str).Nodup:=by decide
 have nd_l_one_l_xs_l_ys_l_size:(["_law_one","_law_xs","_law_ys","_law_size"]:List Str).Nodup:=by decide
 refine' ⟨_,?hp,?hq⟩
 case hp =>
  refine' aM ?a ?b
  case a =>
   refine' xG (i:=1) ?n1 ?n2 ?n3 ?n4
   case n1=>exact nd
   case n2=>exact rfl
   case n3=>exact Or.inl rfl
   case n4 =>
    refine' KN ?p
    case p=>exact(.cons (.cons (.cons (.cons (.cons (.cons (.cons (.cons .nil))))))))
  case b=>exact(aM (cS 2 nd (cU aG (pv 1) (bQ hV (cM (dI T) hr (T.f 45) bW (aE (cM (cP T) hr (T.f 44) bW (aE (pv 0) (aE aQ aK))) (aE aQ aK))) aQ) (λ_ _=>rfl)))
  (aM (cH (cM (GW T) hr (T.f 53) bW (aE (pv 0) (aE (pv 2) aK))) (uW (dP (bZ (i:=3) nd rfl (Or.inl rfl)) (dP (bZ (i:=4) nd rfl (Or.inl rfl)) lF))))
  (aM (cS 5 nd (cM (DZ T) hr (T.f 54) bW (aE (pv 0) (aE (pv 3) (aE (pv 4) aK)))))
  (aM (cS 6 nd (fO (aE (bQ tM (bQ hV (cM (dI T) hr (T.f 45) bW (aE (cM (cP T) hr (T.f 44) bW (aE (pv 0) (aE aQ aK))) (aE aQ aK))) aQ) aQ) aK)))
  (aM (cS 7 nd (fO (aE (bQ tM (bQ hV (cM (dI T) hr (T.f 45) bW (aE (cM (cP T) hr (T.f 44) bW (aE (pv 0) (aE aQ aK))) (aE aQ aK))) aQ) aQ) aK)))
  (aM (mU PassesOwn.never rfl (h9 rfl (T.z 8) (aE aQ aK)) (bZ (i:=8) nd rfl (Or.inl rfl)) (aM (bK (A7 mAp eU (pv 6) (aE (bQ aU (bQ aU (cU aG (pv 6) (pv 8) (λ_ _=>rfl)) aQ) (bQ hV (cM (dI T) hr (T.f 45) bW (aE (cM (cP T) hr (T.f 44) bW (aE (pv 0) (aE aQ aK))) (aE (bQ aU aQ (pv 8)) aK))) aQ)) aK)))
  (bX (bK (A7 mAp eU (pv 7) (aE (bQ aU (bQ aU (cU aG (pv 7) (pv 8) (λ_ _=>rfl)) aQ) (bQ hV (cM (dI T) hr (T.f 45) bW (aE (cM (cP T) hr (T.f 44) bW (aE (pv 0) (aE aQ aK))) (aE (bQ aU aQ (pv 8)) aK))) aQ)) aK))))))
  (aM (cS 9 nd lH)
  (aM (cS 10 nd (fO aK))
  (aM (cS 11 nd (fO aK))
  (aM (mU PassesOwn.never rfl (iM rfl (T.z 1) (aE (pv 5) aK)) (uW (dP (bZ (i:=12) nd rfl (Or.inr rfl)) (dP (bZ (i:=13) nd rfl (Or.inl rfl)) lF))) (bX (mU PassesOwn.never rfl (h9 rfl (T.z 8) (aE aQ aK)) (bZ (i:=14) nd rfl (Or.inl rfl)) (bX (pL (PW.pt (tG (pK (xR hu (dH (aE (pv 13) (aE (pv 14) aK))) (pv 3))) (tF (pK (rY hu (dH (aE (pv 13) (aE (pv 14) aK))) (pv 9)))))) (aM (cS 15 nd (cM (G2 T) hr (T.f 55) bW (aE (pv 3) (aE (pv 5) (aE (pv 13) (aE (pv 14) (aE (pv 9) aK)))))))
  (aM (pL (gU cI (bQ hV (cM (dI T) hr (T.f 45) bW (aE (cM (cP T) hr (T.f 44) bW (aE (pv 0) (aE aQ aK))) (aE (bQ aU aQ (aP b9 rfl (T.z 4) PySem.boot_len (aE (pv 10) aK))) aK))) aQ) aQ (tP _)) (bX (cS 15 nd (A6 (pv 15) gX gX (iL (y9 sV aQ))))) iK)
  (aM (bK (A7 mAp eU (pv 10) (aE (dH (aE (fS YL PySem.F.slot_list_index PySem.F.type_list_index lQ (pv 5) (aE (cU aG (pv 15) aQ (λ_ _=>rfl)) aK)) (aE (fS YL PySem.F.slot_list_index PySem.F.type_list_index lQ (pv 5) (aE (cU aG (pv 15) (y9 sV aQ) (λ_ _=>rfl)) aK)) aK))) aK)))
  (bX (bK (A7 mAp eU (pv 11) (aE (cM (xU T) hr (T.f 56) bW (aE (lK (N':=["_law_one","_law_xs","_law_ys","_law_size"]) (js:=[none,some 6,some 7,some 2]) rfl (aW (pv 15)) (λ_ _ _ _ _=>(bZ (i:=0) nd_l_one_l_xs_l_ys_l_size rfl (Or.inl rfl))) (λ_ _ _ _ _=>mW) (λ_ _ _ _ _=>(dH (aE (cU aG (pv 1) (bQ hV (pv 0) (cU aL (pv 3) aQ (λ_ _=>rfl))) (λ_ _=>rfl)) (aE (cU aG (pv 2) (bQ bM (pv 0) (cU aL (pv 3) aQ (λ_ _=>rfl))) (λ_ _=>rfl)) aK))))) aK)) aK))))))) iK)))))
  (aM (kG (i:=16) nd rfl (Or.inl rfl)  (N':=["_law_point","_law_xs","_law_ys","_law_size"]) (js:=[none,some 6,some 7,some 2]) rfl (aW (pv 5)) (λ_ _ _ _ _=>(bZ (i:=0) nd_l_point_l_xs_l_ys_l_size rfl (Or.inl rfl))) (λ_ _ _ _ _=>mW) (λ_ _ _ _ _=>(dH (aE (cU aG (pv 1) (bQ hV (pv 0) (cU aL (pv 3) aQ (λ_ _=>rfl))) (λ_ _=>rfl)) (aE (cU aG (pv 2) (bQ bM (pv 0) (cU aL (pv 3) aQ (λ_ _=>rfl))) (λ_ _=>rfl)) aK)))))
  (aM (cS 17 nd (cM (D6 T) hr (T.f 58) bW (aE (pv 11) aK)))
  (aM (cS 18 nd (fO aK))
  (aM (mU PassesOwn.never rfl (h9 rfl (T.z 8) (aE (aP b9 rfl (T.z 4) PySem.boot_len (aE (pv 5) aK)) aK)) (bZ (i:=12) nd rfl (Or.inr rfl)) (aM (kG (i:=19) nd rfl (Or.inl rfl)  (N':=["_law_end","_law_place_here","_law_ties"]) (js:=[none,some 12,some 10]) rfl (h9 rfl (T.z 8) (aE (aP b9 rfl (T.z 4) PySem.boot_len (aE (pv 17) aK)) aK)) (λ_ _ _ _ _=>(bZ (i:=0) nd_l_end_l_place_here_l_ties rfl (Or.inl rfl))) (λ_ _ _ _ _=>(pQ (gU cI (cM (r9 T) hr (T.f 48) bW (aE (pv 2) (aE (pv 0) aK))) (pv 1) (tP _)))) (λ_ _ _ _ _=>(pv 0)))
  (aM (cS 20 nd (aP mC rfl (T.z 9) boot_sorted (aE (lK (N':=["_law_end","_law_heads_here"]) (js:=[none,some 17]) rfl (aW (pv 19)) (λ_ _ _ _ _=>(bZ (i:=0) nd_l_end_l_heads_here rfl (Or.inl rfl))) (λ_ _ _ _ _=>mW) (λ_ _ _ _ _=>(dH (aE (cU aG (pv 1) (pv 0) (λ_ _=>rfl)) (aE (pv 0) aK))))) aK)))
  (aM (cS 21 nd (bQ hV (cM (dI T) hr (T.f 45) bW (aE (cM (cP T) hr (T.f 44) bW (aE (pv 0) (aE aQ aK))) (aE (bQ aU aQ (pv 12)) aK))) (aP b9 rfl (T.z 4) PySem.boot_len (aE (pv 20) aK))))
  (bX (bK (A7 mAp eU (pv 18) (aE (lK (N':=["_law_head","_law_end"]) (js:=[none,none]) rfl (aW (bQ hZ (iA jP (pv 20) (iL (pv 21)) gX) (iA jP (pv 20) gX (iL (pv 21))))) (λ_ _ _ _ _=>(uW (dP (bZ (i:=0) nd_l_head_l_end rfl (Or.inl rfl)) (dP (bZ (i:=1) nd_l_head_l_end rfl (Or.inl rfl)) lF)))) (λ_ _ _ _ _=>mW) (λ_ _ _ _ _=>(pv 1))) aK))))))))
  (bX (xH (dH (aE (dH (aE (aP b9 rfl (T.z 4) PySem.boot_len (aE (pv 5) aK)) (aE (pv 10) (aE (pv 18) aK)))) (aE (dH (aE (pv 16) (aE (pv 11) aK))) aK)))))))))))))))))))
 refine⟨h2s,λT1 h1=>⟨h2s,λT2 h2=>⟨h2s,λT3 h3=>⟨h2s,λT4 h4=>⟨h2s,λT5 h5=>⟨h2s,λT6 h6=>⟨h2s,λT7 h7=>⟨h2s,λT8 h8=>⟨(by show 8<=ZW;decide),λzl hzl=>?_⟩⟩⟩⟩⟩⟩⟩⟩⟩;have s1:=aC h1 (.tup [.int 3,.int 3]);have s2:=aC h2 (.tup [.int 5,.int 2]);have s3:=aC h3 (.tup [.int 2,.int 5]);have s4:=aC h4 (.tup [.int 4,.int 2]);have s5:=aC h5 (.tup [.int 2,.int 2]);have s6:=aC h6 (.tup [.int 3,.int 2]);have s7:=aC h7 (.tup [.int 2,.int 1]);have s8:=aC h8 (.tup [.int 1,.int 4]);have s9:=aC hzl (.lst [V.ref T1,V.ref T2,V.ref T3,V.ref T4,V.ref T5,V.ref T6,V.ref T7,V.ref T8]);have gz:=((((((((s1.trans s2).trans s3).trans s4).trans s5).trans s6).trans s7).trans s8).trans s9)
 refine⟨sa,ns,_,rfl,gz.seq hS,by decide,λc0=>⟨c0,_,rfl,by decide,by decide,λm0 _ _=>?_⟩⟩;obtain⟨n8,hn8,en8⟩:∃n:Nat,n<8/\m0%8=(n:Int):=⟨(m0%8).toNat,by lia,by lia⟩
 obtain⟨zs,a,b,z1,z2,ha,hb,ha5,hb5,hab,h1,h26,hall⟩:∃(zs:Addr) (a b:Nat),atI [V.ref T1,V.ref T2,V.ref T3,V.ref T4,V.ref T5,V.ref T6,V.ref T7,V.ref T8] (n8:Int)=some (.ref zs)/\(upd (upd (upd (upd (upd (upd (upd (upd (upd H T1 (.tup [.int 3,.int 3])) T2 (.tup [.int 5,.int 2])) T3 (.tup [.int 2,.int 5])) T4 (.tup [.int 4,.int 2])) T5 (.tup [.int 2,.int 2])) T6 (.tup [.int 3,.int 2])) T7 (.tup [.int 2,.int 1])) T8 (.tup [.int 1,.int 4])) zl (.lst [V.ref T1,V.ref T2,V.ref T3,V.ref T4,V.ref T5,V.ref T6,V.ref T7,V.ref T8])) zs=some (.tup [vn a,vn b])/\0<a/\0<b/\a<=5/\b<=5/\a*b<=10/\(1<a\/1<b)/\((ZR (4*(a*b))).filter (gpc a b)).length<=26/\TU.iY a (TU.eps a b) 0=true:=by
  match n8,hn8 with
  |0,_=>exact⟨T1,3,3,bB rfl,(s9 _ _ (s8 _ _ (s7 _ _ (s6 _ _ (s5 _ _ (s4 _ _ (s3 _ _ (s2 _ _ aA)))))))),by decide,by decide,by decide,by decide,by decide,by decide,by decide,TU.g33⟩
  |1,_=>exact⟨T2,5,2,bB rfl,(s9 _ _ (s8 _ _ (s7 _ _ (s6 _ _ (s5 _ _ (s4 _ _ (s3 _ _ aA))))))),by decide,by decide,by decide,by decide,by decide,by decide,by decide,TU.g52⟩
  |2,_=>exact⟨T3,2,5,bB rfl,(s9 _ _ (s8 _ _ (s7 _ _ (s6 _ _ (s5 _ _ (s4 _ _ aA)))))),by decide,by decide,by decide,by decide,by decide,by decide,by decide,TU.g25⟩
  |3,_=>exact⟨T4,4,2,bB rfl,(s9 _ _ (s8 _ _ (s7 _ _ (s6 _ _ (s5 _ _ aA))))),by decide,by decide,by decide,by decide,by decide,by decide,by decide,TU.g42⟩
  |4,_=>exact⟨T5,2,2,bB rfl,(s9 _ _ (s8 _ _ (s7 _ _ (s6 _ _ aA)))),by decide,by decide,by decide,by decide,by decide,by decide,by decide,TU.g22⟩
  |5,_=>exact⟨T6,3,2,bB rfl,(s9 _ _ (s8 _ _ (s7 _ _ aA))),by decide,by decide,by decide,by decide,by decide,by decide,by decide,TU.g32⟩
  |6,_=>exact⟨T7,2,1,bB rfl,(s9 _ _ (s8 _ _ aA)),by decide,by decide,by decide,by decide,by decide,by decide,by decide,TU.g21⟩
  |7,_=>exact⟨T8,1,4,bB rfl,(s9 _ _ aA),by decide,by decide,by decide,by decide,by decide,by decide,by decide,TU.g14⟩
 refine⟨(by show(0:Int)<8;decide),_,.ref zs,aB aA,(by show atI _ (m0%8)=_;rw[en8];exact z1),?_⟩;refine⟨sa,zs,ns,a,b,rfl,gz.seq hS,z2,ha,hb,by lia,by lia,hab,h1,λr0 ka ca H1 kvs come W g1 f1 f2 f3 dw nt cm=>?_⟩;refine⟨_,aH f1,rfl,?_⟩;have gz1:=gz.trans g1;refine⟨sa,ka,ca,ns,kvs,W,a*b,come,rfl,gz1.seq hS,f2,dw,f3,cm,hab,λpa pl H2 _ g2 p1 pc=>?_⟩;have gz2:=gz1.trans g2;have hpl:pl.length<=10:=Xz (MM.bE (a*b) pl pc.nd λx hx=>cm.lt x (pc.sub x hx)) hab;have e2:=g2 _ _ f2;have ez:=g2 _ _ (g1 _ _ z2);clear f1 f3;refine⟨sa,ns,_,rfl,gz2.seq hS,by decide,λc1=>⟨c1,_,rfl,by decide,by decide,λm1 _ _=>⟨(by show(0:Int)<5;decide),(by show 1<=ZW;decide),λxa hxa=>?_⟩⟩⟩;have gx:=aC hxa (.lst [.int (m1%5-2)]);refine⟨sa,ns,_,rfl,(gz2.trans gx).seq hS,by decide,λc2=>⟨c2,_,rfl,by decide,by decide,λm2 _ _=>⟨(by show(0:Int)<5;decide),(by show 1<=ZW;decide),λya hya=>?_⟩⟩⟩;have gy:=aC hya (.lst [.int (m2%5-2)]);have nxy:ya≠xa:=λz=>by subst z;rw[aA]at hya;cases hya
 have hya2:H2 ya=none:=gx.free hya;refine⟨4,rfl,by decide,by decide,bV (lo:=0) (n:=4) (λi σ H'=>aJ H2 H'/\(∃xl yl:List Int,H' xa=some (.lst (xl.map V.int))/\H' ya=some (.lst (yl.map V.int))/\xl.length=i+1/\yl.length=i+1/\((∀j,j+1<i+1->at0 xl j<at0 xl (j+1))/\∀j,j<i+1->-2<=at0 xl j/\at0 xl j<=2+3*(j:Int))/\(∀j,j+1<i+1->at0 yl j<at0 yl (j+1))/\∀j,j<i+1->-2<=at0 yl j/\at0 yl j<=2+3*(j:Int))/\∃o,σ=[some (.ref sa),some (.ref zl),some (.ref zs),some (.ref ka),some (.ref ca),some (.ref pa),some (.ref xa),some (.ref ya),o,none,none,none,none,none,none,none,none,none,none,none,none,none])
  ⟨gx.trans gy,⟨[m1%5-2],[m2%5-2],(by rw[aF (Yh nxy)];exact aA),aA,rfl,rfl,⟨λj hj=>(by lia),λj hj=>DY hj (by lia) (by lia)⟩,λj hj=>(by lia),λj hj=>DY hj (by lia) (by lia)⟩,_,rfl⟩ ?_ ?_⟩
 ·rintro i σ H' hi ⟨g,⟨xl,yl,x1,y1,x2,y2,x3,y3⟩,o,rfl⟩;rw[show(0:Int)+(i:Int)=(i:Int) by lia];have gS:=gz2.trans g;refine⟨.inl ⟨rfl,_,aB x1⟩,_,_,aB x1,aS (j:=i) (by lia) rfl,sa,ns,_,rfl,gS.seq hS,by decide,λc3=>⟨c3,_,rfl,by lia,by lia,λm3 _ _=>⟨(by show(0:Int)<3;decide),_,x1,eV (by rw[Zq];lia),?_⟩⟩⟩;have y1':upd H' xa (.lst (xl.map V.int++[.int (at0 xl i+1+m3%3)])) ya=some (.lst (yl.map V.int)):=by rw[aF nxy];exact y1
  have gS2:aJ H2 (upd H' xa (.lst (xl.map V.int++[.int (at0 xl i+1+m3%3)]))):=g.upd hxa;refine⟨.inl ⟨rfl,_,aB y1'⟩,_,_,aB y1',aS (j:=i) (by lia) rfl,sa,ns,_,rfl,(gz2.trans gS2).seq hS,by decide,λc4=>⟨c4,_,rfl,by lia,by lia,λm4 _ _=>⟨(by show(0:Int)<3;decide),_,y1',eV (by rw[Zq];lia),gS2.upd hya2,⟨xl++[at0 xl i+1+m3%3],yl++[at0 yl i+1+m4%3],?_,?_,by simp[x2],by simp[y2],⟨uR x2 x3.1 (by lia),FH x2 x3.2 (by have:=x3.2 i (by lia);lia) (by have:=x3.2 i (by lia);lia)⟩,uR y2 y3.1 (by lia),FH y2 y3.2 (by have:=y3.2 i (by lia);lia) (by have:=y3.2 i (by lia);lia)⟩,_,rfl⟩⟩⟩
  ·rw[aF (Yh nxy),aA,Zt];rfl
  ·rw[aA,Zt];rfl
 ·rintro σ H' ⟨g,⟨xl,yl,x1,y1,x2,y2,x3,y3⟩,o,rfl⟩;have rx:FM xl:=⟨x2,x3⟩
  have ry:FM yl:=⟨y2,y3⟩
  refine λga hga=>?_;refine⟨few (by decide),λta hta=>⟨few (by decide),λna hna=>?_⟩⟩;have ntg:ta≠ga:=λz=>by subst z;rw[aA]at hta;cases hta
  have nng:na≠ga:=λz=>by subst z;rw[aF (Yh ntg),aA]at hna;cases hna
  have nnt:na≠ta:=λz=>by subst z;rw[aA]at hna;cases hna
  have g5:=((aC hga (.dT [])).trans (aC hta (.lst []))).trans (aC hna (.lst []));have apart:∀b o,H' b=some o->b≠ga/\b≠ta/\b≠na:=λb o e=>⟨aI e hga,aI (aC hga (.dT []) _ _ e) hta,aI (((aC hga (.dT [])).trans (aC hta (.lst []))) _ _ e) hna⟩
  have keepS:∀{H6:Hp},F3 ga ta na (upd (upd (upd H' ga (.dT [])) ta (.lst [])) na (.lst [])) H6->aJ H' H6:=λ{H6} f b o e=>f b o (apart b o e).1 (apart b o e).2.1 (apart b o e).2.2 (g5 _ _ e);have gS:=gz2.trans g;have hp1:=g _ _ p1;have he2:=g _ _ e2;have hez:=g _ _ ez;have c0:(0:Int)<(a:Int):=by lia
  have init:Lp pl ga ta na (upd (upd (upd H' ga (.dT [])) ta (.lst [])) na (.lst [])) (upd (upd (upd H' ga (.dT [])) ta (.lst [])) na (.lst [])) [] [] [] [] []:=by
   refine⟨F3.refl _ _ _ _,?_,⟨rfl,λi t h=>(by simp at h)⟩,aA,⟨rfl,λi t h=>(by simp at h)⟩,?_,ZA _,rfl,λt h=>(by cases h),λt h=>(by cases h),λx y h=>(by cases h)⟩
   ·rw[aF (Yh nnt)];exact aA
   ·rw[aF (Yh nng),aF (Yh ntg)];exact aA
  refine⟨pa,rfl,⟨_,aB (g5 _ _ hp1)⟩,gJ (xs:=vns pl) (λi σ H6=>(∃tr lr ts ll gs,Lp pl ga ta na (upd (upd (upd H' ga (.dT [])) ta (.lst [])) na (.lst [])) H6 tr lr ts ll gs/\((∃ds,Dsx a b pl i 0 ds/\ts.length=ds.length)/\(∃gl,Gln W pl gl ts ll gs)/\Al W pl gs i 0)/\∀k,k<i->∃e,e<2*ts.length/\MM.place ts e=k)/\∃o1 o2 o3 o4,σ=[some (.ref sa),some (.ref zl),some (.ref zs),some (.ref ka),some (.ref ca),some (.ref pa),some (.ref xa),some (.ref ya),o,some (.ref ga),some (.ref ta),some (.ref na),o1,o2,o3,o4,none,none,none,none,none,none]) ⟨⟨_,_,_,_,_,init,⟨⟨[],Dsx.nil,rfl⟩,⟨[],Gln.start⟩,λk h q _ _ z=>(by lia)⟩,λk hk=>(by lia)⟩,_,_,_,_,rfl⟩ (λi σ H6 _ h=>by obtain⟨⟨_,_,_,_,_,p,_⟩,_⟩:=h;exact aB (keepS p.f _ _ hp1)) ?_ ?_⟩
  ·rintro i x σ H6 Tp hx ⟨⟨tr,lr,ts,ll,gs,p,hts,dn⟩,o1,o2,o3,o4,rfl⟩ hTp;obtain⟨hi,rfl⟩:=mO hx;have pm0:=getD_mem hi;have ix0:=yH pc.nd hi;refine⟨_,aH aA,rfl,?_⟩;have p':=p.same (aC hTp (.tup [vn i,vn (pl.getD i 0)]));refine⟨4,rfl,by decide,by decide,bV (lo:=0) (n:=4) (λj σ H7=>(∃tr lr ts ll gs,Lp pl ga ta na (upd (upd (upd H' ga (.dT [])) ta (.lst [])) na (.lst [])) H7 tr lr ts ll gs/\((∃ds,Dsx a b pl i j ds/\ts.length=ds.length)/\(∃gl,Gln W pl gl ts ll gs)/\Al W pl gs i j)/\(∀k,k<i->∃e,e<2*ts.length/\MM.place ts e=k)/\((∃h,h<j/\(W (pl.getD i 0) h).isSome=true)->∃e,e<2*ts.length/\MM.place ts e=i))/\∃o3 o4,σ=[some (.ref sa),some (.ref zl),some (.ref zs),some (.ref ka),some (.ref ca),some (.ref pa),some (.ref xa),some (.ref ya),o,some (.ref ga),some (.ref ta),some (.ref na),some (vn i),some (vn (pl.getD i 0)),o3,o4,none,none,none,none,none,none]) ⟨⟨tr,lr,ts,ll,gs,p',hts,dn,λ⟨h,hh,_⟩=>(by lia)⟩,_,_,rfl⟩ ?_ ?_⟩
   ·rintro j σ H7 hj ⟨⟨tr,lr,ts,ll,gs,p,hts,dn,hd⟩,o3,o4,rfl⟩;rw[show(0:Int)+(j:Int)=(j:Int) by lia];refine⟨h2s,λT1 hT1=>?_⟩;have g7:=aC hT1 (.tup [vn (pl.getD i 0),vn j]);refine⟨_,eX.t (k:=kk (pl.getD i 0) j) (g7 _ _ (keepS p.f _ _ he2)) aA,?_⟩;rw[dw.2];cases ew:W (pl.getD i 0) j with
    |none =>
     refine iF (iF ⟨⟨tr,lr,ts,ll,gs,p.same g7,(let⟨⟨ds,d1,d2⟩,g1,a1⟩:=hts;⟨⟨ds,d1.up,d2⟩,g1,a1.up λq z=>by rw[ew]at z;cases z⟩),dn,λ⟨h,hh,hw⟩=>hd ⟨h,?_,hw⟩⟩,_,_,rfl⟩);rcases Xw h j with z | z
     ·exact z
     ·rw[show h=j by lia,ew]at hw;cases hw
    |some qq =>
     refine iT ⟨h2s,λT2 hT2=>?_⟩;have g8:=g7.trans (aC hT2 (.tup [vn (pl.getD i 0),vn j]));have p8:=p.same g8;refine⟨_,eX.t (k:=kk (pl.getD i 0) j) p8.gA aA,?_⟩;cases eg:(bJ gs (kk (pl.getD i 0) j)).isSome with
     |true =>
      refine iFb (by rfl) ⟨⟨tr,lr,ts,ll,gs,p8,(let⟨⟨ds,d1,d2⟩,g1,a1⟩:=hts;⟨⟨ds,d1.up,d2⟩,g1,a1.up λ_ _=>eg⟩),dn,λ_=>?_⟩,_,_,rfl⟩;obtain⟨e,h1,h2⟩:=p8.gi _ _ eg pm0;exact⟨e,h1,by rw[h2];exact ix0⟩
     |false =>
      refine iTb (by rfl) ?_;have S8:=keepS p8.f;have hgl:=p8.gl;obtain⟨⟨ds,dx,dl⟩,⟨gl,gln⟩,ala⟩:=hts;have dx26:=dx.few h26;refine⟨ka,pa,ga,a,b,pl.getD i 0,j,kvs,gs,W,come,pl,rfl,S8 _ _ he2,dw,nt,cm,hab,pc,S8 _ _ hp1,p8.gA,(apart _ _ he2).1.symm,by lia,pm0,⟨qq,ew⟩,λr1 H9 pts hs gs' hr1 sb f1 f2 lg tra h0 h40 z0 zl' ⟨hv0,gnn⟩=>?_⟩;have f9:=p8.f.trans (sb.f3 (y:=ta) (z:=na));have tA9:=sb ta _ ntg p8.tA;have lA9:=sb na _ nng p8.lA;have trl:tr.length=ts.length:=p8.tI.1;have lrl:lr.length=ts.length:=by rw[p8.lI.1,p8.ln]
      have n1t:r1≠ta:=λz=>by subst z;rw[p8.tA]at hr1;cases hr1
      have n1n:r1≠na:=λz=>by subst z;rw[p8.lA]at hr1;cases hr1
      have pth:=tra.path nt h0 h40;have tl:=tra.len;dsimp only;refine via (λσ' HA=>aJ H9 HA/\∃(lb:Addr) (pts2:List Nat) (hs2:Nat->Nat),HA lb=some (.lst (vns pts2))/\lb≠ta/\lb≠na/\Path a b pts2 hs2/\pts2.getD 0 0∈pl/\pts2.getD (pts2.length-1) 0∈pl/\(∀x,x=pl.getD i 0\/x=pts.getD hs.length 0->x=pts2.getD 0 0\/x=pts2.getD (pts2.length-1) 0)/\((pts2=pts/\hs2=λk=>hs.getD k 0)\/(pts2=pts.reverse/\hs2=λk=>(hs.getD (pts.length-2-k) 0+2)%4))/\σ'=[some (.ref sa),some (.ref zl),some (.ref zs),some (.ref ka),some (.ref ca),some (.ref pa),some (.ref xa),some (.ref ya),o,some (.ref ga),some (.ref ta),some (.ref na),some (vn i),some (vn (pl.getD i 0)),some (vn j),some (.ref lb),none,none,none,none,none,none]) (λk=>?_) ?_
      ·refine⟨sa,ns,_,rfl,(gS.trans (keepS f9)).seq hS,by decide,λc5=>⟨ta,_,rfl,.inl (aB tA9),c5,_,rfl,by lia,by rw[Zq];lia,λm5 _ _=>⟨(by show(0:Int)<2;decide),i2 (λ_=>?_) λ_=>?_⟩⟩⟩
       ·refine⟨_,0,aB f1,rfl,rfl,.inl ⟨rfl,rfl⟩,λlb hlb=>k _ _ ⟨aC hlb _,lb,pts.reverse,_,?_,λz=>?_,λz=>?_,pth.rev,?_,?_,λx hx=>?_,.inr ⟨rfl,rfl⟩,rfl⟩⟩
        ·rw[aA,List.drop_zero];unfold vns;rw[List.map_reverse]
        ·subst z;rw[tA9]at hlb;cases hlb
        ·subst z;rw[lA9]at hlb;cases hlb
        ·rw[dW (by lia),show pts.length-1-0=hs.length by lia];exact zl'
        ·rw[Xq,dW (by lia),show pts.length-1-(pts.length-1)=0 by lia,z0];exact pm0
        ·rw[Xq,dW (by lia),dW (by lia),show pts.length-1-0=hs.length by lia,show pts.length-1-(pts.length-1)=0 by lia,z0];rcases hx with z | z
         ·exact .inr z
         ·exact .inl z
       ·refine k _ _ ⟨aJ.refl _,r1,pts,_,f1,n1t,n1n,pth,?_,?_,λx hx=>?_,.inl ⟨rfl,rfl⟩,rfl⟩
        ·rw[z0];exact pm0
        ·rw[show pts.length-1=hs.length by lia];exact zl'
        ·rw[z0,show pts.length-1=hs.length by lia];exact hx
      ·rintro σ' HA ⟨gA,lb,pts2,hs2,b1,bt,bn,b2,b3,b4,b5,b6,rfl⟩;have fA:=f9.trans (gA.f3 (x:=ga) (y:=ta) (z:=na));have SA:=keepS fA;have tAA:=gA _ _ tA9;have lAA:=gA _ _ lA9;have gAA:=gA _ _ f2;have pAA:=SA _ _ hp1;have l2:=b2.l2;have l50:=b2.l50;have i0:atI (vns pts2) ((0:Nat):Int)=some (vn (pts2.getD 0 0)):=jI (j:=0) (by lia) rfl;refine⟨.inl ⟨rfl,_,aB tAA⟩,.inl ⟨rfl,_,aB pAA⟩,_,_,aB b1,i0,pl,_,rfl,pAA,b3,.inl ⟨rfl,_,aB pAA⟩,_,_,aB b1,iD (m:=pts2.length-1) (by lia),pl,_,rfl,pAA,b4,h2s,λT3 hT3=>⟨_,aC hT3 _ _ _ tAA,eV (by rw[Zq];lia),?_⟩⟩;have gT:=aC hT3 (.tup [vn (pl.idxOf (pts2.getD 0 0)),vn (pl.idxOf (pts2.getD (pts2.length-1) 0))]);have fB:=fA.trans ((gT.f3 (x:=ga) (y:=ta) (z:=na)).trans (JG (o:=.lst (tr.map V.ref++[.ref T3]))));have SB:=keepS fB;have lAB:=(aF (H:=upd HA T3 (.tup [vn (pl.idxOf (pts2.getD 0 0)),vn (pl.idxOf (pts2.getD (pts2.length-1) 0))])) (o:=.lst (tr.map V.ref++[.ref T3])) nnt).trans (gT _ _ lAA);have gAB:=(aF (H:=upd HA T3 (.tup [vn (pl.idxOf (pts2.getD 0 0)),vn (pl.idxOf (pts2.getD (pts2.length-1) 0))])) (o:=.lst (tr.map V.ref++[.ref T3])) (Yh ntg)).trans (gT _ _ gAA);have b1B:=(aF (H:=upd HA T3 (.tup [vn (pl.idxOf (pts2.getD 0 0)),vn (pl.idxOf (pts2.getD (pts2.length-1) 0))])) (o:=.lst (tr.map V.ref++[.ref T3])) bt).trans (gT _ _ b1);have n3t:T3≠ta:=λz=>by subst z;rw[tAA]at hT3;cases hT3
       have n3n:T3≠na:=λz=>by subst z;rw[lAA]at hT3;cases hT3
       have t3B:=(aF (H:=upd HA T3 (.tup [vn (pl.idxOf (pts2.getD 0 0)),vn (pl.idxOf (pts2.getD (pts2.length-1) 0))])) (o:=.lst (tr.map V.ref++[.ref T3])) n3t).trans aA;refine⟨.inl ⟨rfl,_,aB lAB⟩,⟨_,aB b1B⟩,λD hD=>?_⟩;have pml:(pts2.map (pm a xl yl)).length=pts2.length:=Zq ..;refine qJ (pts2.map (pm a xl yl)) hD (by lia) (λk HC hk gC=>⟨_,_,aB (gC _ _ b1B),(by rw[Zk,Zz (by lia)];rfl)⟩) (λHC gC=>⟨_,aB (gC _ _ b1B),by rw[pml,Zq];lia⟩) ?_ ?_
       ·rintro k HC v HC' kt hk gC ⟨rfl,hy⟩ hkk;have hv:=hy _ (aB (gC _ _ b1B));obtain⟨hk2,rfl⟩:=mO hv;have q0:=b2.lt k hk2;have d0:=nG q0 ha;have m0':=Nat.mod_lt (pts2.getD k 0) ha;have zC:=gC _ _ (SB _ _ hez);have xC:=gC _ _ (SB _ _ x1);have yC:=gC _ _ (SB _ _ y1);have rx1:=rx.1;have ry1:=ry.1;refine⟨(Fills.refl _).set _ rfl,_,_,aH zC,rfl,c0,_,_,aB xC,aS (j:=pts2.getD k 0%a) (by lia) (Int.natCast_emod _ _).symm,_,_,aH zC,rfl,⟨c0,by lia⟩,_,_,aB yC,aS (j:=pts2.getD k 0 / a) (by lia) (Int.natCast_ediv _ _).symm,h2s,λT4 hT4=>hkk _ _ (aC hT4 _) ⟨_,rfl,?_⟩⟩;have ept:L2.pt (pts2.map (pm a xl yl)) k=pm a xl yl (pts2.getD k 0):=by unfold L2.pt;simp[List.getD,hk2]
        rw[aA,ept];rfl
       ·intro HD gD hps;refine⟨D,_,hs2,rfl,hps,b2.walk rx ry ha ha5 hb5,DH (b:=b) rx ha ha5,λr2 HE kp hr2 gE hpk hline hbd hhd=>⟨_,gE _ _ (gD _ _ lAB),eV (by rw[Zq];lia),?_⟩⟩;rw[pml]at hhd;obtain⟨zg,gln2⟩:=gln.step2 (nt.stp ha) (pc.two' (nt.stp ha) cm) tra h0 zl' z0 gnn eg b6 hhd;have gDE:=gD.trans gE;have n2t:r2≠ta:=λz=>by subst z;rw[gD _ _ aA]at hr2;cases hr2
        have n2n:r2≠na:=λz=>by subst z;rw[gD _ _ lAB]at hr2;cases hr2
        have fE:=(((sb.f3 (y:=ta) (z:=na)).trans (gA.f3 (x:=ga) (y:=ta) (z:=na))).trans ((gT.f3 (x:=ga) (y:=ta) (z:=na)).trans (JG (o:=.lst (tr.map V.ref++[.ref T3]))))).trans ((gDE.f3 (x:=ga) (y:=ta) (z:=na)).trans (JF (o:=.lst (lr.map V.ref++[.ref r2]))));have st:=p8.step fE (T3:=T3) (r2:=r2) (x:=pl.idxOf (pts2.getD 0 0)) (y:=pl.idxOf (pts2.getD (pts2.length-1) 0)) (kp:=kp) (gs':=gs') ((aF (Yh nnt)).trans (gDE _ _ aA)) ((aF n3n).trans (gDE _ _ t3B)) aA n2t n2n (hpk.f3 (JF (x:=ga) (y:=ta)) (gDE _ _ gAB) (gDE _ _ aA) (gE _ _ (gD _ _ lAB)) n2t n2n) ((aF (Yh nng)).trans (gDE _ _ gAB)) lg (ZM b3) (ZM b4) ⟨hline,hbd⟩ (λu v e=>?_)
        ·refine⟨⟨_,_,_,_,_,st,⟨⟨ds++[4*pl.getD i 0+j],dx.add pc.nd hi hj (cm.lt _ (pc.sub _ pm0)) (LX ha (nt.go _ _ _ ew).2.2.2),by simp only[Zm,ZQ];lia⟩,⟨_,gln2⟩,(ala.more gnn.2.1).up λ_ _=>(gnn.2.2.2 h0).2.1⟩,λk hk=>?_,λ_=>?_⟩,_,_,rfl⟩
         ·obtain⟨e,h1,h2⟩:=dn k hk;exact⟨e,by simp only[Zm,ZQ];lia,by rw[rX h1];exact h2⟩
         ·rcases b5 _ (.inl rfl) with z | z
          ·exact⟨2*ts.length,by simp only[Zm,ZQ];lia,by rw[y8,<-z];exact ix0⟩
          ·exact⟨2*ts.length+1,by simp only[Zm,ZQ];lia,by rw[y6,<-z];exact ix0⟩
        ·rcases gnn.1 u v e with z | z | ⟨z,_⟩ | ⟨_,z,_⟩
         ·exact .inl z
         ·exact .inr (.inl z)
         ·rcases b5 u (.inl z) with y | y
          ·exact .inr (.inr (.inl (by rw[y])))
          ·exact .inr (.inr (.inr (by rw[y])))
         ·rcases b5 u (.inr z) with y | y
          ·exact .inr (.inr (.inl (by rw[y])))
          ·exact .inr (.inr (.inr (by rw[y])))
   ·rintro σ H7 ⟨⟨tr,lr,ts,ll,gs,p,hts,dn,hd⟩,o3,o4,rfl⟩;refine⟨⟨tr,lr,ts,ll,gs,p,(let⟨⟨ds,d1,d2⟩,g1,a1⟩:=hts;⟨⟨ds,d1.on,d2⟩,g1,a1.on (nt.stp ha)⟩),λk hk=>?_⟩,_,_,_,_,rfl⟩;rcases Xw k i with z | z
    ·exact dn k z
    ·rw[show k=i by lia];obtain⟨h,q',e⟩:=cm.out _ (pc.sub _ pm0);exact hd ⟨h,(nt.go _ _ _ e).1,by rw[e];rfl⟩
  ·rintro σ H6 ⟨⟨tr,lr,ts,ll,gs,p,hts,dn⟩,o1,o2,o3,o4,rfl⟩;have hlv:(vns pl).length=pl.length:=Zq ..;rw[hlv]at hts dn;obtain⟨⟨ds,dx,dl⟩,⟨gl,gln⟩,ala⟩:=hts;have dx26:=dx.few h26;have S6:=keepS p.f;have p6:=S6 _ _ hp1;have pml:(pl.map (pm a xl yl)).length=pl.length:=Zq ..;have rx1:=rx.1;have ry1:=ry.1;refine⟨⟨_,aB p6⟩,λD hD=>?_⟩;refine qJ (pl.map (pm a xl yl)) hD (by lia) (λk HC hk gC=>⟨_,_,aB (gC _ _ p6),(by rw[Zk,Zz (by lia)];rfl)⟩) (λHC gC=>⟨_,aB (gC _ _ p6),by rw[pml,Zq];lia⟩) ?_ ?_
   ·rintro k HC v HC' kt hk gC ⟨rfl,hy⟩ hkk;have hv:=hy _ (aB (gC _ _ p6));obtain⟨hk2,rfl⟩:=mO hv;have q0:=cm.lt _ (pc.sub _ (getD_mem hk2));have d0:=nG q0 ha;have m0':=Nat.mod_lt (pl.getD k 0) ha;have zC:=gC _ _ (S6 _ _ hez);have xC:=gC _ _ (S6 _ _ x1);have yC:=gC _ _ (S6 _ _ y1);refine⟨(Fills.refl _).set _ rfl,_,_,aH zC,rfl,c0,_,_,aB xC,aS (j:=pl.getD k 0%a) (by lia) (Int.natCast_emod _ _).symm,_,_,aH zC,rfl,⟨c0,by lia⟩,_,_,aB yC,aS (j:=pl.getD k 0 / a) (by lia) (Int.natCast_ediv _ _).symm,h2s,λT4 hT4=>hkk _ _ (aC hT4 _) ⟨_,rfl,?_⟩⟩;have ept:L2.pt (pl.map (pm a xl yl)) k=pm a xl yl (pl.getD k 0):=by unfold L2.pt;simp[List.getD,hk2]
    rw[aA,ept];rfl
   ·intro HB0 gB0 hsp;have ts0:=gB0.ts (p.tI.ts p.tA);have ls0:=gB0.ls (p.lI.ls p.lA);have lln:=p.ln;refine⟨na,ll,rfl,ls0,by lia,λps hps=>⟨(p.li ps hps).1.1,(p.li ps hps).1.2.1⟩,λha' HB hha gB eB=>?_⟩;have gHB:aJ H' HB:=(S6.trans gB0).trans gB;have tsB:=gB.ts ts0;have lsB:=gB.ls ls0;have spB:=gB.ps hsp;have pB:=gHB _ _ hp1;have hll:=jV ll;refine⟨few (by decide),λoa hoa=>?_⟩;have gO:=aC hoa (.lst []);refine⟨pa,_,rfl,.inl (aB (gO _ _ pB)),_,rfl,by lia,by lia,?_⟩;rw[hlv];refine bV (lo:=0) (n:=((pl.length:Nat):Int).toNat) (λi σ H7=>aJ HB H7/\(∃(rr:List Addr) (os:MM.aT),H7 oa=some (.lst (rr.map V.ref))/\rr.length=os.length/\os.length=i/\(∀(k:Nat) l,os[k]?=some l->∃r,rr[k]?=some r/\r≠oa/\H7 r=some (.lst (vns l)))/\(∀k,k<i->∀e,e∈MM.row os k↔e<2*ts.length/\MM.place ts e=k)/\∀k,k<i->∃l,MM.Rot (MM.row os k) l/\l.Nodup/\l.Pairwise λe e'=>at0 (lvs ll) e<=at0 (lvs ll) e')/\∃o1 o5 o6 o7,σ=[some (.ref sa),some (.ref zl),some (.ref zs),some (.ref ka),some (.ref ca),some (.ref pa),some (.ref xa),some (.ref ya),o,some (.ref ga),some (.ref ta),some (.ref na),o1,o2,o3,o4,some (.ref D),some (.ref ha'),some (.ref oa),o5,o6,o7])
     ⟨gO,⟨[],[],aA,rfl,rfl,λk l h=>(by simp at h),λk hk=>(by lia),λk hk=>(by lia)⟩,_,_,_,_,rfl⟩ ?_ ?_
    ·rintro i σ H7 hi ⟨g7,⟨rr,os,q1,q2,q3,q4,q5,q6⟩,o1',o5,o6,o7,rfl⟩;have hi':i<pl.length:=by lia
     rw[show(0:Int)+(i:Int)=(i:Int) by lia];have e7:=g7 _ _ eB;have sS:=gS.trans (gHB.trans g7);refine⟨ha',_,rfl,.inl (aB e7),_,rfl,by lia,by rw[Zq];lia,λD1 hD1=>?_⟩;rw[Zq];have hn:(((lvs ll).length:Nat):Int).toNat=2*ts.length:=by lia
     refine jY (((lvs ll).length:Nat):Int).toNat (λk=>vn k) (λe=>decide (MM.place ts e=i)) hD1 (by lia) (λk HC hk _=>hk) (λHC _=>ZA _) ?_ ?_
     ·rintro k HC v HC' kt kf hk gC ⟨rfl,rfl⟩ k1 k2;rw[show(0:Int)+(k:Int)=(k:Int) by lia];refine⟨(Fills.refl _).set _ rfl,ta,ts,k,rfl,gC.ts (g7.ts tsB),by lia,?_⟩;have ce:(vn (MM.place ts k)=vn i)↔MM.place ts k=i:=⟨λz=>by injection z with z;lia,λz=>by rw[z]⟩
      by_cases c:MM.place ts k=i
      ·exact iTb (Ye (ce.mpr c)) (k1 (Ye c) _ (aJ.refl _))
      ·exact iFb (Yc λz=>c (ce.mp z)) (k2 (Yc c) _ (aJ.refl _))
     ·intro H8 g8 e8;rw[hn]at e8;have ow_mem:∀e,e∈(ZR (2*ts.length)).filter (λe=>decide (MM.place ts e=i))↔e<2*ts.length/\MM.place ts e=i:=λe=>by rw[Yz,Zs,decide_eq_true_iff]
      have ow_len:((ZR (2*ts.length)).filter (λe=>decide (MM.place ts e=i))).length<=2*ts.length:=Xz (List.length_filter_le _ _) (by rw[Yj];exact ZA _);have ow_pos:0<((ZR (2*ts.length)).filter (λe=>decide (MM.place ts e=i))).length:=by
       obtain⟨e,h1,h2⟩:=dn i hi';exact List.length_pos_of_mem ((ow_mem e).mpr ⟨h1,h2⟩)
      have ow_nd:((ZR (2*ts.length)).filter (λe=>decide (MM.place ts e=i))).Nodup:=List.Nodup.sublist List.filter_sublist ZC;generalize (ZR (2*ts.length)).filter (λe=>decide (MM.place ts e=i))=ow at e8 ow_mem ow_len ow_pos ow_nd;have h128:ow.length<=52:=by lia
      have psl:(ow.map λe=>((at0 (lvs ll) e,(e:Int)):Pt)).length=ow.length:=Zq ..;have ept:∀{k:Nat},k<ow.length->L2.pt (ow.map λe=>((at0 (lvs ll) e,(e:Int)):Pt)) k=(at0 (lvs ll) (ow.getD k 0),((ow.getD k 0:Nat):Int)):=λ{k} hk=>by unfold L2.pt;simp[List.getD,hk]
      refine⟨⟨_,aB e8⟩,λD2 hD2=>?_⟩;refine qJ (ow.map λe=>((at0 (lvs ll) e,(e:Int)):Pt)) hD2 (by lia) (λk HC hk gC=>⟨_,_,aB (gC _ _ e8),(by rw[Zk,Zz (by lia)];rfl)⟩) (λHC gC=>⟨_,aB (gC _ _ e8),by rw[psl,Zq];lia⟩) ?_ ?_
      ·rintro k HC v HC' kt hk gC ⟨rfl,hy⟩ hkk;have hv:=hy _ (aB (gC _ _ e8));obtain⟨hk2,rfl⟩:=mO hv;have em:=(ow_mem _).mp (getD_mem hk2);refine⟨(Fills.refl _).set _ rfl,_,_,aB (gC _ _ (g8 _ _ e7)),aS (j:=ow.getD k 0) (by lia) rfl,h2s,λT4 hT4=>hkk _ _ (aC hT4 _) ⟨_,rfl,?_⟩⟩;rw[aA,ept hk2]
      ·intro H9 g9 hps;obtain⟨as,a1,a2,a3⟩:=hps.refs;rw[psl]at a2;have ha3:∀(k:Nat) x,as[k]?=some x->H9 x=some (.tup [.int (at0 (lvs ll) (ow.getD k 0)),vn (ow.getD k 0)]):=λk x h=>by
        have hk:k<ow.length:=by rw[<-a2];exact(Zj.mp h).1
        have:=a3 k x h;rw[ept hk]at this;exact this
       have te0:=jB (List.Perm.refl as) a2 ha3;refine⟨D2,as,dec H9,rfl,aB a1,λx hx=>?_,by lia,λrw' rs hrw pm' srt=>?_⟩
       ·obtain⟨e,_,h⟩:=te0.1 x hx;rw[dec_is h];exact⟨by simp,aH h⟩
       have hrl:rs.length=ow.length:=by rw[pm'.length_eq,a2]
       have row6:=xE (f:=at0 (lvs ll)) pm' a2 ha3 ow_nd srt;have gw:=aC hrw (.lst (rs.map V.ref));have g89:=(g7.trans g8).trans g9;have gQ:=g89.trans gw;refine⟨sa,ns,_,rfl,(gS.trans (gHB.trans gQ)).seq hS,by decide,λc6=>⟨c6,_,rfl,by lia,by lia,λm6 hm0 hm1=>⟨rw',_,rfl,.inl (aB aA),(by rw[Zq,hrl];lia),?_⟩⟩⟩;obtain⟨n6,hn6,en6⟩:∃n:Nat,n<ow.length/\m6%(((rs.map V.ref).length:Nat):Int)=(n:Int):=by
        rw[Zq,hrl];have h1:=Xy m6 (show(ow.length:Int)≠0 by lia);have h2:=Xg m6 (show(0:Int)<(ow.length:Int) by lia);exact⟨(m6%(ow.length:Int)).toNat,by lia,by lia⟩
       have cd:=N7 (rs.map V.ref) en6 (by rw[Zq];lia);have ck:=N6 (rs.map V.ref) en6 (by rw[Zq];lia);have oN:HB oa=none:=hoa;have q1w:upd H9 rw' (.lst (rs.map V.ref)) oa=some (.lst (rr.map V.ref)):=gw _ _ (g9 _ _ (g8 _ _ q1));refine⟨.inl ⟨rfl,_,aB q1w⟩,_,aB aA,λs1 hs1=>?_⟩;have gs1:=aC hs1 (.lst (gM (rs.map V.ref) (some (m6%(((rs.map V.ref).length:Nat):Int))) none));refine⟨_,aB (gs1 _ _ aA),λs2 hs2=>?_⟩;have gs2:=aC hs2 (.lst (gM (rs.map V.ref) none (some (m6%(((rs.map V.ref).length:Nat):Int)))));refine⟨_,_,gs2 _ _ aA,aA,(by rw[cd,ck];simp only[Yr,Yx,Zq];exact few (by lia)),λs3 hs3=>?_⟩;have ec:gM (rs.map V.ref) (some (m6%(((rs.map V.ref).length:Nat):Int))) none++gM (rs.map V.ref) none (some (m6%(((rs.map V.ref).length:Nat):Int)))=(rs.drop n6++rs.take n6).map V.ref:=by rw[cd,ck,Zt,List.map_drop,List.map_take]
       have gs3:=aC hs3 (.lst (gM (rs.map V.ref) (some (m6%(((rs.map V.ref).length:Nat):Int))) none++gM (rs.map V.ref) none (some (m6%(((rs.map V.ref).length:Nat):Int)))));have p2:(rs.drop n6++rs.take n6).Perm as:=by
        refine(List.perm_append_comm).trans ?_;rw[List.take_append_drop];exact pm'
       have te:=jB p2 a2 ha3;have e3:=aA (H:=upd (upd (upd H9 rw' (.lst (rs.map V.ref))) s1 (.lst (gM (rs.map V.ref) (some (m6%(((rs.map V.ref).length:Nat):Int))) none))) s2 (.lst (gM (rs.map V.ref) none (some (m6%(((rs.map V.ref).length:Nat):Int)))))) (a:=s3) (o:=.lst (gM (rs.map V.ref) (some (m6%(((rs.map V.ref).length:Nat):Int))) none++gM (rs.map V.ref) none (some (m6%(((rs.map V.ref).length:Nat):Int)))));rw[ec]at e3;have p2l:=p2.length_eq;have gall:=((gw.trans gs1).trans gs2).trans gs3;rw[ec]at gall;generalize hrs2:rs.drop n6++rs.take n6=rs2 at ec p2 te e3 p2l gall;refine⟨⟨_,aB aA⟩,λD3 hD3=>?_⟩;rw[ec]at hD3 ⊢;refine bH rs2.length (λk=>.int ((dec H9 (rs2.getD k 0)).getD 1 0)) hD3 (by lia) (λk HC hk gC=>⟨_,_,aB (gC _ _ e3),(by rw[Zk,Zz hk];rfl)⟩) (λHC gC=>⟨_,aB (gC _ _ e3),by simp⟩) ?_ ?_
       ·rintro k HC v HC' kt hk gC ⟨rfl,hy⟩ hkk;have hv:=hy _ (aB (gC _ _ e3));rw[Zk,Zz hk]at hv;have hv':v=.ref (rs2.getD k 0):=by
         simp only[Option.map_some,Option.some.injEq]at hv;rw[<-hv];simp[List.getD,hk]
        subst hv';obtain⟨e,he,hx⟩:=te.1 (rs2.getD k 0) (by simp[List.getD,hk]);refine⟨_,aH (gC _ _ (gall _ _ hx)),rfl,((Fills.refl _).set _ rfl).set _ rfl,?_⟩;have:=hkk _ (aJ.refl _);rw[dec_is hx]at this;exact this
       ·intro HD gD eD;have eD2:HD D3=some (.lst (vns (rs2.map λx=>((dec H9 x).getD 1 0).toNat))):=by
         rw[eD];unfold vns;rw[Yn];refine congrArg (λz=>some (HO.lst z)) ?_;apply YQ;intro k;by_cases hk:k<rs2.length
         ·rw[Zk,Yv hk,Zk,Zz hk];obtain⟨e,he,hx⟩:=te.1 rs2[k] (Zp hk);have hg:rs2.getD k 0=rs2[k]:=by simp[List.getD,hk]
          simp only[Option.map_some,Function.comp,hg,dec_is hx];simp
         ·rw[Zr (by simp;lia),Zr (by simp;lia)]
        have gZ:=gall.trans gD;have nD:D3≠oa:=λz=>by subst z;rw[gall _ _ (g9 _ _ (g8 _ _ q1))]at hD3;cases hD3
        refine⟨_,gZ _ _ (g9 _ _ (g8 _ _ q1)),eV (by rw[Zq];lia),(g89.trans gZ).upd hoa,⟨rr++[D3],os++[rs2.map λx=>((dec H9 x).getD 1 0).toNat],by rw[aA,Zt];rfl,by simp[q2],by simp[q3],λk l h=>?_,λk hk e=>?_,λk hk=>?_⟩,_,_,_,_,rfl⟩
        ·rcases Xw k os.length with z | z
         ·rw[Zx z]at h;obtain⟨r,r1,r2,r3⟩:=q4 k l h;exact⟨r,by rw[Zx (by lia)];exact r1,r2,by rw[aF r2];exact gZ _ _ (g9 _ _ (g8 _ _ r3))⟩
         ·rw[Zy z]at h;have hk0:k-os.length=0:=by
           have:=(Zj.mp h).1;simp at this;lia
          rw[hk0]at h;simp at h;subst h;exact⟨D3,by rw[Zy (by lia),q2,hk0];rfl,nD,by rw[aF nD];exact eD2⟩
        ·rcases Xw k i with z | z
         ·rw[yX (by lia)];exact q5 k z e
         ·have:k=os.length:=by lia
          rw[this,yW,te.2,ow_mem,q3]
        ·rcases Xw k i with z | z
         ·rw[yX (by lia)];exact q6 k z
         ·have:k=os.length:=by lia
          rw[this,yW];refine⟨_,⟨n6,?_⟩,row6.1,row6.2⟩;rw[<-hrs2,Zt,List.map_drop,List.map_take]
    ·rintro σ H7 ⟨g7,⟨rr,os,q1,q2,q3,q4,q5,q6⟩,o1',o5,o6,o7,rfl⟩;have hn:((pl.length:Nat):Int).toNat=pl.length:=by lia
     rw[hn]at q3 q5 q6;have hHas:=KI gln nt ha cm pc hall hab ala q3 q5 q6;refine⟨pa,_,rfl,.inl (aB (g7 _ _ pB)),(by show 3<=ZW;decide),λwa hwa=>?_⟩;have gW:=aC hwa (.tup [.int (((vns pl).length:Nat):Int),.ref ta,.ref oa]);refine⟨h2s,λda hda=>?_⟩;have gDa:=aC hda (.tup [.ref D,.ref na]);refine⟨h2s,λrr' hrr'=>?_⟩;have gR:=aC hrr' (.tup [.ref wa,.ref da]);have gF:=(gW.trans gDa).trans gR;refine q rr' wa da D na ts os (pl.map (pm a xl yl)) ll _ ((gS.trans (gHB.trans g7)).trans gF) aA ⟨ta,oa,(by rw[q3,<-hlv];exact(gDa.trans gR) _ _ aA),(g7.trans gF).ts tsB,?_⟩ hHas (gR _ _ aA) ((g7.trans gF).ps spB) (by lia) (DH (b:=b) rx ha ha5) ((g7.trans gF).ls lsB) lln (by lia) (by lia) p.li;exact⟨rr,gF _ _ q1,q2,λk l h=>by obtain⟨r,r1,_,r3⟩:=q4 k l h;exact⟨r,r1,gF _ _ r3⟩⟩
def F8:Sp:=λvs H Q _=>∃(wa sa c0 l0:Addr) (ts:MM.aR) (os:MM.aT) (cs ls:List Int) (o:Nat),vs=[.ref wa,.ref sa]/\eA H wa os.length ts os/\MM.Good ts os/\ts.length<=40/\H sa=some (.tup [.ref c0,.ref l0])/\H c0=some (.lst (cs.map V.int))/\H l0=some (.lst (ls.map V.int)) /\
 cs.length=2*ts.length/\ls.length=2*ts.length/\o<(MM.lls ts os).length/\MM.Shp ts os o (at0 cs) (at0 ls)/\∀H',aJ H H'->Q (vn o) H'
theorem BD(T:Txt K mg t):Ok P w base T 61 5 F8:=by
 left
 obtain⟨wa,sa,c0,l0,ts,os,cs,ls,o,rfl,hW,g,h40,hsa,hc0,hl0,lc,ll,ho,sh,q⟩:=h;refine⟨_,(by exists fS YL PySem.F.slot_list_index PySem.F.type_list_index BG ?_ ?_,(eK ["_law_land","_law_shape"] [none,some 1]),aW ?_,mY,aL,0,aL,0,0,zE,0,aL,1,aL,1),?_⟩;obtain⟨tA,oA,hw,hts,hos⟩:=id hW;refine⟨_,.ref tA,aH hw,rfl,_,.ref oA,aH hw,rfl,tA,oA,ts,os,rfl,hts,hos,g,by lia,λla lr H2 g2 hN=>?_⟩;have hL:(MM.lls ts os).length<=2*ts.length:=MM.HF g;have lrl:lr.length=(MM.lls ts os).length:=hN.len;refine⟨⟨_,aB hN.at_⟩,λD hD=>bH (MM.lls ts os).length (λi=>.int (if i=o then -4 else 4)) hD (by lia) (λi H' hi g'=>⟨_,_,aB (g' _ _ hN.at_),(by rw[Zk,Zz (by lia)];rfl)⟩) (λH' g'=>⟨_,aB (g' _ _ hN.at_),by rw[Zq,lrl];exact ZA _⟩) (λi H' x H'' k hi g' hy hk=>?_) ?_⟩
 ·obtain⟨rfl,hy⟩:=hy;have hv:=hy _ (aB (g' _ _ hN.at_));obtain⟨y,hy1,hy2⟩:=hN.row i _ (Zz hi);rw[Zk,hy1]at hv;cases hv;have hd:=MM.dS g (Zz hi);have gg:=g2.trans g';refine⟨(Fills.refl _).set _ rfl,_,.ref c0,aH (gg _ _ hsa),rfl,_,.ref l0,aH (gg _ _ hsa),rfl,y,c0,l0,(MM.lls ts os)[i],cs,ls,rfl,g' _ _ hy2,gg _ _ hc0,gg _ _ hl0,λx hx=>?_,?_,λH4 g4=>?_⟩
  ·have h1:=hd.2.1 x hx;have h2:=MM.bF h1;exact⟨by lia,by lia,by lia⟩
  ·have:=MM.bE (2*ts.length) _ hd.1 hd.2.1
   lia
  ·have:=sh.ld i _ (Zz hi);rw[this];exact hk _ g4
 intro H3 g3 eD;have em:(ZR (MM.lls ts os).length).map (λi=>V.int (if i=o then -4 else 4))=((ZR (MM.lls ts os).length).map λi=>if i=o then (-4:Int) else 4).map V.int:=by rw[Yn];rfl
 rw[em]at eD;have mem:(-4:Int)∈(ZR (MM.lls ts os).length).map λi=>if i=o then (-4:Int) else 4:=Zh.mpr ⟨o,Zs.mpr ho,Yb rfl⟩
 have ix:((ZR (MM.lls ts os).length).map λi=>if i=o then (-4:Int) else 4).idxOf (-4)=o:=by
  have hlt:=ZM mem;have hg:=List.getElem_idxOf hlt;rw[List.getElem_map,List.getElem_range]at hg;by_cases z:((ZR (MM.lls ts os).length).map λi=>if i=o then (-4:Int) else 4).idxOf (-4)=o
  ·exact z
  ·rw[Ya z]at hg;lia
 refine⟨.inl ⟨rfl,_,aB eD⟩,_,-4,rfl,eD,mem,?_⟩;rw[ix];exact q _ (g2.trans g3)
theorem MD(ps:List Pt)(c:Int)(h:ps.length<=1000):cnt ps c<=1000:=by
 unfold L2.cnt;have h1:=List.count_le_length (a:=c) (l:=dif (hds ps) 0);have h2:(dif (hds ps) 0).length<=1000:=by unfold dif;rw[Zq,Yj,tW];omega
 lia
theorem LL{ll:List (List Pt)}(h:∀ps∈ll,ps.length<=1000)(e:Nat):at0 (lfs ll) e<=1000:=by
 have:∀x∈lfs ll,x<=1000:=λx hx=>by
  obtain⟨ps,hp,h'⟩:=Yk.mp hx;have h':x=cnt ps 1\/x=cnt ps 3:=by simpa using h'
  rcases h' with rfl | rfl<;>exact MD ps _ (h ps hp)
 unfold at0;rw[Zv];cases q:(lfs ll)[e]? with
 |none=>show(0:Int)<=1000;decide
 |some x=>exact this x (Zg q)
def CZ:Sp:=λvs H Q _=>∃(sa:Addr) (ns:List Int),vs=[.ref sa]/\SqL H sa (ns.map V.int) /\
 ∀(r wa sh c0 l0:Addr) (ts:MM.aR) (os:MM.aT) (cs ls:List Int) (o:Nat) (H':Hp),aJ H H'->H' r=some (.tup [.ref wa,vn o,.ref sh])->eA H' wa os.length ts os->MM.Good ts os->MM.FC ts os->ts.length<=40->os.length<=10->H' sh=some (.tup [.ref c0,.ref l0])->H' c0=some (.lst (cs.map V.int))->H' l0=some (.lst (ls.map V.int)) ->
  cs.length=2*ts.length->ls.length=2*ts.length->o<(MM.lls ts os).length->SHp ts os o (at0 cs) (at0 ls) 20->Q (.ref r) H'
theorem xY(T:Txt K mg t):Ok P w base T 63 6 (CZ):=by
 left
 obtain⟨sa,ns,rfl,hS,q⟩:=h;refine⟨_,(by exists cH ?_ ?_,xV,0,1,2,3,GX,1,2,4,BD,1,3,cI,dI,cP,0,5,xW,1,3,cP,0,dI,cP,0,aP (j3 rfl) rfl (T.z 10) boot_sum ?_,aL,5,3,5,1,4,3),?_⟩;refine⟨sa,ns,rfl,hS,λr wa da pa la ts os sp ll H1 g1 f1 f2 hP f3 f4 _ _ f5 ll1 t40 o10 hln=>?_⟩;obtain⟨gd,fc,⟨o,ho,shp⟩,hdg⟩:=hP;have lt:∀ps∈ll,2<=ps.length/\ps.length<=1000:=λps h=>⟨(hln ps h).1.1,(hln ps h).1.2.1⟩
 refine⟨_,aH f1,rfl,?_⟩;have lC:(cns ts os (lvs ll)).length=2*ts.length:=by unfold cns;rw[Zq,Yj,jV,ll1]
 have lL:(lfs ll).length=2*ts.length:=by rw[zL,ll1]
 refine⟨wa,da,pa,la,os.length,ts,os,ll,rfl,f2,gd,f3,f5,ll1,by lia,lt,λsh c0 l0 H2 g2 s1 s2 s3=>?_⟩;refine⟨wa,sh,c0,l0,ts,os,_,_,o,rfl,g2.web f2,gd,t40,s1,s2,s3,lC,lL,ho,shp,λH3 g3=>?_⟩;have sh0:SHp ts os o (at0 (cns ts os (lvs ll))) (at0 (lfs ll)) 0:=⟨shp,hdg,λe=>by have:=LL (λps h=>(lt ps h).2) e;lia⟩
 have up:∀{c l:Nat->Int}{k:Nat},SHp ts os o c l k->k<=20->SHp ts os o c l 20:=λ{c l k} h hk=>⟨h.s,h.h,λe=>by have:=h.b e;lia⟩
 have W3:eA H3 wa os.length ts os:=(g2.trans g3).web f2;have hS3:=(g1.trans (g2.trans g3)).seq hS;have g03:=g1.trans (g2.trans g3);dsimp only;refine via (λσ' H'=>∃(sh c0 l0:Addr) (cs ls:List Int) (o5:Option V),aJ H3 H'/\σ'=[some (.ref sa),some (.ref wa),some (.ref da),some (.ref sh),some (vn o),o5]/\H' sh=some (.tup [.ref c0,.ref l0])/\H' c0=some (.lst (cs.map V.int))/\H' l0=some (.lst (ls.map V.int))/\cs.length=2*ts.length/\ls.length=2*ts.length/\SHp ts os o (at0 cs) (at0 ls) 20) (λk=>?_) ?_
 ·refine⟨sa,ns,_,rfl,hS3,by decide,λc1=>⟨c1,_,rfl,by decide,by decide,λm1 _ _=>⟨(by show(0:Int)<2;decide),i2 (λ_=>?_) (λ_=>k _ _ ⟨sh,c0,l0,_,_,_,aJ.refl _,rfl,g3 _ _ s1,g3 _ _ s2,g3 _ _ s3,lC,lL,up sh0 (by lia)⟩)⟩⟩⟩;refine⟨sa,ns,_,rfl,hS3,by decide,λc2=>⟨sa,ns,_,rfl,hS3,by decide,λc3=>⟨c3,_,rfl,by decide,by decide,λm3 _ _=>⟨(by show(0:Int)<13;decide),?_⟩⟩⟩⟩;have b0:=Xy m3 (show(13:Int)≠0 by decide);have b1:=Xg m3 (show(0:Int)<13 by decide);refine⟨wa,sh,c0,l0,os.length,o,ts,os,_,_,c2,m3%13,rfl,W3,gd,t40,g3 _ _ s1,g3 _ _ s2,g3 _ _ s3,lC,lL,sh0,b0,by lia,λr2 cA lA cs ls H4 g4 e1 e2 e3 _ _ _ lc ll' sh2=>?_⟩;refine⟨_,.ref lA,aH e1,rfl,lA,ls,rfl,aB e3,i2 (λ_=>(k _ _ ⟨r2,cA,lA,cs,ls,_,g4,rfl,e1,e2,e3,lc,ll',up sh2 (by lia)⟩)) (λ_=>k _ _ ⟨sh,c0,l0,_,_,_,g4,rfl,g4 _ _ (g3 _ _ s1),g4 _ _ (g3 _ _ s2),g4 _ _ (g3 _ _ s3),lC,lL,up sh0 (by lia)⟩)⟩
 ·rintro σ' H5 ⟨sh,c0,l0,cs,ls,o5,g5,rfl,e1,e2,e3,lc,ll',sh2⟩;refine⟨(by show 3<=ZW;decide),λz hz=>?_⟩;have gz:=aC hz (.tup [.ref wa,vn o,.ref sh]);exact q z wa sh c0 l0 ts os cs ls o _ (g03.trans (g5.trans gz)) aA ((g5.trans gz).web W3) gd fc t40 o10 (gz _ _ e1) (gz _ _ e2) (gz _ _ e3) lc ll' ho sh2
end K38
namespace L2
open PySem PySem.Spec PyProof.Rows
structure HW(M:Nat)(kvs:List (Key×V))(ds:List Nat):Prop where
 nd:ds.Nodup
 lt:∀e∈ds,e<M
 ks:kvs.map (·.1)=(ds.map λn:Nat=>(n:Int)).map Sum.inl
 vl:∀e:Nat,(e∈ds->∃v:Int,bJ kvs (Sum.inl (e:Int))=some (.int v))/\(e∉ds->bJ kvs (Sum.inl (e:Int))=none)
theorem HW.len{M:Nat}{kvs:List (Key×V)}{ds:List Nat}(h:HW M kvs ds):kvs.length=ds.length:=by
 have:=congrArg List.length h.ks;simpa using this
theorem HW.few{M:Nat}{kvs:List (Key×V)}{ds:List Nat}(h:HW M kvs ds):ds.length<=M:=MM.bE M ds h.nd h.lt
theorem EO{kvs:List (Key×V)}{k:Key}{v:V}:(k∈kvs.map (·.1)->(putK kvs k v).map (·.1)=kvs.map (·.1))/\(k∉kvs.map (·.1)->(putK kvs k v).map (·.1)=kvs.map (·.1)++[k]):=by
 unfold putK;by_cases c:(kvs.any λkv=>decide (kv.1=k))=true
 ·have m:k∈kvs.map (·.1):=by
   obtain⟨x,hx,e⟩:=List.any_eq_true.mp c;exact Zh.mpr ⟨x,hx,Yf e⟩
  rw[Yb c];refine⟨λ_=>?_,λq=>Yg m q⟩;rw[Yn];refine Yt λx _=>?_;show(if _ then _ else _:Key×V).1=x.1;split
  ·rename_i q;first | exact q.symm | exact(Yf q).symm | rfl
  ·rfl
 ·have m:¬k∈kvs.map (·.1):=λh=>c (by
   obtain⟨x,hx,e⟩:=Zh.mp h;exact List.any_eq_true.mpr ⟨x,hx,Ye e⟩)
  rw[Ya c];exact⟨λq=>Yg q m,λ_=>by rw[Zt];rfl⟩
theorem HW.put{M:Nat}{kvs:List (Key×V)}{ds:List Nat}(h:HW M kvs ds){e:Nat}(he:e<M)(c:e∉ds)(v:Int):HW M (putK kvs (Sum.inl (e:Int)) (.int v)) (ds++[e]):=by
 have ki:∀{x:Nat},((Sum.inl (x:Int):Key)=Sum.inl (e:Int))↔x=e:=λ{x}=>⟨λq=>by have:(x:Int)=(e:Int):=Sum.inl.inj q;lia,λq=>by rw[q]⟩
 have mk:(Sum.inl (e:Int):Key)∉kvs.map (·.1):=λq=>by
  rw[h.ks]at q;obtain⟨x,hx,z⟩:=Zh.mp q;obtain⟨y,hy,rfl⟩:=Zh.mp hx;exact c (ki.mp z▸hy)
 refine⟨by rw[List.nodup_append];exact⟨h.nd,by simp,λx hx y hy q=>by rw[Zb.mp hy]at q;subst q;exact c hx⟩,λx hx=>?_,by rw[EO.2 mk,h.ks,Zt,Zt];rfl,λx=>?_⟩
 ·rcases Zf.mp hx with z | z
  ·exact h.lt x z
  ·rw[Zb.mp z];exact he
 ·rw[cE];by_cases z:x=e
  ·rw[Yb (ki.mpr z)];exact⟨λ_=>⟨v,rfl⟩,λq=>Yg (by rw[z];simp) q⟩
  ·rw[Ya (λq=>z (ki.mp q))];refine⟨λq=>(h.vl x).1 ((Zf.mp q).elim id λw=>Yg (Zb.mp w) z),λq=>(h.vl x).2 λw=>q (ZO _ w)⟩
theorem HW.start{M:Nat}(hM:0<M):HW M (kK [] [(Sum.inl (0:Int),V.int 0)]) [0]:=by
 refine⟨by simp,λe he=>by rw[Zb.mp he];exact hM,rfl,λe=>?_⟩;show(_->∃v:Int,bJ (putK [] (Sum.inl (0:Int)) (V.int 0)) (Sum.inl (e:Int))=_)/\(_->bJ (putK [] (Sum.inl (0:Int)) (V.int 0)) (Sum.inl (e:Int))=none)
 rw[cE];by_cases z:e=0
 ·subst z;rw[Yb (show(Sum.inl ((0:Nat):Int):Key)=Sum.inl (0:Int) from rfl)];exact⟨λ_=>⟨0,rfl⟩,λq=>Yg (by simp) q⟩
 ·rw[Ya (λq=>z (by have:(e:Int)=(0:Int):=Sum.inl.inj q;lia))];exact⟨λq=>Yg (Zb.mp q) z,λ_=>rfl⟩
end L2
namespace K38
open PySem L2 PyProof.Rows
def OZ:Sp:=λvs H Q _=>∃(wa sa c0 l0:Addr) (n:Nat) (ts:MM.aR) (os:MM.aT) (cs ls:List Int),vs=[.ref wa,.ref sa]/\eA H wa n ts os/\MM.Good ts os/\MM.ID ts os/\ts.length<=40/\H sa=some (.tup [.ref c0,.ref l0])/\H c0=some (.lst (cs.map V.int))/\H l0=some (.lst (ls.map V.int)) /\
 cs.length=2*ts.length/\ls.length=2*ts.length /\
 ∀(r:Addr) (kvs:List (Key×V)) (ds:List Nat) (H':Hp),aJ H H'->H' r=some (.dK kvs)->HW (2*ts.length) kvs ds->(∀e,e<2*ts.length->e∈ds)->Q (.ref r) H'
theorem G4(T:Txt K mg t):Ok P w base T 41 4 OZ:=by
 left
 obtain⟨wa,sa,c0,l0,n,ts,os,cs,ls,rfl,hW,g,cn,h40,hsa,hc0,hl0,lc,ll,q⟩:=h;have hu:=sH hr;refine⟨_,(by exists 2,aL,1,3,aL,1,4,GR ?_ rfl rfl (by simp) (by decide),DG aQ aQ GN,5,bR (pv 5) (λ_=>rfl),6,xP YL PySem.F.slot_list_pop PySem.F.type_list_pop x9 (pv 5),7,lN,6,8,KU,aU,lJ hu (pv 4) (pv 6) (λ_ _=>rfl),aG,3,6,aG,3,7,9,8,aG,2,6,j7 (T.g 0),aW ?_,7,8,mZ,0,6,9,10,11,pK (rY hu (pv 10) (pv 4)),jQ hu (pv 4) (pv 10) (pv 11) rfl,5,10,4),?_⟩;have one:=g.one;refine⟨_,.ref c0,aH hsa,rfl,_,.ref l0,aH hsa,rfl,λd hd=>⟨aA,[(Sum.inl (0:Int),V.int 0)],rfl,by decide,?_⟩⟩;rw[eZ];refine⟨(by show 1<=ZW;decide),λwl hwl=>?_⟩;have hwd:wl≠d:=λz=>by rw[z,aA]at hwl;cases hwl
 have g1:=aC hd (.dK (kK [] [(Sum.inl (0:Int),V.int 0)]));have hwl0:H wl=none:=g1.free hwl;refine⟨λm σ H'=>∃(kvs:List (Key×V)) (ds ws:List Nat) (o6 o7 o8 o9 o10 o11:Option V),m=2*(2*ts.length-ds.length)+ws.length/\(∀b o,b≠d->b≠wl->H b=some o->H' b=some o)/\H' d=some (.dK kvs)/\H' wl=some (.lst (vns ws))/\HW (2*ts.length) kvs ds/\0∈ds/\(∀e∈ws,e∈ds)/\ws.length<=ds.length/\(∀e∈ds,e∉ws->MM.oth e∈ds/\MM.behind ts os e∈ds)/\σ=[some (.ref wa),some (.ref sa),some (.ref c0),some (.ref l0),some (.ref d),some (.ref wl),o6,o7,o8,o9,o10,o11],
  ⟨_,_,[0],[0],_,_,_,_,_,_,rfl,λb o h1 h2 e=>(by rw[aF h2,aF h1];exact e),(by rw[aF (Yh hwd)];exact aA),aA,HW.start (by lia),by simp,λe he=>he,ZA _,λe h1 h2=>Yg h1 h2,rfl⟩,?_⟩
 rintro m σ H2 ⟨kvs,ds,ws,o6,o7,o8,o9,o10,o11,rfl,k2,ed,ew,hd2,z0,sub,wl2,cl,rfl⟩;have fe:=hd2.few;refine⟨_,.inl ⟨_,aB ew,rfl⟩,?_⟩;rcases List.eq_nil_or_concat ws with rfl | ⟨ws',e,rfl⟩
 ·refine iFb (by rfl) (q d kvs ds H2 (λb o e=>?_) ed hd2 λe he=>?_)
  ·exact k2 b o (aI e hd) (aI e hwl0) e
  ·exact cn (λx=>x∈ds) (λx _ hx=>(cl x hx (by simp)).2) (λx _ hx=>(cl x hx (by simp)).1) 0 e (by lia) he z0
 rw[List.concat_eq_append]at ew sub wl2 cl ⊢;refine iTb (by unfold vns;simp) ⟨_,λσ' H' h=>h,?_⟩;have eds:e∈ds:=sub e (by simp);have he:=hd2.lt e eds;have ho:=MM.bF he;have hb:=g.maps.lt e he;refine⟨.inl ⟨rfl,_,aB ew⟩,_,vn e,ew,?_,?_⟩
 ·simp[vns]
 have edl:(vns (ws'++[e])).dropLast=vns ws':=by unfold vns;rw[Zt];simp
 rw[edl];have k3:∀b o,b≠d->b≠wl->H b=some o->upd H2 wl (.lst (vns ws')) b=some o:=λb o h1 h2 q=>by rw[aF h2];exact k2 b o h1 h2 q
 have ed3:upd H2 wl (.lst (vns ws')) d=some (.dK kvs):=by rw[aF (Yh hwd)];exact ed
 have ew3:upd H2 wl (.lst (vns ws')) wl=some (.lst (vns ws')):=aA;generalize upd H2 wl (.lst (vns ws'))=H3 at k3 ed3 ew3 ⊢;have K3:aJ H H3:=λb o q=>k3 b o (aI q hd) (aI q hwl0) q;refine⟨e,rfl,?_⟩;obtain⟨he0,ev0⟩:=(hd2.vl e).1 eds;have dg:eX H3 d (vn e) (some (.int he0)):=by
  have:=eX.k (k:=Sum.inl ((e:Nat):Int)) ed3;rw[ev0]at this;exact this
 refine⟨_,dg,_,_,aB (K3 _ _ hl0),aS (j:=e) (by lia) rfl,_,_,aB (K3 _ _ hl0),aS (j:=MM.oth e) (by lia) rfl,_,rfl,?_⟩;dsimp only[cJ];generalize (he0+at0 ls e-at0 ls (MM.oth e)+2)%4=bk;refine⟨_,_,aB (K3 _ _ hc0),aS (j:=e) (by lia) rfl,(by show(0:Int)<4;decide),?_⟩;dsimp only[cJ];generalize (bk-at0 cs e)%4=fw;refine⟨(by show 2<=ZW;decide),λT1 hT1=>?_⟩;have s1:=aC hT1 (.tup [vn (MM.oth e),.int bk]);refine⟨wa,n,ts,os,e,rfl,(K3.trans s1).web hW,g,he,(by show 2<=ZW;decide),λT2 hT2=>?_⟩;have s2:=aC hT2 (.tup [vn (MM.behind ts os e),.int fw]);refine⟨(by show 2<=ZW;decide),λL hL=>?_⟩;have s3:=aC hL (.lst [V.ref T1,V.ref T2]);have t1:=s3 _ _ (s2 _ _ (aA (H:=H3) (a:=T1) (o:=.tup [vn (MM.oth e),.int bk])));have t2:=s3 _ _ (aA (H:=upd H3 T1 (.tup [vn (MM.oth e),.int bk])) (a:=T2) (o:=.tup [vn (MM.behind ts os e),.int fw]));have tL:=aA (H:=upd (upd H3 T1 (.tup [vn (MM.oth e),.int bk])) T2 (.tup [vn (MM.behind ts os e),.int fw])) (a:=L) (o:=.lst [V.ref T1,V.ref T2]);have s123:=s1.trans (s2.trans s3);have nLw:L≠wl:=λz=>by rw[z,s2 _ _ (s1 _ _ ew3)]at hL;cases hL
 have nLd:L≠d:=λz=>by rw[z,s2 _ _ (s1 _ _ ed3)]at hL;cases hL
 have k4:∀b o,b≠d->b≠wl->H b=some o->upd (upd (upd H3 T1 (.tup [vn (MM.oth e),.int bk])) T2 (.tup [vn (MM.behind ts os e),.int fw])) L (.lst [V.ref T1,V.ref T2]) b=some o:=λb o h1 h2 q=>s123 _ _ (k3 b o h1 h2 q);have ed4:=s123 _ _ ed3;have ew4:=s123 _ _ ew3;generalize upd (upd (upd H3 T1 (.tup [vn (MM.oth e),.int bk])) T2 (.tup [vn (MM.behind ts os e),.int fw])) L (.lst [V.ref T1,V.ref T2])=H4 at t1 t2 tL k4 ed4 ew4 ⊢;clear s1 s2 s3 s123 hT1 hT2 hL K3 k3 ed3 ew3 dg;refine⟨⟨_,aB tL⟩,cV (a:=L) (xs:=[V.ref T1,V.ref T2]) (λj σ H'=>∃(kvs':List (Key×V)) (ds' ws2:List Nat) (o10 o11:Option V),(∀b o,b≠d->b≠wl->(H b=some o\/H4 b=some o)->H' b=some o)/\H' d=some (.dK kvs')/\H' wl=some (.lst (vns ws2))/\HW (2*ts.length) kvs' ds'/\(∀x∈ds,x∈ds')/\(∀x∈ws2,x∈ds')/\ws2.length<=ds'.length/\2*(2*ts.length-ds'.length)+ws2.length<=2*(2*ts.length-ds.length)+ws'.length/\(0<j->MM.oth e∈ds')/\(1<j->MM.behind ts os e∈ds')/\(∀x∈ds',x∉ws2->x=e\/(MM.oth x∈ds'/\MM.behind ts os x∈ds'))/\σ=[some (.ref wa),some (.ref sa),some (.ref c0),some (.ref l0),some (.ref d),some (.ref wl),some (vn e),some (vn (MM.oth e)),some (.int bk),some (.int fw),o10,o11])
  ⟨kvs,ds,ws',_,_,λb o h1 h2 q=>q.elim (k4 b o h1 h2) id,ed4,ew4,hd2,λx hx=>hx,λx hx=>sub x (ZO _ hx),by rw[Zm]at wl2;simp at wl2;lia,ZA _,λz=>Yg z (YW _),λz=>by lia,λx hx hn=>?_,rfl⟩ (λj σ H' _ hh=>by obtain⟨_,_,_,_,_,k,_⟩:=hh;exact aB (k L _ nLd nLw (.inr tL))) ?_ ?_⟩
 ·by_cases z:x=e
  ·exact .inl z
  ·exact .inr (cl x hx (λq=>(Zf.mp q).elim hn λw=>z (Zb.mp w)))
 ·rintro j x σ H5 hx ⟨kvs',ds',ws2,o10,o11,k5,ed5,ew5,hd5,up5,sub5,BH,m5,p1,p2,cl5,rfl⟩;have few5:=hd5.few;have nT:∀{T:Addr}{xs:List V},H4 T=some (.tup xs)->T≠d/\T≠wl:=λ{T xs} q=>⟨(λz=>by rw[z,ed4]at q;cases q),(λz=>by rw[z,ew4]at q;cases q)⟩
  obtain⟨Tj,nb,hv,rfl,tT,hnb,hj⟩:∃(Tj:Addr) (nb:Nat) (hv:Int),x=.ref Tj/\H4 Tj=some (.tup [vn nb,.int hv])/\nb<2*ts.length/\((j=0/\nb=MM.oth e)\/(j=1/\nb=MM.behind ts os e)):=by
   match j,hx with
   |0,hx=>exact⟨T1,_,_,(Option.some.inj hx).symm,t1,ho,.inl ⟨rfl,rfl⟩⟩
   |1,hx=>exact⟨T2,_,_,(Option.some.inj hx).symm,t2,hb,.inr ⟨rfl,rfl⟩⟩
  have tT5:=k5 Tj _ (nT tT).1 (nT tT).2 (.inr tT);refine⟨_,aH tT5,rfl,?_⟩;have dg:=eX.k (k:=Sum.inl ((nb:Nat):Int)) ed5;by_cases c:nb∈ds'
  ·obtain⟨hv2,ev2⟩:=(hd5.vl nb).1 c;rw[ev2]at dg;refine⟨_,dg,iFb (by rfl) ⟨kvs',ds',ws2,_,_,k5,ed5,ew5,hd5,up5,sub5,BH,m5,λz=>?_,λz=>?_,cl5,rfl⟩⟩
   ·rcases hj with⟨rfl,rfl⟩ | ⟨rfl,rfl⟩
    ·exact c
    ·exact p1 (by lia)
   ·rcases hj with⟨rfl,rfl⟩ | ⟨rfl,rfl⟩
    ·lia
    ·exact c
  ·rw[(hd5.vl nb).2 c]at dg;have hd6:=hd5.put hnb c hv;have few6:=hd6.few;rw[Zm,ZQ]at few6;have hl5:=hd5.len;refine⟨_,dg,iTb (by rfl) ⟨_,j6.k (k:=Sum.inl ((nb:Nat):Int)) ed5 (by rw[hl5];exact Xj (by lia:_<=1000) (by decide)),?_⟩⟩;have ew6:upd H5 d (.dK (putK kvs' (Sum.inl ((nb:Nat):Int)) (.int hv))) wl=some (.lst (vns ws2)):=by rw[aF hwd];exact ew5
   refine⟨.inl ⟨rfl,_,aB ew6⟩,_,ew6,Xj (by rw[Zq];lia:_<=1000) (by decide),?_⟩;refine⟨_,ds'++[nb],ws2++[nb],_,_,λb o h1 h2 q=>by rw[aF h2,aF h1];exact k5 b o h1 h2 q,by rw[aF (Yh hwd)];exact aA,by rw[aA];unfold vns;rw[Zt];rfl,hd6,λx hx=>ZO _ (up5 x hx),λx hx=>?_,by rw[Zm,Zm];simp;exact BH,by rw[Zm,Zm,ZQ];lia,λz=>?_,λz=>?_,λx hx hn=>?_,rfl⟩
   ·rcases Zf.mp hx with z | z
    ·exact ZO _ (sub5 x z)
    ·exact ZN _ z
   ·rcases hj with⟨rfl,rfl⟩ | ⟨rfl,rfl⟩
    ·simp
    ·exact ZO _ (p1 (by lia))
   ·rcases hj with⟨rfl,rfl⟩ | ⟨rfl,rfl⟩
    ·lia
    ·simp
   ·have xn:x≠nb:=λz=>hn (by rw[z];simp);have xd:x∈ds':=by
     rcases Zf.mp hx with z | z
     ·exact z
     ·exact Yg (Zb.mp z) xn
    rcases cl5 x xd (λz=>hn (ZO _ z)) with z | ⟨z1,z2⟩
    ·exact .inl z
    ·exact .inr ⟨ZO _ z1,ZO _ z2⟩
 ·rintro σ H5 ⟨kvs',ds',ws2,o10,o11,k5,ed5,ew5,hd5,up5,sub5,BH,m5,p1,p2,cl5,rfl⟩;refine⟨_,?_,kvs',ds',ws2,_,_,_,_,_,_,rfl,λb o h1 h2 q=>k5 b o h1 h2 (.inl q),ed5,ew5,hd5,up5 _ z0,sub5,BH,λx hx hn=>?_,rfl⟩
  ·rw[Zm,ZQ];lia
  ·rcases cl5 x hx hn with z | z
   ·rw[z];exact⟨p1 (by show 0<2;decide),p2 (by show 1<2;decide)⟩
   ·exact z
end K38
namespace L2
open PySem PySem.Spec PyProof.Rows
def hAt(f:Int)(qs:List Int):Nat->Int
 |0=>f
 |j+1=>(hAt f qs j+at0 qs j)%4
def qsP(a b:Nat):List Int:=ZF a 1++ZF b (-1)
def hL(f:Int)(a b:Nat):List Int:=(ZR (a+b+1)).map (hAt f (qsP a b))
theorem LW(f:Int)(a b:Nat):(hL f a b).length=a+b+1:=by unfold hL;rw[Zq,Yj]
theorem map_const{n:Nat}(x:Int):(ZR n).map (λ_=>V.int x)=(ZF n x).map V.int:=by
 apply YQ;intro i;by_cases h:i<n
 ·simp[h]
 ·simp[h]
theorem EI(n:Nat)(g:Nat->Int):((ZR (n+1)).map g).map V.int=((ZR n).map g).map V.int++[V.int (g n)]:=by rw[ZH,Zt,Zt];rfl
end L2
namespace K38
open PySem L2 PyProof.Rows
def OT:Sp:=λvs H Q _=>∃(f a b:Int),vs=[.int f,.int a,.int b]/\0<=a/\a<=2000/\0<=b/\b<=2000/\∀(r:Addr) (H':Hp),H r=none->aJ H H'->H' r=some (.lst ((hL f a.toNat b.toNat).map V.int))->Q (.ref r) H'
theorem D5(T:Txt K mg t):Ok P w base T 42 1 OT:=by
 left
 obtain⟨f,a,b,rfl,a0,a1,b0,b1,q⟩:=h;refine⟨_,(by exists 3,0,4,3,aW ?_,hZ,(eK ["left"] [none]),1,0,(eK ["right"] [none]),2,0,5,3,aU,3,5,j7 (T.g 0),4,3,4),?_⟩;refine⟨(by show 1<=ZW;decide),λL hL0=>?_⟩;have g1:=aC hL0 (.lst [V.int f]);have eL:=aA (H:=H) (a:=L) (o:=.lst [V.int f]);generalize upd H L (.lst [V.int f])=H1 at g1 eL ⊢;refine⟨_,rfl,by lia,by lia,λD1 hD1=>bH a.toNat (λ_=>.int 1) hD1 (by lia) (λi H' hi _=>hi) (λH' _=>ZA _) ?_ ?_⟩
 ·rintro i H' x H'' k hi g' ⟨rfl,rfl⟩ hk;exact⟨(Fills.refl _).set _ rfl,hk _ (aJ.refl _)⟩
 intro H2 g2 e1;refine⟨_,rfl,by lia,by lia,λD2 hD2=>bH b.toNat (λ_=>.int (-1)) hD2 (by lia) (λi H' hi _=>hi) (λH' _=>ZA _) ?_ ?_⟩
 ·rintro i H' x H'' k hi g' ⟨rfl,rfl⟩ hk;exact⟨(Fills.refl _).set _ rfl,hk _ (aJ.refl _)⟩
 intro H3 g3 e2;rw[map_const]at e1 e2;have lz:(List.map V.int (ZF a.toNat (1:Int))).length+(List.map V.int (ZF b.toNat (-1:Int))).length=a.toNat+b.toNat:=by simp
 refine⟨_,_,g3 _ _ e1,e2,(by rw[lz];exact Xz (by lia:_<=5000) (by decide)),λp hp=>?_⟩;rw[<-Zt];have g4:=aC hp (.lst ((qsP a.toNat b.toNat).map V.int));have e4:=aA (H:=H3) (a:=p) (o:=.lst ((qsP a.toNat b.toNat).map V.int));have eL4:=g4 _ _ (g3 _ _ (g2 _ _ eL));have npL:p≠L:=λz=>by rw[z,g3 _ _ (g2 _ _ eL)]at hp;cases hp
 have K4:=g1.trans (g2.trans (g3.trans g4));have ql:(qsP a.toNat b.toNat).length=a.toNat+b.toNat:=by unfold qsP;simp
 generalize e5:upd H3 p (.lst ((qsP a.toNat b.toNat).map V.int))=H4 at e4 eL4 K4;refine⟨⟨_,aB (by rw[<-e5]at e4;exact e4)⟩,cV (a:=p) (xs:=(qsP a.toNat b.toNat).map V.int) (λj σ H'=>∃(o5:Option V),(∀b o,b≠L->(H b=some o\/H4 b=some o)->H' b=some o)/\H' L=some (.lst (((ZR (j+1)).map (hAt f (qsP a.toNat b.toNat))).map V.int))/\σ=[some (.int f),some (.int a),some (.int b),some (.int (hAt f (qsP a.toNat b.toNat) j)),some (.ref L),o5])
  ⟨_,λb o h1 z=>z.elim (λz=>e5▸K4 _ _ z) (λz=>e5▸z),(show upd H3 p (.lst ((qsP a.toNat b.toNat).map V.int)) L=_ by rw[e5];exact eL4),rfl⟩ (λj σ H' _ hh=>by obtain⟨_,k,_⟩:=hh;exact aB (k p _ npL (.inr e4))) ?_ ?_⟩
 ·rintro j x σ H5 hx ⟨o5,k5,eL5,rfl⟩;have hj:j<a.toNat+b.toNat:=by
   rw[<-ql];have:=(Zj.mp hx).1;simpa using this
  have hx':=(iW (by rw[ql];exact hj)).symm.trans hx;cases hx';refine⟨(by show(0:Int)<4;decide),?_⟩;refine⟨.inl ⟨rfl,_,aB eL5⟩,_,eL5,eV (by rw[Zq,Zq,Yj];lia),?_⟩;refine⟨_,λb o h1 z=>(by rw[aF h1];exact k5 b o h1 z),?_,rfl⟩;rw[aA,EI (j+1)];rfl
 ·rintro σ H5 ⟨o5,k5,eL5,rfl⟩;refine(q L H5 hL0 (λb o z=>k5 b o (aI z hL0) (.inl z)) ?_);rw[eL5,Zq,ql];rfl
end K38
namespace AW
open MM
theorem MC{ts:aR}{os:aT}(g:Good ts os)(w:nS os.length (cT ts)):ID ts os:=by
 intro S hb ho x y hx hy sx;have round:∀{e e'},e<2*ts.length->e' < 2*ts.length->place ts e=place ts e'->S e->S e':=λ{e e'} he he' hp se=>by
  have m1:=(g.g.has e he).2;have m2:=(g.g.has e' he').2;rw[<-hp]at m2;refine TU.cyc (g.g.nd _) (λw hw sw=>?_) m1 m2 se;obtain⟨w1,w2⟩:=g.g.ends _ _ hw;have:=hb _ (bF w1) (ho w w1 sw);unfold behind at this;rw[dF,w2]at this;exact this
 have tie:∀{t:Int×Int},t∈cT ts->((∃e,e<2*ts.length/\(place ts e:Int)=t.1/\S e)↔∃e,e<2*ts.length/\(place ts e:Int)=t.2/\S e):=λ{t} ht=>by
  obtain⟨u,hu,rfl⟩:=Zh.mp ht;obtain⟨k,hk,rfl⟩:=Yd.mp hu;have p0:place ts (2*k)=ts[k].1:=by
   unfold place;rw[show 2*k / 2=k by lia,show 2*k%2=0 by lia,Zv,Zz hk];rfl
  have p1:place ts (2*k+1)=ts[k].2:=by
   unfold place;rw[show(2*k+1) / 2=k by lia,show(2*k+1)%2=1 by lia,Zv,Zz hk];rfl
  constructor
  ·rintro⟨e,he,ep,se⟩;have ep:place ts e=ts[k].1:=Int.ofNat.inj ep;have s1:=round he (show 2*k<2*ts.length by lia) (by rw[ep,p0]) se;have s2:=ho _ (by lia) s1;rw[PD]at s2;exact⟨2*k+1,by lia,by rw[p1],s2⟩
  ·rintro⟨e,he,ep,se⟩;have ep:place ts e=ts[k].2:=Int.ofNat.inj ep;have s1:=round he (show 2*k+1<2*ts.length by lia) (by rw[ep,p1]) se;have s2:=ho _ (by lia) s1;rw[PB]at s2;exact⟨2*k,by lia,by rw[p0],s2⟩
 have key:∀{p:Int},Rch (cT ts) p->((∃e,e<2*ts.length/\(place ts e:Int)=p/\S e)↔∃e,e<2*ts.length/\(place ts e:Int)=0/\S e):=λ{p} r=>by
  induction r with
  |zero=>exact Iff.rfl
  |fwd ht _ ih=>exact(tie ht).symm.trans ih
  |bwd ht _ ih=>exact(tie ht).trans ih
 have q:∀e,e<2*ts.length->Rch (cT ts) (place ts e:Int):=λe he=>w _ (Int.natCast_nonneg _) (Int.ofNat_lt.mpr (g.g.has e he).1);obtain⟨e,he,ep,se⟩:=(key (q y hy)).mpr ((key (q x hx)).mp ⟨x,hx,rfl,sx⟩);exact round he hy (Int.ofNat.inj ep) se
end AW
namespace L2
open PySem PyProof.Rows
structure L3(H H':Hp)(ta ha oa:Addr)(i j l:Nat):Prop where
 g:aJ H H'
 t:∃xs:List V,H' ta=some (.lst xs)/\xs.length<=5000*i
 h:∃xs:List V,H' ha=some (.lst xs)/\xs.length<=5000*j
 o:∃xs:List V,H' oa=some (.lst xs)/\xs.length<=5000*l
theorem L3.same{H H' H2:Hp}{ta ha oa:Addr}{i j l:Nat}(p:L3 H H' ta ha oa i j l)(g:aJ H' H2):L3 H H2 ta ha oa i j l :=
 ⟨p.g.trans g,let⟨x,a,b⟩:=p.t;⟨x,g _ _ a,b⟩,let⟨x,a,b⟩:=p.h;⟨x,g _ _ a,b⟩,let⟨x,a,b⟩:=p.o;⟨x,g _ _ a,b⟩⟩
structure N3(H:Hp)(ta ha oa:Addr):Prop where
 t:H ta=none
 h:H ha=none
 o:H oa=none
 th:ta≠ha
 to:ta≠oa
 ho:ha≠oa
section
variable{H H':Hp}{ta ha oa:Addr}{i j l:Nat}{xs ys:List V}
theorem L3.extT(p:L3 H H' ta ha oa i j l)(n:N3 H ta ha oa)(hx:xs.length<=5000*i)(hy:ys.length<=5000):L3 H (upd H' ta (.lst (xs++ys))) ta ha oa (i+1) j l :=
 ⟨p.g.fresh n.t _,⟨_,aA,by rw[Zm];lia⟩,let⟨x,a,b⟩:=p.h;⟨x,by rw[aF (Yh n.th)];exact a,b⟩,let⟨x,a,b⟩:=p.o;⟨x,by rw[aF (Yh n.to)];exact a,b⟩⟩
theorem L3.extH(p:L3 H H' ta ha oa i j l)(n:N3 H ta ha oa)(hx:xs.length<=5000*j)(hy:ys.length<=5000):L3 H (upd H' ha (.lst (xs++ys))) ta ha oa i (j+1) l :=
 ⟨p.g.fresh n.h _,let⟨x,a,b⟩:=p.t;⟨x,by rw[aF n.th];exact a,b⟩,⟨_,aA,by rw[Zm];lia⟩,let⟨x,a,b⟩:=p.o;⟨x,by rw[aF (Yh n.ho)];exact a,b⟩⟩
theorem L3.extO(p:L3 H H' ta ha oa i j l)(n:N3 H ta ha oa)(hx:xs.length<=5000*l)(hy:ys.length<=5000):L3 H (upd H' oa (.lst (xs++ys))) ta ha oa i j (l+1) :=
 ⟨p.g.fresh n.o _,let⟨x,a,b⟩:=p.t;⟨x,by rw[aF n.to];exact a,b⟩,let⟨x,a,b⟩:=p.h;⟨x,by rw[aF n.ho];exact a,b⟩,⟨_,aA,by rw[Zm];lia⟩⟩
end
end L2
namespace K38
open PySem L2 PyProof.Rows
def OV:Sp:=λvs H _ E=>∃(wa:Addr) (m o:Int) (v:V) (ts:AW.Ts) (os:AW.Os),vs=[.ref wa,.int o,v]/\iG H wa m ts os/\ts.length<=1000/\¬AW.hJ m ts os/\∀x H',aJ H H'->E (.ref x) none H'
def OX:Sp:=λvs H _ E=>∃(wa:Addr) (o:Int) (v:V) (tn:MM.aR) (on:MM.aT),vs=[.ref wa,.int o,v]/\Mp H wa tn on/\¬MM.Flat tn on/\∀x H',aJ H H'->E (.ref x) none H'
def OW:Sp:=λvs H _ E=>∃(wa:Addr) (o:Int) (v:V) (tn:MM.aR) (on:MM.aT),vs=[.ref wa,.int o,v]/\Mp H wa tn on/\MM.Flat tn on/\¬(0<=o/\o<nL tn on)/\∀x H',aJ H H'->E (.ref x) none H'
theorem KY(T:Txt K mg t):OkX P w base T (t.c 1) 40 6 OV:=by
 left
 obtain⟨wa,m,o,v,ts,os,rfl,hW,hl,hB,q⟩:=h;exact⟨_,(aM (bK (cM (K9 T) hr (T.f 32) rZ (aE (pv 0) (aE (pv 1) aK)))) cX),wa,m,o,ts,os,rfl,hW,hl,hB,q⟩
theorem K0(T:Txt K mg t):OkX P w base T (t.c 2) 40 9 OX:=by
 left
 obtain⟨wa,o,v,tn,on,rfl,hM,hF,q⟩:=h;exact⟨_,(aM (bK (cM (LB T) hr (T.f 32) rZ (aE (pv 0) (aE (pv 1) aK)))) cX),wa,o,tn,on,rfl,hM,hF,q⟩
theorem KZ(T:Txt K mg t):OkX P w base T (t.c 3) 40 9 OW:=by
 left
 obtain⟨wa,o,v,tn,on,rfl,hM,hF,ho,q⟩:=h;exact⟨_,(aM (bK (cM (LA T) hr (T.f 32) rZ (aE (pv 0) (aE (pv 1) aK)))) cX),wa,o,tn,on,rfl,hM,hF,ho,q⟩
def OU:Sp:=λvs H _ E=>∃(wa sa c0 l0:Addr) (o:Nat) (ts:MM.aR) (os:MM.aT) (cs ls:List Int),vs=[.ref wa,vn o,.ref sa]/\Mp H wa ts os/\MM.Flat ts os/\o<nL ts os/\ts.length<=40/\os.length<=40/\H sa=some (.tup [.ref c0,.ref l0])/\H c0=some (.lst (cs.map V.int))/\H l0=some (.lst (ls.map V.int))/\MM.shB ts os o cs ls=false/\∀x H',aJ H H'->E (.ref x) none H'
theorem KW(T:Txt K mg t):OkX P w base T (t.c 5) 40 9 OU:=by
 left
 obtain⟨wa,sa,c0,l0,o,ts,os,cs,ls,rfl,hM,hF,ho,t40,o40,hsa,hc0,hl0,hB,q⟩:=h;refine⟨_,(aM (bK (cM (D8 T) hr (T.f 32) bW (aE (pv 0) (aE (pv 1) aK))))
  (aM (pL (pI (bR (cM (pS T) hr (T.f 34) bW (aE (pv 0) (aE (pv 1) (aE (pv 2) aK)))) (λ_=>rfl))) (bX (fI (T.e 5).xi YK (T.m 5))) iK) cX)),?_⟩
 refine⟨wa,_,ts,os,rfl,hM,hF,Int.natCast_nonneg _,Int.ofNat_lt.mpr ho,λH1 g1=>?_⟩;refine⟨wa,sa,c0,l0,o,ts,os,cs,ls,rfl,hU (hM.w.same g1),hM.g,t40,o40,g1 _ _ hsa,g1 _ _ hc0,g1 _ _ hl0,λH2 g2=>⟨_,rfl,iTb (by rw[hB];rfl) λx=>q x _ (g1.trans g2)⟩⟩
def M5:Sp:=λvs H Q _=>∃(wa sa c0 l0:Addr) (o:Nat) (ts:MM.aR) (os:MM.aT) (cs ls:List Int),vs=[.ref wa,vn o,.ref sa]/\Mp H wa ts os/\MM.Flat ts os/\o<nL ts os/\ts.length<=40/\os.length<=40/\H sa=some (.tup [.ref c0,.ref l0])/\H c0=some (.lst (cs.map V.int))/\H l0=some (.lst (ls.map V.int))/\MM.shB ts os o cs ls=true/\(∀e,at0 ls e<=2000)/\∀v H',aJ H H'->Q v H'
theorem K1(T:Txt K mg t):Ok P w base T 40 9 M5:=by
 left
 obtain⟨wa,sa,c0,l0,o,ts,os,cs,ls,rfl,hM,hF,ho,t40,o40,hsa,hc0,hl0,hB,hb,q⟩:=h;have hu:=sH hr;have nd_piece_number:(["piece","number"]:List Str).Nodup:=by decide
 refine⟨_,(aM (bK (cM (D8 T) hr (T.f 32) bW (aE (pv 0) (aE (pv 1) aK))))
  (aM (pL (pI (bR (cM (pS T) hr (T.f 34) bW (aE (pv 0) (aE (pv 1) (aE (pv 2) aK)))) (λ_=>rfl))) cX iK)
  (aM (cS 3 nd (cU aL (pv 0) aQ (λ_ _=>rfl)))
  (aM (cS 4 nd (cM (G4 T) hr (T.f 41) bW (aE (pv 0) (aE (pv 2) aK))))
  (aM (cS 5 nd (fO aK))
  (aM (cS 6 nd (fO aK))
  (aM (cS 7 nd (fO aK))
  (aM (mU PassesOwn.never rfl (iM rfl (T.z 1) (aE (cU aL (pv 0) aQ (λ_ _=>rfl)) aK)) (uW (dP (bZ (i:=8) nd rfl (Or.inr rfl)) (dP (bZ (i:=9) nd rfl (Or.inl rfl)) lF))) (aM (cS 10 nd (cU aG (cU aL (pv 2) aQ (λ_ _=>rfl)) (bQ tN aQ (pv 8)) (λ_ _=>rfl)))
  (aM (cS 11 nd (cM (D5 T) hr (T.f 42) bW (aE (lJ hu (pv 4) (bQ tN aQ (pv 8)) (λ_ _=>rfl)) (aE (pv 10) (aE (cU aG (cU aL (pv 2) aQ (λ_ _=>rfl)) (bQ aU (bQ tN aQ (pv 8)) aQ) (λ_ _=>rfl)) aK)))))
  (aM (cS 12 nd (bQ tM (bQ aU (pv 3) (aP b9 rfl (T.z 4) PySem.boot_len (aE (pv 11) aK))) aQ))
  (aM (cS 13 nd (bQ hZ (bQ hZ (fO (aE (cU aL (pv 9) aQ (λ_ _=>rfl)) aK)) (a9 (qP rfl) rfl (T.z 5) boot_list (aE (a9 vY rfl (T.z 8) boot_range (aE (pv 3) (aE (pv 12) aK))) aK))) (fO (aE (cU aL (pv 9) aQ (λ_ _=>rfl)) aK))))
  (aM (bK (fS YL PySem.F.slot_list_extend PySem.F.type_list_extend m8 (pv 5) (aE (xO rfl rfl (T.z 5) rfl (T.z 11) (aE (pv 13) (aE (iA jP (pv 13) (iL aQ) gX) aK))) aK)))
  (aM (bK (fS YL PySem.F.slot_list_extend PySem.F.type_list_extend m8 (pv 6) (aE (pv 11) aK)))
  (aM (bK (fS YL PySem.F.slot_list_extend PySem.F.type_list_extend m8 (pv 7) (aE (lK (N':=["piece","number"]) (js:=[none,some 8]) rfl (aW (pv 11)) (λ_ _ _ _ _=>(bZ (i:=0) nd_piece_number rfl (Or.inl rfl))) (λ_ _ _ _ _=>mW) (λ_ _ _ _ _=>(pv 1))) aK)))
  (bX (cS 3 nd (pv 12)))))))))))
  (bX (xH (dH (aE (dH (aE (pv 3) (aE (pv 5) (aE (pv 6) aK)))) (aE (pv 7) aK))))))))))))),?_⟩
 have g:=hM.g;have isS:MM.sQ ts os o cs ls:=by
  have z:=hB;unfold MM.shB at z;simp only[decide_eq_true_eq]at z;exact z
 have lc:=isS.1;have ll:=isS.2.1;have hB0:∀e,0<=at0 ls e:=λe=>by
  unfold at0;rw[Zv];by_cases c:e<ls.length
  ·rw[Zz c];exact isS.2.2.2.1 _ (Zp c)
  ·rw[Zr (by lia)];exact Int.le_refl _
 have cn:=AW.MC g hM.m.2.2.2.2;obtain⟨tA,oA,hw,hts,hos⟩:=hU hM.w;refine⟨wa,_,ts,os,rfl,hM,hF,Int.natCast_nonneg _,Int.ofNat_lt.mpr ho,λH1 g1=>?_⟩;refine⟨wa,sa,c0,l0,o,ts,os,cs,ls,rfl,hU (hM.w.same g1),g,t40,o40,g1 _ _ hsa,g1 _ _ hc0,g1 _ _ hl0,λH2 g2=>?_⟩;have g02:=g1.trans g2;refine⟨_,rfl,iFb (by rw[hB];rfl) ?_⟩;refine⟨_,_,aH (g02 _ _ hw),rfl,?_⟩;refine⟨wa,sa,c0,l0,os.length,ts,os,cs,ls,rfl,hU (hM.w.same g02),g,cn,t40,g02 _ _ hsa,g02 _ _ hc0,g02 _ _ hl0,lc,ll,λd kvs ds H3 g3 hd1 hd2 al=>?_⟩;have g03:=g02.trans g3;refine⟨(by show 0<=ZW;decide),λta hta=>⟨(by show 0<=ZW;decide),λha hha=>⟨(by show 0<=ZW;decide),λoa hoa=>?_⟩⟩⟩;have s1:=aC hta (.lst []);have s2:=aC hha (.lst []);have s3:=aC hoa (.lst []);have nw:N3 H3 ta ha oa:=⟨hta,s1.free hha,s1.free (s2.free hoa),aI aA hha,aI (s2 _ _ aA) hoa,aI aA hoa⟩
 have p0:L3 H3 (upd (upd (upd H3 ta (.lst [])) ha (.lst [])) oa (.lst [])) ta ha oa 0 0 0:=⟨s1.trans (s2.trans s3),⟨[],s3 _ _ (s2 _ _ aA),ZA _⟩,⟨[],s3 _ _ aA,ZA _⟩,⟨[],aA,ZA _⟩⟩
 generalize upd (upd (upd H3 ta (.lst [])) ha (.lst [])) oa (.lst [])=H4 at p0 ⊢;clear s1 s2 s3;obtain⟨tr,tr1,tr2,tr3⟩:=id (g03.ts hts);refine⟨_,_,aH (p0.g _ _ (g03 _ _ hw)),rfl,tA,rfl,⟨_,aB (p0.g _ _ tr1)⟩,gJ (a:=tA) (xs:=tr.map V.ref) (λk σ H'=>∃(mm:Nat) (o8 o9 o10 o11 o12 o13:Option V),L3 H3 H' ta ha oa k k k/\mm<=40+4000*k/\σ=[some (.ref wa),some (vn o),some (.ref sa),some (vn mm),some (.ref d),some (.ref ta),some (.ref ha),some (.ref oa),o8,o9,o10,o11,o12,o13])
  ⟨os.length,_,_,_,_,_,_,p0,by lia,rfl⟩ (λk σ H' _ hh=>by obtain⟨_,_,_,_,_,_,_,p,_⟩:=hh;exact aB (p.g _ _ tr1)) ?_ ?_⟩
 ·rintro k x σ H5 Tp hx ⟨mm,o8,o9,o10,o11,o12,o13,p5,hmm,rfl⟩ hTp;have hk:k<ts.length:=by
   rw[<-tr2];have:=(Zj.mp hx).1;simpa using this
  obtain⟨r,q1,q2⟩:=tr3 k _ (Zz hk);rw[Zk,q1]at hx;cases hx;have gT:=aC hTp (.tup [vn k,V.ref r]);refine⟨_,aH aA,rfl,?_⟩;have p6:=p5.same gT;generalize upd H5 Tp (.tup [vn k,V.ref r])=H6 at p6 ⊢;clear gT p5;generalize ts[k]=tk at q2;have cm:IE 2 (k:Int):=.inl (by decide);have ez:(2*(k:Int))=((2*k:Nat):Int):=by lia
  obtain⟨hv,ehv⟩:=(hd2.vl (2*k)).1 (al _ (by lia));have dg:eX H6 d (.int (2*(k:Int))) (some (.int hv)):=by
   have:=eX.k (k:=Sum.inl ((2*k:Nat):Int)) (p6.g _ _ hd1);rw[ehv]at this;rw[ez];exact this
  have a1:=hB0 (2*k);have a2:=hb (2*k);have a3:=hB0 (2*k+1);have a4:=hb (2*k+1);have hsa6:=p6.g _ _ (g03 _ _ hsa);have hl6:=p6.g _ _ (g03 _ _ hl0);refine⟨_,_,aH hsa6,rfl,cm,_,_,aB hl6,aS (j:=2*k) (by lia) ez,?_⟩;refine⟨cm,_,dg,_,_,aH hsa6,rfl,cm,_,_,aB hl6,aS (j:=2*k+1) (by lia) (by lia),_,_,_,rfl,a1,by lia,a3,by lia,λpc H7 hpc g7 epc=>?_⟩;have p7:=p6.same g7;obtain⟨nq,hlp,hnq⟩:∃nq:Nat,((hL hv (at0 ls (2*k)).toNat (at0 ls (2*k+1)).toNat).map V.int).length=nq+1/\nq<=4000:=⟨_,by rw[Zq,LW],by lia⟩
  generalize (hL hv (at0 ls (2*k)).toNat (at0 ls (2*k+1)).toNat).map V.int=pcs at epc hlp;obtain⟨_,t6,_⟩:=p6.t;obtain⟨_,h6,_⟩:=p6.h;obtain⟨_,o6,_⟩:=p6.o;have nt:pc≠ta:=λz=>by rw[z,t6]at hpc;cases hpc
  have nh:pc≠ha:=λz=>by rw[z,h6]at hpc;cases hpc
  refine⟨pc,_,rfl,.inl (aB epc),?_⟩;have ea:((mm:Nat):Int)+(pcs.length:Int)-1=((mm+nq:Nat):Int):=by rw[hlp];lia
  conv=>whnf
  dsimp only;rw[ea];have hr7:=p7.g _ _ q2;refine⟨_,_,aH hr7,rfl,(by show 1<=ZW;decide),λL1 hL1=>?_⟩;have s1:=aC hL1 (.lst [vn tk.1]);have e1:=aA (H:=H7) (a:=L1) (o:=.lst [vn tk.1]);have p8:=p7.same s1;have epc8:=s1 _ _ epc;have hr8:=s1 _ _ hr7;generalize upd H7 L1 (.lst [vn tk.1])=H8 at p8 e1 epc8 hr8 ⊢;refine⟨_,_,rfl,λpr hpr=>?_⟩;have s2:=aC hpr (.rng ((mm:Nat):Int) ((mm+nq:Nat):Int));have er:((mm+nq:Nat):Int)=((mm:Nat):Int)+((nq:Nat):Int):=by lia
  refine⟨pr,mm,nq,rfl,(by rw[aA,er]),by lia,by lia,λL2 hL2=>?_⟩;have s3:=aC hL2 (.lst (vns ((ZR nq).map (mm+·))));have e2:=aA (H:=upd H8 pr (.rng ((mm:Nat):Int) ((mm+nq:Nat):Int))) (a:=L2) (o:=.lst (vns ((ZR nq).map (mm+·))));have s23:=s2.trans s3;generalize upd (upd H8 pr (.rng ((mm:Nat):Int) ((mm+nq:Nat):Int))) L2 (.lst (vns ((ZR nq).map (mm+·))))=H9 at e2 s23 ⊢;have lv:(vns ((ZR nq).map (mm+·))).length=nq:=by unfold vns;simp
  generalize vns ((ZR nq).map (mm+·))=ws at e2 lv;refine⟨_,_,s23 _ _ e1,e2,(by rw[lv];exact Xz (by show 1+_<=5000;lia) (by decide)),λL3 hL3=>?_⟩;have s4:=aC hL3 (.lst ([vn tk.1]++ws));have e3:=aA (H:=H9) (a:=L3) (o:=.lst ([vn tk.1]++ws));have p10:=p8.same (s23.trans s4);have epc10:=(s23.trans s4) _ _ epc8;have hr10:=(s23.trans s4) _ _ hr8;generalize upd H9 L3 (.lst ([vn tk.1]++ws))=H10 at e3 p10 epc10 hr10 ⊢;refine⟨_,_,aH hr10,rfl,(by show 1<=ZW;decide),λL4 hL4=>?_⟩;have s5:=aC hL4 (.lst [vn tk.2]);refine⟨_,_,s5 _ _ e3,aA,(by rw[Zm,lv];exact Xz (by show 1+_+1<=5000;lia) (by decide)),λL5 hL5=>?_⟩;have lst:([vn tk.1]++ws++[vn tk.2]).length=nq+2:=by rw[Zm,Zm,lv];show 1+nq+1=_;lia
  generalize [vn tk.1]++ws++[vn tk.2]=stops at lst ⊢;have s6:=aC hL5 (.lst stops);have e5:=aA (H:=upd H10 L4 (.lst [vn tk.2])) (a:=L5) (o:=.lst stops);have p11:=p10.same (s5.trans s6);have epc11:=(s5.trans s6) _ _ epc10;generalize upd (upd H10 L4 (.lst [vn tk.2])) L5 (.lst stops)=H11 at e5 p11 epc11 ⊢;obtain⟨x11,tx11,tl11⟩:=p11.t;refine⟨.inl ⟨rfl,_,aB tx11⟩,_,aB e5,λL6 hL6=>?_⟩;have s7:=aC hL6 (.lst (gM stops (some 1) none));refine⟨L5,L6,_,_,rfl,aB (s7 _ _ e5),aB aA,λrz tz hrz lz=>?_⟩;have g12:=aC hrz (.lst (tz.map V.ref));generalize hH12:upd _ rz (HO.lst (tz.map V.ref))=H12 at g12 ⊢;have erz:H12 rz=some (.lst (tz.map V.ref)):=by rw[<-hH12];exact aA
  have p12:=p11.same (s7.trans g12);have epc12:=(s7.trans g12) _ _ epc11;have tx12:=(s7.trans g12) _ _ tx11;have lz2:tz.length<=5000:=by
   have:=nQ stops (some 1) none
   lia
  refine⟨rz,_,_,rfl,tx12,erz,Xz (by rw[Zq];lia:_<=300000) (by decide),?_⟩;have p13:=p12.extT (ys:=tz.map V.ref) nw tl11 (by rw[Zq];exact lz2);have epc13:upd H12 ta (.lst (x11++tz.map V.ref)) pc=_:=(aF nt).trans epc12;generalize upd H12 ta (.lst (x11++tz.map V.ref))=H13 at p13 epc13 ⊢;obtain⟨x13,hx13,hl13⟩:=p13.h;refine⟨.inl ⟨rfl,_,aB hx13⟩,pc,_,_,rfl,hx13,epc13,Xz (by rw[hlp];lia:_<=300000) (by decide),?_⟩;have p14:=p13.extH (ys:=pcs) nw hl13 (by lia);have epc14:upd H13 ha (.lst (x13++pcs)) pc=_:=(aF nh).trans epc13;generalize upd H13 ha (.lst (x13++pcs))=H14 at p14 epc14 ⊢;obtain⟨x14,ox14,ol14⟩:=p14.o;refine⟨.inl ⟨rfl,_,aB ox14⟩,⟨_,aB epc14⟩,λD hD=>bH (nq+1) (λ_=>vn k) hD (by lia) (λi H' hi g'=>⟨_,_,aB (g' _ _ epc14),Zz (by rw[hlp];exact hi)⟩) (λH' g'=>⟨_,aB (g' _ _ epc14),by rw[hlp];exact ZA _⟩) ?_ ?_⟩
  ·rintro i H' x H'' kk hi g' ⟨rfl,hy⟩ hkk;exact⟨(Fills.refl _).set _ rfl,hkk _ (aJ.refl _)⟩
  intro H15 g15 eD;have p15:=p14.same g15;have eDl:((ZR (nq+1)).map λ_=>vn k).length=nq+1:=by simp
  refine⟨D,_,_,rfl,g15 _ _ ox14,eD,Xz (by rw[eDl];lia:_<=300000) (by decide),?_⟩;have p16:=p15.extO (ys:=(ZR (nq+1)).map λ_=>vn k) nw ol14 (by rw[eDl];lia);exact⟨mm+nq,_,_,_,_,_,_,p16,by lia,rfl⟩
 ·rintro σ H5 ⟨mm,o8,o9,o10,o11,o12,o13,p5,hmm,rfl⟩;refine⟨(by show 3<=ZW;decide),λm hm=>⟨(by show 2<=ZW;decide),λr hr=>?_⟩⟩;exact q _ _ (g03.trans (p5.g.trans ((aC hm _).trans (aC hr _))))
theorem uZ(T:Txt K mg t):Ok P w base T 66 4 rS:=by
 left
 obtain⟨wa,sa,ca,la,o,ts,os,cs,ls,rfl,hWeb,g,h40,o40,hsa,hc,hl,q⟩:=h;refine⟨_,(by exists cH ?_ ?_,2,3,4,eO,3,aL,0,eO,4,3,aP (j4 rfl) rfl (T.z 7) boot_min ?_,4,aP (j4 rfl) rfl (T.z 7) boot_min ?_,3,aP (nH rfl) rfl (T.z 6) boot_max ?_,3,aW ?_,aL,0,5,eO,aP (j3 rfl) rfl (T.z 10) boot_sum ?_,(eK ["_law_end","_law_corners"] [none,some 3]),aW ?_,5,0,aG,1,fU,0,iM rfl (T.z 1) ?_,mY,aL,0,aL,0,6,7,eO,zE,7,3,4,a9 fW rfl (T.z 2) boot_int ?_,cI,6,1),?_⟩;obtain⟨tA,oA,hw,hts,hos⟩:=id hWeb;obtain⟨trv,tv1,tv2⟩:∃trv:List V,H tA=some (.lst trv)/\trv.length=ts.length:=by
  obtain⟨tr,q1,q2,_⟩:=hts;exact⟨_,q1,by rw[Zq];exact q2⟩
 have h1:=g.one;have no:∀{H':Hp},aJ H H'->¬MM.sQ ts os o cs ls->Q (.bl false) H':=λgg h=>by
  have:=q _ gg;rw[MM.yV h]at this;exact this
 refine⟨_,aH hsa,rfl,?_⟩;refine⟨ca,_,rfl,.inl (aB hc),_,.ref tA,aH hw,rfl,tA,_,rfl,.inl (aB tv1),.inl ⟨by decide,by decide⟩,?_⟩;rw[Zq];by_cases z1:cs.length=2*ts.length
 case neg=>exact iTb (by simp;lia) (iT (no (aJ.refl _) λh=>z1 h.1))
 refine iFb (by rw[z1,tv2];simp) ?_;refine⟨la,_,rfl,.inl (aB hl),ca,_,rfl,.inl (aB hc),?_⟩;rw[Zq,Zq];by_cases z2:ls.length=2*ts.length
 case neg=>exact iTb (by simp;lia) (iT (no (aJ.refl _) λh=>z2 h.2.1))
 refine iFb (by rw[z1,z2];simp) ?_;refine⟨la,ls,rfl,aB hl,by lia,λm3 hm3 hmin3=>?_⟩;by_cases y3:m3<0
 ·exact iTb (Ye y3) (no (aJ.refl _) λh=>by have:=h.2.2.2.1 m3 hm3;lia)
 refine iFb (Yc y3) ?_;have hls:∀x∈ls,0<=x:=λx hx=>by have:=hmin3 x hx;lia
 refine⟨ca,cs,rfl,aB hc,by lia,λm4 hm4 hmin4=>?_⟩;by_cases y4:m4<1
 ·exact iTb (Ye y4) (iT (no (aJ.refl _) λh=>by have:=h.2.2.1 m4 hm4;lia))
 refine iFb (Yc y4) ?_;refine⟨ca,cs,rfl,aB hc,by lia,λm5 hm5 hmax5=>?_⟩;by_cases y5:4<m5
 ·exact iTb (Ye y5) (no (aJ.refl _) λh=>by have:=h.2.2.1 m5 hm5;lia)
 refine iFb (Yc y5) ?_;have hcs:∀x∈cs,1<=x/\x<=4:=λx hx=>by have:=hmin4 x hx;have:=hmax5 x hx;lia
 obtain⟨orr,o1,o2,o3⟩:=id hos;refine⟨_,.ref oA,aH hw,rfl,⟨_,aB o1⟩,cV (xs:=orr.map V.ref)
  (λi σ H'=>aJ H H'/\(∀p,p<i->MM.su (MM.row os p) (λe=>at0 cs (MM.oth e))=4) /\
   ∃o8:Option V,σ=[some (.ref wa),some (vn o),some (.ref sa),some (.ref ca),some (.ref la),o8,none,none])
  ⟨aJ.refl _,λp hp=>Yg hp (by lia),_,rfl⟩ (λi σ H' _ h=>aB (h.1 _ _ o1)) ?_ ?_⟩
 ·rintro i x σ H3 hx ⟨g3,hk,o8,rfl⟩;obtain⟨y,hy,rfl⟩:=tE hx;have hi':i<os.length:=by rw[<-o2];exact(Zj.mp hy).1
  have er:os[i]=MM.row os i:=by unfold MM.row;rw[Zv,Zz hi'];rfl
  obtain⟨y',hy',i4⟩:=o3 i _ (Zz hi');rw[hy]at hy';cases hy';rw[er]at i4;have i4:=g3 _ _ i4;have hb4:=g.g.four i;dsimp only[cJ];refine⟨⟨_,aB i4⟩,λD hD=>?_⟩;refine bH (MM.row os i).length (λj=>.int (at0 cs (MM.oth ((MM.row os i).getD j 0)))) hD (by lia) (λj H' hj g'=>⟨_,_,aB (g' _ _ i4),jM hj⟩) (λH' g'=>⟨_,aB (g' _ _ i4),by rw[Zq];exact ZA _⟩) ?_ ?_
  ·rintro j H' x H'' k hj g' ⟨rfl,hx⟩ hk;have ex:=hx _ (aB (g' _ _ i4));rw[jM hj]at ex;cases ex;have hE:=MM.bF (g.g.ends i _ (getD_mem hj)).1;exact⟨(Fills.refl _).set _ rfl,(MM.row os i).getD j 0,rfl,_,_,aB (g' _ _ (g3 _ _ hc)),aS (by lia) rfl,hk _ (aJ.refl _)⟩
  intro H4 g4 eD;rw[oJ (MM.row os i) (λe=>V.int (at0 cs (MM.oth e))),show(MM.row os i).map (λe=>V.int (at0 cs (MM.oth e)))=((MM.row os i).map λe=>at0 cs (MM.oth e)).map V.int by rw[Yn];rfl]at eD;refine⟨D,_,rfl,aB eD,?_⟩;have es:((MM.row os i).map λe=>at0 cs (MM.oth e)).sum=MM.su (MM.row os i) (λe=>at0 cs (MM.oth e)):=rfl;rw[es];by_cases z:MM.su (MM.row os i) (λe=>at0 cs (MM.oth e))=4
  ·refine iFb (by rw[z];simp) ?_;refine⟨g3.trans g4,λp hp=>?_,_,rfl⟩;by_cases e:p=i
   ·subst e;exact z
   ·exact hk p (by lia)
  ·exact iTb (by simp[z]) (no (g3.trans g4) λh=>z (h.2.2.2.2.1 i hi'))
 rintro σ H3 ⟨g3,hk,o8,rfl⟩;rw[Zq,o2]at hk;refine⟨_,.ref tA,aH (g3 _ _ hw),rfl,_,.ref oA,aH (g3 _ _ hw),rfl,tA,oA,ts,os,rfl,g3.ts hts,g3.os hos,g,by lia,λr rr H4 g4 nos=>?_⟩;refine⟨r,rfl,⟨_,aB nos.at_⟩,gJ (xs:=rr.map V.ref)
  (λi σ H'=>aJ H4 H'/\(∀(k:Nat) (d:List Nat),k<i->(MM.lls ts os)[k]?=some d->MM.su d (MM.trm (at0 cs) (at0 ls))=if k=o then -4 else 4) /\
   ∃o9 o10:Option V,σ=[some (.ref wa),some (vn o),some (.ref sa),some (.ref ca),some (.ref la),o8,o9,o10])
  ⟨aJ.refl _,λk d hk=>Yg hk (by lia),_,_,rfl⟩ (λi σ H' _ h=>aB (h.1 _ _ nos.at_)) ?_ ?_⟩
 ·rintro i x σ H5 Tp hx ⟨g5,hk5,o9,o10,rfl⟩ hTp;obtain⟨y,hy,rfl⟩:=tE hx;have hil:i<(MM.lls ts os).length:=by rw[<-nos.len];exact(Zj.mp hy).1
  have hli:=Zz hil;obtain⟨y',hy',ey⟩:=nos.row i _ hli;rw[hy]at hy';cases hy';generalize (MM.lls ts os)[i]=d at hli ey;have hdd:=MM.dS g hli;have hd80:d.length<=1000:=by have:=MM.bE _ _ hdd.1 hdd.2.1;lia
  have g6:=aC hTp (.tup [vn i,.ref y]);have g56:=g5.trans g6;have g06:=(g3.trans g4).trans g56;refine⟨_,aH aA,rfl,?_⟩;generalize upd H5 Tp (.tup [vn i,.ref y])=H6 at g56 g06;refine⟨y,ca,la,d,cs,ls,rfl,g56 _ _ ey,g06 _ _ hc,g06 _ _ hl,λx hx=>⟨by have:=hdd.2.1 x hx;lia,by have:=hdd.2.1 x hx;lia,by have:=MM.bF (hdd.2.1 x hx);lia⟩,hd80,λH7 g7=>?_⟩;refine(.inr ⟨_,rfl,.inl ⟨by decide,by decide⟩,?_⟩);have ev:(4:Int)-8*(if decide (V.int ((i:Nat):Int)=V.int ((o:Nat):Int))=true then 1 else 0)=if i=o then -4 else 4:=by
   by_cases z:i=o
   ·subst z;simp
   ·have z':¬V.int ((i:Nat):Int)=V.int ((o:Nat):Int):=λh=>z (by have:=V.int.inj h;lia);rw[Yc z',Ya YO,Ya z];rfl
  show If (!decide (V.int (MM.su d (MM.trm (at0 cs) (at0 ls)))=V.int ((4:Int)-8*(if decide (V.int ((i:Nat):Int)=V.int ((o:Nat):Int))=true then 1 else 0)))) _ _;rw[ev];by_cases z:MM.su d (MM.trm (at0 cs) (at0 ls))=if i=o then -4 else 4
  ·refine iFb (by rw[z];simp) ?_;refine⟨g56.trans g7,λk d' hk' hd'=>?_,_,_,rfl⟩;by_cases e:k=i
   ·subst e;rw[hli]at hd';cases hd';exact z
   ·exact hk5 k d' (by lia) hd'
  ·exact iTb (by simp[z]) (no (g06.trans g7) λh=>z (h.2.2.2.2.2 i d hli))
 rintro σ H5 ⟨g5,hk5,o9,o10,rfl⟩;rw[Zq,nos.len]at hk5;have:=q H5 ((g3.trans g4).trans g5);rw[MM.IM ⟨z1,z2,hcs,hls,hk,λk d hd=>hk5 k d (Zj.mp hd).1 hd⟩]at this;exact this
end K38
namespace L2
open PySem PyProof.Rows
def dTI(ts:AW.Ts):List PyData:=ts.map λt=>.tuple [.int t.1,.int t.2]
def dOI(os:AW.Os):List PyData:=os.map λl=>.list (l.map PyData.int)
def dWI(m:Int)(ts:AW.Ts)(os:AW.Os):PyData:=.tuple [.int m,.list (dTI ts),.list (dOI os)]
theorem t8{H:Hp}:∀(xs:List V) (ds:List PyData),xs.length=ds.length->(∀(i:Nat) x d,xs[i]?=some x->ds[i]?=some d->Bd H x d)->Bds H xs ds
 |[],[],_,_=>.nil
 |[],_::_,h,_=>by cases h
 |_::_,[],h,_=>by cases h
 |x::xs,d::ds,h,f=>.cons (f 0 x d rfl rfl) (t8 xs ds (by simpa using h) λi x' d' h1 h2=>f (i+1) x' d' h1 h2)
theorem zZ{H:Hp}{w:Addr}{m:Int}{ts:AW.Ts}{os:AW.Os}(h:iG H w m ts os):Bd H (.ref w) (dWI m ts os):=by
 obtain⟨tA,oA,h1,⟨tr,t1,t2,t3⟩,⟨rr,o1,o2,o3⟩⟩:=h;refine .tup (aH h1) (.cons (.int _) (.cons (.lst (aB t1) (t8 _ _ (by rw[dTI,Zq,Zq,t2]) λi x d hx hd=>?_)) (.cons (.lst (aB o1) (t8 _ _ (by rw[dOI,Zq,Zq,o2]) λi x d hx hd=>?_)) .nil)))
 ·obtain⟨t,r,e1,rfl,e2⟩:=TsI.nth (a:=tA) t2 t3 hx;rw[dTI,Zk,e1]at hd;cases hd;exact .tup (aH e2) (.cons (.int _) (.cons (.int _) .nil))
 ·obtain⟨l,r,e1,rfl,e2⟩:=OsI.nth o2 o3 hx;rw[dOI,Zk,e1]at hd;cases hd;exact dZ e2
theorem i9(m:Int)(ts:AW.Ts)(os:AW.Os):SeqAt.shaped (dWI m ts os)=true:=by
 have h1:PyData.canLayAll0 (dTI ts)=true/\PyData.depthAll (dTI ts)<=3:=lY 3 λd hd=>by
  obtain⟨n,_,rfl⟩:=Zh.mp hd;exact⟨rfl,by simp[PyData.depth,PyData.depthAll]⟩
 have h2:PyData.canLayAll0 (dOI os)=true/\PyData.depthAll (dOI os)<=3:=lY 3 λd hd=>by
  obtain⟨n,_,rfl⟩:=Zh.mp hd;have:=lay_ints n;exact⟨this.1,by rw[PyData.depth];lia⟩
 have h:PyData.canLayAll0 [PyData.int m,.list (dTI ts),.list (dOI os)]=true/\PyData.depthAll [PyData.int m,.list (dTI ts),.list (dOI os)]<=4:=lY 4 λd hd=>by
  simp only[Zn,ZL,or_false]at hd;rcases hd with rfl | rfl | rfl
  ·exact⟨rfl,by simp[PyData.depth]⟩
  ·exact⟨h1.1,by rw[PyData.depth];lia⟩
  ·exact⟨h2.1,by rw[PyData.depth];lia⟩
 unfold SeqAt.shaped;rw[Xb];refine⟨h.1,Ye ?_⟩;unfold dWI;rw[PyData.depth]
 lia
theorem CJ(m:Int)(ts:AW.Ts)(os:AW.Os):PyData.eqv (dWI m ts os) (dWI m ts os)=true:=SeqAt.eqv_refl _ (SeqAt.canLay_of_shaped (i9 m ts os))
end L2
namespace AW
def rws:Nat->Os->List (Int×Int)
 |_,[]=>[]
 |i,o::os=>o.map (λe=>(e,(i:Int)))++rws (i+1) os
theorem uO(o:List Int):∀(os:Os) (i:Nat),rws i (os++[o])=rws i os++o.map λe=>(e,((i+os.length:Nat):Int))
 |[],i=>by simp[rws]
 |a::os,i=>by
  rw[List.cons_append,rws,rws,uO o os,Yp,Yq,show i+1+os.length=i+(os.length+1) by lia]
theorem oI:∀(os:Os) (i:Nat),(rws i os).map Prod.fst=os.flatten
 |[],_=>rfl
 |o::os,i=>by
  rw[rws,Zt,oI os,Yn,List.flatten_cons];congr 1;exact List.map_id' _
theorem tD:∀(os:Os) (i:Nat) (u:Int×Int),u∈rws i os↔∃(k:Nat) (o:List Int),os[k]?=some o/\u.1∈o/\u.2=((i+k:Nat):Int)
 |[],i,u=>by simp[rws]
 |a::os,i,u=>by
  rw[rws,Zf,tD os];constructor
  ·rintro(h | ⟨k,o,h1,h2,h3⟩)
   ·obtain⟨e,he,rfl⟩:=Zh.mp h;exact⟨0,a,rfl,he,rfl⟩
   ·exact⟨k+1,o,h1,h2,by rw[h3];lia⟩
  ·rintro⟨k,o,h1,h2,h3⟩;cases k with
   |zero=>cases h1;exact .inl (Zh.mpr ⟨u.1,h2,by rw[show u=(u.1,u.2) from rfl,h3];rfl⟩)
   |succ k=>exact .inr ⟨k,o,h1,h2,by rw[h3];lia⟩
def prs(ts:Ts):List (Int×Int):=(all2 ts).map λe=>(e,plc ts e.toNat)
theorem uP{ts:Ts}{os:Os}:(rws 0 os).Perm (prs ts)↔os.flatten.Perm (all2 ts)/\∀(i:Nat) o,os[i]?=some o->∀e∈o,plc ts e.toNat=i:=by
 constructor
 ·intro h;refine⟨?_,λi o ho e he=>?_⟩
  ·have:=h.map Prod.fst;rw[oI,prs,Yn]at this
   rwa [show(Prod.fst∘λe:Int=>(e,plc ts e.toNat))=id from rfl,List.map_id]at this
  ·have:=h.mem_iff.mp ((tD os 0 (e,(i:Int))).mpr ⟨i,o,ho,he,by simp⟩);obtain⟨x,_,hx⟩:=Zh.mp this;obtain⟨rfl,h2⟩:=Prod.mk.inj hx;exact h2
 ·rintro⟨h,g⟩;have e:rws 0 os=os.flatten.map λe=>(e,plc ts e.toNat):=by
   rw[<-oI os 0,Yn];refine(List.map_id' _).symm.trans (Yt λu hu=>?_);obtain⟨k,o,h1,h2,h3⟩:=(tD os 0 u).mp hu;exact Prod.ext rfl (by rw[h3];show _=plc ts u.1.toNat;rw[g k o h1 _ h2,Nat.zero_add])
  rw[e];exact h.map _
def ky(u:Int×Int):List Int:=[u.1,u.2]
theorem DT{a b:List (Int×Int)}(h:a.Perm b)(h1:a.Pairwise λx y=>SO.lx (ky y) (ky x)=false)(h2:b.Pairwise λx y=>SO.lx (ky y) (ky x)=false):a=b :=
 List.Perm.eq_of_pairwise (λx y _ _ z1 z2=>by
  have:=SO.p9 _ _ z2 z1;unfold ky at this;simp only[List.cons.injEq,and_true]at this;exact Prod.ext this.1 this.2) h1 h2 h
theorem KH(ts:Ts):(prs ts).Pairwise λx y=>SO.lx (ky y) (ky x)=false:=by
 unfold prs all2;rw[Yn,List.pairwise_map];refine List.pairwise_lt_range.imp λ{a b} h=>?_;show(if (b:Int)=a then SO.lx [_] [_] else decide ((b:Int)<a))=false;rw[Ya (by lia),Yc (by lia)]
def opn(ts:Ts)(C:List Int):Nat:=ts.countP λt=>!(decide (t.1∈C)&&decide (t.2∈C))
theorem sL{α:Type}{p q:α->Bool}:∀{l:List α},(∀x∈l,p x=true->q x=true)->(∃x∈l,q x=true/\p x=false)->l.countP p<l.countP q
 |a::l,h,⟨x,hx,h1,h2⟩=>by
  have hl:=List.countP_mono_left (l:=l) λy hy=>h y (Zw _ hy);rw[List.countP_cons,List.countP_cons];rcases Zn.mp hx with rfl | hx
  ·rw[h1,h2,Yb rfl,Ya (by decide)];lia
  ·have:=sL (l:=l) (λy hy=>h y (Zw _ hy)) ⟨x,hx,h1,h2⟩;by_cases hp:p a=true
   ·rw[Yb hp,Yb (h a Zd hp)];lia
   ·rw[Ya hp];split<;>lia
def both(ts:Ts):Ts:=ts++ts.map λt=>(t.2,t.1)
theorem FG{ts:Ts}{u:Int×Int}(h:u∈both ts):∃t∈ts,t=u\/t=(u.2,u.1):=by
 rcases Zf.mp h with h | h
 ·exact⟨u,h,.inl rfl⟩
 ·obtain⟨t,ht,rfl⟩:=Zh.mp h;exact⟨t,ht,.inr rfl⟩
def Pas(m:Nat)(ts:Ts)(C0 C:List Int)(k:Nat):Prop :=
 eJ m ts C/\((C=C0/\∀(j:Nat) u,j<k->(both ts)[j]?=some u->u.1∈C0->u.2∈C0)\/(¬yN ts C0/\opn ts C<opn ts C0))
theorem Pas.next{m:Nat}{ts:Ts}{C0 C:List Int}{k:Nat}{u:Int×Int}(h:Pas m ts C0 C k)(hw:InW m ts)(hu:(both ts)[k]?=some u):Pas m ts C0 (half C u.1 u.2) (k+1):=by
 obtain⟨t,ht,hh⟩:=FG (Zg hu);have hn:u.2∈nbs ts u.1:=jU.mpr ⟨t,ht,hh.elim (λe=>.inl ⟨by rw[e],by rw[e]⟩) λe=>.inr ⟨by rw[e],by rw[e]⟩⟩;refine⟨BR h.1 hw hn,?_⟩;by_cases c:u.1∈C/\u.2∉C
 ·have lt:opn ts (C++[u.2])<opn ts C:=by
   refine sL (λx _ hx=>?_) ⟨t,ht,?_,?_⟩
   ·simp only[Bool.not_eq_true',Bool.and_eq_false_iff,decide_eq_false_iff_not,Zf]at hx ⊢;exact hx.imp (λz y=>z (.inl y)) λz y=>z (.inl y)
   ·rcases hh with rfl | rfl<;>simp[c.1,c.2]
   ·rcases hh with rfl | rfl<;>simp[c.1]
  unfold half;rw[Yb c]
  right
  rcases h.2 with⟨rfl,_⟩ | ⟨h1,h2⟩
  ·exact⟨λz=>c.2 (hh.elim (λe=>(e▸z t ht).mp c.1) λe=>(e▸z t ht).mpr c.1),lt⟩
  ·exact⟨h1,by lia⟩
 ·unfold half;rw[Ya c];refine h.2.imp (λ⟨e,f⟩=>⟨e,λj x hj hx h1=>?_⟩) id;by_cases hjk:j<k
  ·exact f j x hjk hx h1
  ·have:j=k:=by lia
   subst this;rw[hu]at hx;cases hx;subst e;exact ZS λz=>c ⟨h1,z⟩
def Psd(m:Nat)(ts:Ts)(C:List Int)(k:Nat):Prop:=eJ m ts C/\(yN ts C\/opn ts C+k<=ts.length)
theorem Psd.start{m:Nat}{ts:Ts}(h:0<m):Psd m ts [0] 0:=⟨eJ.start h,.inr List.countP_le_length⟩
theorem Pas.done{m:Nat}{ts:Ts}{C0 C:List Int}{k:Nat}(h0:Psd m ts C0 k)(h:Pas m ts C0 C (both ts).length):Psd m ts C (k+1):=by
 refine⟨h.1,?_⟩;rcases h.2 with⟨rfl,hc⟩ | ⟨h1,h2⟩
 ·apply Or.inl;have al:∀u∈both ts,u.1∈C->u.2∈C:=λu hu=>by
   obtain⟨j,hj,rfl⟩:=Yd.mp hu;exact hc j _ hj (Zz hj)
  exact λt ht=>⟨al t (ZO _ ht),al (t.2,t.1) (ZN _ (Zh.mpr ⟨t,ht,rfl⟩))⟩
 ·exact .inr (h0.2.elim (λz=>Yg z h1) λz=>by lia)
theorem Psd.whole{m:Nat}{ts:Ts}{C:List Int}(h:Psd m ts C ts.length):C.length=m↔nS m ts:=by
 refine⟨h.1.whole,h.1.full ?_⟩;rcases h.2 with z | z
 ·exact z
 ·intro t ht;have:opn ts C=0:=by lia
  have:=List.countP_eq_zero.mp this t ht;simp only[Bool.not_eq_true',Bool.not_eq_false,Xb,decide_eq_true_eq]at this;simp[this.1,this.2]
end AW
namespace L2
open PySem PyProof.Rows
theorem TsI.put{H:Hp}{a r:Addr}{ts:AW.Ts}{tr:List Addr}(h0:H a=some (.lst (tr.map V.ref)))(h1:tr.length=ts.length)(h2:∀(i:Nat) t,ts[i]?=some t->∃r,tr[i]?=some r/\H r=some (.tup [.int t.1,.int t.2]))
  {x y:Int}(hr:H r=some (.tup [.int x,.int y])) (k:Nat):TsI (upd H a (.lst ((tr.map V.ref).set k (.ref r)))) a (ts.set k (x,y)):=by
 have ne:∀{b:Addr}{l:List V},H b=some (.tup l)->b≠a:=λhb z=>by rw[z,h0]at hb;cases hb
 refine⟨tr.set k r,by rw[<-ZG];exact aA,by rw[ZP,ZP,h1],λi t e=>?_⟩;by_cases q:k=i
 ·subst q;by_cases hk:k<ts.length
  ·rw[ZK hk]at e;cases e;exact⟨r,ZK (by lia),by rw[aF (ne hr)];exact hr⟩
  ·rw[Zr (by rw[ZP];lia)]at e;cases e
 ·rw[ZJ q]at e;obtain⟨b,q1,q2⟩:=h2 i t e;exact⟨b,by rw[ZJ q];exact q1,by rw[aF (ne q2)];exact q2⟩
theorem TsI.more{H:Hp}{a l:Addr}{ts:AW.Ts}{tr:List Addr}(h1:tr.length=ts.length)(h2:∀(i:Nat) t,ts[i]?=some t->∃r,tr[i]?=some r/\H r=some (.tup [.int t.1,.int t.2]))
  {r:Addr}{x y:Int}(hl:H l=some (.lst (tr.map V.ref++[.ref r]))) (hr:H r=some (.tup [.int x,.int y])):TsI H l (ts++[(x,y)]):=by
 refine⟨tr++[r],by rw[hl,Zt];rfl,by simp[h1],λi t e=>?_⟩;by_cases q:i<ts.length
 ·rw[Zx q]at e;obtain⟨b,q1,q2⟩:=h2 i t e;exact⟨b,by rw[Zx (by lia)];exact q1,q2⟩
 ·have hi:i=ts.length:=by
   have z:=(Zj.mp e).1;simp at z;lia
  subst hi;rw[Yy]at e;cases e;exact⟨r,by rw[<-h1,Yy],hr⟩
end L2
theorem AW.flat_row(os:AW.Os)(p:Nat)(h:p<os.length):os[p].length<=os.flatten.length:=by
 have:=AW.gK os p [] h;rw[List.length_nil]at this;lia
theorem L2.rows_vv(os:AW.Os):((ZR os.length).map λi=>(os.getD i []).map L2.V.int)=L2.vv os:=by
 refine YQ λi=>?_;rw[Zk,Zk];by_cases hi:i<os.length
 ·rw[Yv hi,Zz hi];show some ((os.getD i []).map L2.V.int)=some (os[i].map L2.V.int);rw[Zv,Zz hi];rfl
 ·rw[Zr (by simpa using hi),Zr (by simpa using hi)];rfl
namespace K38
open PySem L2 PyProof.Rows
end K38
namespace L2
open PySem PySem.Spec PyProof.Rows
theorem qK{J:It}{js:List (Option Nat)}{σ:St}{H1:Hp}{R:Hp->Prop}{D:Addr}{g:TG}{te:TE}(n:Nat)(fs:Nat->Int×Int)(hD:H1 D=none)(hn:n<=100000)
  (go:∀i H',i<n->aJ H1 H'->J.go i H') (stop:∀H',aJ H1 H'->J.stop n H')
  (hs:∀i H' x H'' (k:V->Hp->Prop),i<n->aJ H1 H'->J.yld i H' x H''->(∀a H4,aJ H' H4->H4 a=some (.tup [.int (fs i).1,.int (fs i).2])->k (.ref a) H4)->g x (inner js σ) H'' λσ2 H2=>Fills (inner js σ) σ2/\te σ2 H2 k)
  (hd:∀H',TsI H' D ((ZR n).map fs)->aJ H1 H'->R H') :
  ∃W:Nat->Nat->List V->Hp->Prop,(∃m,W 0 m [] (upd H1 D (.lst []))) /\
   ∀i m ys H,W i m ys H->(J.stop i H/\R H)\/(J.go i H/\∃N:List V->Hp->Prop,(∀ys' H',N ys' H'->∃m',m' < m/\W (i+1) m' ys' H')/\∀x H',J.yld i H x H'->g x (inner js σ) H' λσ2 H2=>Fills (inner js σ) σ2/\nN σ2 H2 λb H3 =>
    If b (te σ2 H3 λy H4=>H4 D=some (.lst ys)/\ys.length<ZW/\N (ys++[y]) (upd H4 D (.lst (ys++[y])))) (N ys H3)):=by
 refine comp_map n (λi ys H'=>H' D=some (.lst ys)/\TsI H' D ((ZR i).map fs)/\aJ H1 H') ⟨aA,⟨[],aA,rfl,λi t h=>by simp at h⟩,aC hD _⟩ ?_ ?_
 ·rintro i ys H' hi ⟨hy,⟨tr,t1,t2,t3⟩,g1⟩;rw[hy]at t1;cases t1;have hl:tr.length=i:=by rw[t2];simp
  refine⟨go i H' hi g1,λx H'' hyl=>hs i H' x H'' _ hi g1 hyl λa H4 g4 e4=>⟨g4 _ _ hy,?_,aA,?_,(g1.trans g4).fresh hD _⟩⟩
  ·rw[Zq,hl];exact Xk hi (Xz hn (by decide))
  ·have ne:∀{b:Addr}{l:List V},H4 b=some (.tup l)->b≠D:=λhb z=>by rw[z,g4 _ _ hy]at hb;cases hb
   rw[ZH,Zt];exact TsI.more (a:=D) t2 (λj t e=>let⟨r,r1,r2⟩:=t3 j t e;⟨r,r1,by rw[aF (ne (g4 _ _ r2))];exact g4 _ _ r2⟩) aA (by rw[aF (ne e4)];exact e4)
 ·rintro ys H' ⟨_,ht,g1⟩;exact⟨stop H' g1,hd H' ht g1⟩
theorem AB{H:Hp}{l:Addr}{ts us:AW.Ts}{tr ur:List Addr}(h1:tr.length=ts.length)(h2:∀(i:Nat) t,ts[i]?=some t->∃r,tr[i]?=some r/\H r=some (.tup [.int t.1,.int t.2]))(g1:ur.length=us.length)(g2:∀(i:Nat) t,us[i]?=some t->∃r,ur[i]?=some r/\H r=some (.tup [.int t.1,.int t.2]))
  (hl:H l=some (.lst (tr.map V.ref++ur.map V.ref))):TsI H l (ts++us):=by
 refine⟨tr++ur,by rw[hl,Zt],by simp[h1,g1],λi t e=>?_⟩;by_cases q:i<ts.length
 ·rw[Zx q]at e;obtain⟨b,q1,q2⟩:=h2 i t e;exact⟨b,by rw[Zx (by lia)];exact q1,q2⟩
 ·rw[Zy (by lia)]at e;obtain⟨b,q1,q2⟩:=g2 _ t e;exact⟨b,by rw[Zy (by lia),h1];exact q1,q2⟩
def xM(H:Hp)(q:Addr):Int×Int:=match H q with
 |some (.tup [.int a,.int b])=>(a,b)
 |_=>(0,0)
theorem yZ{H:Hp}{q:Addr}{a b:Int}(h:H q=some (.tup [.int a,.int b])):xM H q=(a,b):=by unfold xM;rw[h]
theorem TsI.at_{H:Hp}{a:Addr}{ts:AW.Ts}(h:TsI H a ts):∃tr:List Addr,H a=some (.lst (tr.map V.ref))/\ts=tr.map (xM H)/\∀q∈tr,H q=some (.tup [.int (xM H q).1,.int (xM H q).2]):=by
 obtain⟨tr,h1,h2,h3⟩:=h;refine⟨tr,h1,List.ext_getElem (by simp[h2]) λi i1 i2=>?_,λq hq=>?_⟩
 ·obtain⟨r,r1,r2⟩:=h3 i _ (Zz i1);obtain⟨_,r1⟩:=Zj.mp r1;rw[List.getElem_map,r1,yZ r2]
 ·obtain⟨i,hi,rfl⟩:=Yd.mp hq;obtain⟨r,r1,r2⟩:=h3 i _ (Zz (by lia));obtain⟨_,r1⟩:=Zj.mp r1;rw[r1,yZ r2];exact r2
theorem MH{H:Hp}{a:Addr}{tr:List Addr}(h1:H a=some (.lst (tr.map V.ref))){f:Addr->Int×Int}(h2:∀q∈tr,H q=some (.tup [.int (f q).1,.int (f q).2])):TsI H a (tr.map f):=by
 refine⟨tr,h1,by simp,λi t e=>?_⟩;rw[Zk]at e;obtain⟨r,r1,rfl⟩:=Xx.mp e;exact⟨r,r1,h2 r (Zg r1)⟩
section
variable{X:Cx}
theorem t4:dE X (.builtin "sorted") (λxs H Q=>∃(p:Addr) (ts:AW.Ts),xs=[.ref p]/\TsI H p ts/\ts.length<64 /\
  ∀(l:Addr) (us:AW.Ts) (H':Hp),aJ H H'->us.Perm ts->(us.Pairwise λa b=>SO.lx (AW.ky b) (AW.ky a)=false)->TsI H' l us->Q (.ref l) H'):=by
 intro pins s σ H xs us Q I r h;obtain⟨p,ts,rfl,hT,h64,q⟩:=h;obtain⟨tr,h1,rfl,h3⟩:=hT.at_;refine mC pins s σ H _ us Q I r ⟨p,tr,λq=>AW.ky (xM H q),rfl,aB h1,λq hq=>⟨List.cons_ne_nil _ _,aH (h3 q hq)⟩,by simpa using h64,λl ps hl hp hs=>?_⟩;have g:=aC hl (.lst (ps.map V.ref));exact q l (ps.map (xM H)) _ g (hp.map _) (List.pairwise_map.mpr hs) (MH aA λx hx=>g _ _ (h3 x (hp.mem_iff.mp hx)))
end
theorem zR:∀a b:AW.Ts,PyData.eqvAll (dTI a) (dTI b)=decide (a=b)
 |[],[]=>rfl
 |[],_::_=>rfl
 |_::_,[]=>rfl
 |x::a,y::b=>by
  show(PyData.eqv (.tuple [.int x.1,.int x.2]) (.tuple [.int y.1,.int y.2])&&PyData.eqvAll (dTI a) (dTI b))=_;rw[zR a b,Xd];simp only[PyData.eqv,PyData.eqvAll];simp[Prod.ext_iff]
theorem HP(a b:AW.Ts):PyData.eqv (.list (dTI a)) (.list (dTI b))=decide (a=b):=zR a b
theorem TsI.bd{H:Hp}{a:Addr}{ts:AW.Ts}(h:TsI H a ts):Bd H (.ref a) (.list (dTI ts)):=by
 obtain⟨tr,t1,t2,t3⟩:=h;refine .lst (aB t1) (t8 _ _ (by rw[dTI,Zq,Zq,t2]) λi x d hx hd=>?_);obtain⟨t,r,e1,rfl,e2⟩:=TsI.nth (a:=a) t2 t3 hx;rw[dTI,Zk,e1]at hd;cases hd;exact .tup (aH e2) (.cons (.int _) (.cons (.int _) .nil))
theorem k8(ts:AW.Ts):SeqAt.shaped (.list (dTI ts))=true:=by
 have h1:PyData.canLayAll0 (dTI ts)=true/\PyData.depthAll (dTI ts)<=3:=lY 3 λd hd=>by
  obtain⟨n,_,rfl⟩:=Zh.mp hd;exact⟨rfl,by simp[PyData.depth,PyData.depthAll]⟩
 unfold SeqAt.shaped;rw[Xb];refine⟨h1.1,Ye ?_⟩;rw[PyData.depth]
 lia
theorem mG{x y e:Int}:atI [V.int x,V.int y] (e%2)=some (.int (if e%2=0 then x else y)):=by
 have h:e%2=0\/e%2=1:=by lia
 rcases h with h | h
 ·rw[h];rfl
 ·rw[h];rfl
theorem l7(x:Int)(ns:List Int):inV (.int x) (ns.map V.int)=decide (x∈ns):=by
 unfold inV;rw[Xd,List.any_eq_true,decide_eq_true_iff];constructor
 ·rintro⟨y,hy,h⟩;obtain⟨z,hz,rfl⟩:=Zh.mp hy;have:z=x:=by simpa[eqV] using h
  exact this▸hz
 ·intro h;exact⟨.int x,Zh.mpr ⟨x,h,rfl⟩,by simp[eqV]⟩
theorem sJ(ns:List Int):(ns.map V.int).all fL=true:=by
 rw[ZD];intro y hy;obtain⟨n,_,rfl⟩:=Zh.mp hy;rfl
end L2
theorem AW.map_getD{α:Type}(o:List Int)(f:Int->α):(ZR o.length).map (λj=>f (o.getD j 0))=o.map f:=by
 refine List.ext_getElem (by simp) λi h1 h2=>?_;have hi:i<o.length:=by simpa using h1
 simp[Zv,Zz hi]
namespace K38
open PySem L2 PyProof.Rows
def C2:Sp:=λvs H Q _=>∃(a:Addr) (ts:AW.Ts) (n:Nat),vs=[.ref a,vn n]/\TsI H a ts/\n<2*ts.length/\Q (.int (AW.plc ts n)) H
theorem BC(T:Txt K mg t):Ok P w base T 48 1 C2:=by
 left
 obtain⟨a,ts,n,rfl,⟨tr,e1,e2,e3⟩,h1,q⟩:=h;have hn:n / 2<ts.length:=by lia
 obtain⟨r,f1,f2⟩:=e3 (n / 2) ts[n / 2] (Zz hn);refine⟨_,(by exists jH,aG,0,bM,1,1),?_⟩;refine⟨⟨by decide,by decide⟩,_,.ref r,aB e1,(by show atI _ ((n:Int) / 2)=_;rw[show(n:Int) / 2=((n / 2:Nat):Int) by lia];exact bB (by rw[Zk,f1];rfl)),?_⟩;refine⟨(by show(0:Int)<2;decide),.inr (.inl ⟨_,_,aH f2,mG,?_⟩)⟩;have e:(if (n:Int)%2=0 then ts[n / 2].1 else ts[n / 2].2)=AW.plc ts n:=by
  unfold AW.plc;rw[Zz hn];simp only[Option.map_some,YM];by_cases c:n%2=0
  ·rw[Yb c,Yb (by lia)]
  ·rw[Ya c,Ya (by lia)]
 rw[e];exact q
def OY:Sp:=λvs H Q _=>∃(wa:Addr) (m:Int) (ts:AW.Ts) (os:AW.Os),vs=[.ref wa]/\iG H wa m ts os/\1<=ts.length/\ts.length<=100/\m<=200/\os.flatten.length<=63 /\
 ∀(b:Bool) (H':Hp),aJ H H'->(b=true↔AW.hJ m ts os)->Q (.bl b) H'
theorem NS(T:Txt K mg t):Ok P w base T 65 2 OY:=by
 refine T.okN 65 (scm:eE ["_law_web","_law_many","_law_ties","_law_orders","_law_one","_law_other_here","_law_rows","_law_place_here","_law_order","_law_come","_law_again"] _ _) (λvs H Q E h=>?_) ?_
 ·obtain⟨wa,m,ts,os,rfl,_⟩:=h;rfl
 intro cdv A outer s H vs Q E hr h nd X;obtain⟨wa,m,ts,os,rfl,⟨tA,oA,hw,hT,hO⟩,ht1,ht2,hm2,hfl,q⟩:=h;refine⟨_,(by exists cH ?_ ?_,0,1,2,3,1,eO,3,1,aP (nH rfl) rfl (T.z 6) boot_max ?_,(eK ["_law_order"] [none]),aW ?_,3,0,0,aW ?_,2,4,5,aP (BX rfl) rfl (T.z 7) boot_min ?_,4,5,aP (BY rfl) rfl (T.z 6) boot_max ?_,4,5,1,6,iM rfl (T.z 1) ?_,3,7,8,6,hZ,6,(eK ["_law_end","_law_place_here"] [none,some 7]),aW ?_,8,0,0,1,(kI hr.units),aP t4 rfl (T.z 9) boot_sorted ?_,6,(eK ["_law_end","_law_ties"] [none,some 2]),2,0,0,BC,1,0,9,aW ?_,2,10,aW ?_,hZ,2,(eK ["_law_one","_law_other_here"] [none,none]),aW ?_,2,0,1,1,0,4,5,r8,4,9,dQ,5,9,9,5,cI,9,1),?_⟩;obtain⟨tr,e1,e2,e3⟩:=id hT;obtain⟨or,o1,o2,o3⟩:=id hO;have no:∀{H'},aJ H H'->¬AW.hJ m ts os->Q (.bl false) H':=λg z=>q false _ g ⟨λy=>Bool.noConfusion y,λy=>Yg y z⟩;refine⟨_,aH hw,rfl,?_⟩;refine(i2 (λc=>iT ?_) (λc1=>?_))
 ·exact no (aJ.refl _) λz=>by have:=z.1.1;have:=Yf c;lia
 have c1:1<=m:=by simpa using c1
 refine⟨oA,_,rfl,.inl (aB o1),?_⟩;by_cases c5:(os.length:Int)=m
 case neg=>exact iTb (by rw[Zq,o2,Yc (λz=>c5 (V.int.inj z))];rfl) (iT (no (aJ.refl _) λz=>c5 z.2.2.1))
 refine iFb (by rw[Zq,o2,Ye (congrArg V.int c5)];rfl) ?_;obtain⟨n,rfl⟩:=Xh (show 0<=m by lia);have c5:os.length=n:=Int.ofNat.inj c5;refine⟨⟨_,aB o1⟩,λD hD=>?_⟩;refine bH n (λi=>.int ((os.getD i []).length:Nat)) hD (by lia) (λi H' hi g=>⟨_,.ref (or[i]'(by lia)),aB (g _ _ o1),by rw[Zk,Zz (by lia)];rfl⟩) (λH' g=>⟨_,aB (g _ _ o1),by rw[Zq,o2,c5];exact ZA _⟩) ?_ ?_
 ·rintro i H' x H'' k hi g ⟨rfl,hx⟩ hk;obtain⟨o,r,eo,rfl,er⟩:=OsI.nth o2 o3 (hx _ (aB (g _ _ o1)));refine⟨(Fills.refl _).set _ rfl,r,_,rfl,.inl (aB (g _ _ er)),?_⟩;rw[Zq,show o=os.getD i [] by rw[Zv,eo];rfl];exact hk _ (aJ.refl _)
 intro H1 g1 hD1;refine⟨D,(ZR n).map λi=>((os.getD i []).length:Int),rfl,aB (by rw[Yn];exact hD1),by simp;lia,λmx mx1 mx2=>?_⟩;refine(i2 (λc=>?_) (λc4=>?_))
 ·refine no g1 λz=>?_;obtain⟨i,hi,rfl⟩:=Zh.mp mx1;have hi:i<os.length:=by rw[c5];exact Zs.mp hi
  have:=(z.2.2.2.1 i os[i] (Zz hi)).1;have c:=Yf c;rw[Zv,Zz hi,YM]at c
  lia
 have c4:∀(i:Nat) o,os[i]?=some o->o.length<=4:=λi o ho=>by
  have hi:=(Zj.mp ho).1;have:=mx2 _ (Zh.mpr ⟨i,Zs.mpr (by lia),rfl⟩);rw[Zv,ho,YM]at this;have:=of_decide_eq_false (Bool.eq_false_iff.mpr c4)
  lia
 clear mx1 mx2 hD1;refine⟨⟨_,aB (g1 _ _ e1)⟩,cV (a:=tA) (xs:=tr.map V.ref) (λk σ H'=>(∃v4 v5,σ=[some (.ref wa),some (vn n),some (.ref tA),some (.ref oA),v4,v5,none,none,none,none,none])/\H1=H'/\∀(i:Nat) t,i<k->ts[i]?=some t->(0<=t.1/\t.1<n)/\0<=t.2/\t.2<n) ⟨⟨_,_,rfl⟩,rfl,λi t hi=>by lia⟩ ?_ ?_ ?_⟩
 ·rintro i σ H' hi ⟨_,rfl,_⟩;exact aB (g1 _ _ e1)
 ·rintro i x σ H' hx ⟨⟨v4,v5,rfl⟩,rfl,ih⟩;obtain⟨⟨u,v⟩,r,et,rfl,er⟩:=TsI.nth (a:=tA) e2 e3 hx;refine⟨_,aH (g1 _ _ er),rfl,?_⟩;have bad:¬((0<=u/\u<n)/\0<=v/\v<n)->Q (.bl false) H1:=λz=>no g1 λy=>z (y.2.1 _ (Zg et));refine⟨_,_,rfl,i2 (λc=>iT (bad λz=>?_)) (λd1=>?_)⟩
  ·have:=Yf c;split at this<;>omega
  refine⟨_,_,rfl,i2 (λc=>bad λz=>?_) (λd2=>?_)⟩
  ·have:=Yf c;split at this<;>omega
  have d1:=of_decide_eq_false (Bool.eq_false_iff.mpr d1);have d2:=of_decide_eq_false (Bool.eq_false_iff.mpr d2);refine⟨⟨_,_,rfl⟩,rfl,λj t hj ht=>?_⟩;by_cases hj2:j<i
  ·exact ih j t hj2 ht
  ·have:j=i:=by lia
   subst this;rw[et]at ht;cases ht;show(0<=u/\u<n)/\0<=v/\v<n;split at d1<;>split at d2<;>omega
 rintro σ H' ⟨⟨v4,v5,rfl⟩,rfl,hin⟩;have c6:AW.InW n ts:=λt ht=>by
  obtain⟨i,hi,rfl⟩:=Yd.mp ht;exact hin i _ (by rw[Zq,e2];exact hi) (Zz hi)
 clear hin;have lrw:∀k,(AW.rws 0 (os.take k)).length<=63:=λk=>by
  have h1:(AW.rws 0 (os.take k)).length=(os.take k).flatten.length:=by rw[<-AW.oI (os.take k) 0,Zq]
  have h2:(os.take k).flatten.length<=os.flatten.length:=by
   conv=>rhs;rw[<-List.take_append_drop k os]
   rw[List.flatten_append,Zm]
   lia
  lia
 refine⟨(by show 0<=ZW;decide),λrA hrA=>?_⟩;refine⟨oA,rfl,⟨_,aB (aC hrA _ _ _ (g1 _ _ o1))⟩,gJ (a:=oA) (xs:=or.map V.ref) (λk σ H'=>(∃rA v7 v8,σ=[some (.ref wa),some (vn n),some (.ref tA),some (.ref oA),v4,v5,some (.ref rA),v7,v8,none,none]/\TsI H' rA (AW.rws 0 (os.take k)))/\aJ H H') ⟨⟨rA,_,_,rfl,[],aA,rfl,λi t h=>by simp[AW.rws]at h⟩,g1.trans (aC hrA _)⟩ ?_ ?_ ?_⟩
 ·rintro i σ H' hi ⟨_,g⟩;exact aB (g _ _ o1)
 ·rintro i x σ H' Tp hx ⟨⟨rA,v7,v8,rfl,hR⟩,g⟩ hTp;obtain⟨o,r,eo,rfl,er⟩:=OsI.nth o2 o3 hx;have g4:=g.trans (aC hTp (.tup [vn i,.ref r]));have hR4:=hR.same (aC hTp (.tup [vn i,.ref r]));refine⟨_,aH aA,rfl,?_⟩;have hol:=c4 i o eo;have ot:os.take (i+1)=os.take i++[o]:=by rw[List.take_add_one,eo];rfl
  refine⟨⟨_,aB (g4 _ _ er)⟩,λD hD=>?_⟩;refine qK o.length (λj=>(o.getD j 0,(i:Int))) hD (by lia) (λj H5 hj g5=>⟨_,.int o[j],aB (g5 _ _ (g4 _ _ er)),by rw[Zk,Zz hj];rfl⟩) (λH5 g5=>⟨_,aB (g5 _ _ (g4 _ _ er)),by rw[Zq];exact ZA _⟩) ?_ ?_
  ·rintro j H5 x H6 k hj g5 ⟨rfl,hx⟩ hk;have ex:=hx _ (aB (g5 _ _ (g4 _ _ er)));rw[Zk,Zz hj]at ex;cases ex;exact⟨(Fills.refl _).set _ rfl,(by show 2<=ZW;decide),λa ha=>hk a _ (aC ha _) (by rw[aA,Zv,Zz hj];rfl)⟩
  intro H5 hN g5;obtain⟨pr,p1,p2,p3⟩:=hR4.same g5;obtain⟨ur,u1,u2,u3⟩:=hN;refine⟨_,_,p1,u1,?_,λp hp=>⟨⟨p,_,_,rfl,?_⟩,(g4.trans g5).trans (aC hp _)⟩⟩
  ·rw[Zq,Zq,p2,u2,Zq,Yj];have:=lrw i;exact Xz (show _<=100 by lia) (by decide)
  ·have k:=aC hp (.lst (pr.map V.ref++ur.map V.ref));have il:(os.take i).length=i:=by rw[Yx];have:=(Zj.mp eo).1;lia
   rw[ot,AW.uO,il,Nat.zero_add,<-AW.map_getD o λe=>(e,(i:Int))];exact AB p2 (λj t e=>let⟨r,r1,r2⟩:=p3 j t e;⟨r,r1,k _ _ r2⟩) u2 (λj t e=>let⟨r,r1,r2⟩:=u3 j t e;⟨r,r1,k _ _ r2⟩) aA
 rintro σ H2 ⟨⟨rA,v7,v8,rfl,hR⟩,g2⟩;rw[Zq,o2,Yw]at hR;have lR:(AW.rws 0 os).length<64:=by have:=lrw os.length;rw[Yw]at this;lia
 refine⟨rA,_,rfl,hR,lR,λsA us H3 g3 sp ss hS=>?_⟩;have g03:=g2.trans g3;refine⟨tA,_,rfl,.inl (aB (g03 _ _ e1)),.inl ⟨by decide,by decide⟩,?_⟩;rw[Zq,e2];refine⟨_,rfl,by lia,by lia,λD hD=>?_⟩;refine qK (2*ts.length) (λj=>((j:Int),AW.plc ts j)) hD (by lia) (λj H5 hj g5=>(by show j<(2*((ts.length:Nat):Int)).toNat;lia)) (λH5 g5=>(by show(2*((ts.length:Nat):Int)).toNat<=2*ts.length;lia)) ?_ ?_
 ·rintro j H5 x H6 k hj g5 ⟨rfl,rfl⟩ hk;refine⟨(Fills.refl _).set _ rfl,tA,ts,j,?_,hT.same (g03.trans g5),hj,(by show 2<=ZW;decide),λa ha=>hk a _ (aC ha _) ?_⟩
  ·rw[Int.zero_add];rfl
  ·rw[aA,Int.zero_add]
 intro H5 hN g5;have hN:TsI H5 D (AW.prs ts):=by
  have e:(ZR (2*ts.length)).map (λj:Nat=>((j:Int),AW.plc ts j))=AW.prs ts:=by unfold AW.prs AW.all2;rw[Yn];rfl
  rw[<-e];exact hN
 have g05:=g03.trans g5;refine⟨_,_,(hS.same g5).bd,hN.bd,k8 _,k8 _,?_⟩;rw[HP];by_cases c7:us=AW.prs ts
 case neg =>
  rw[Yc c7];refine iT (no g05 λz=>c7 ?_);have f:=(AW.zQ c6 z.2.2.1).mp z.2.2.2.1;exact AW.DT (sp.trans (AW.uP.mpr ⟨f.1,λi o ho=>(f.2 i o ho).2⟩)) ss (AW.KH ts)
 rw[Ye c7];have c8:=AW.uP.mp (c7▸sp.symm);have c8:AW.Fit ts os:=(AW.zQ c6 (congrArg Int.ofNat c5)).mpr ⟨c8.1,λi o ho=>⟨c4 i o ho,c8.2 i o ho⟩⟩;refine iF ?_;clear c7 sp ss hS hN g5 g3 lR hR;refine⟨(by show 1<=ZW;decide),λcA hcA=>?_⟩;have c0:H cA=none:=g05.free hcA;refine⟨⟨_,aB (aC hcA _ _ _ (g05 _ _ e1))⟩,cV (a:=tA) (xs:=tr.map V.ref) (λk σ H'=>(∃v4 v5 v10,σ=[some (.ref wa),some (vn n),some (.ref tA),some (.ref oA),v4,v5,some (.ref rA),v7,v8,some (.ref cA),v10])/\aJ H H'/\∃C:List Int,H' cA=some (.lst (C.map V.int))/\AW.Psd n ts C k) ⟨⟨_,_,_,rfl⟩,g05.trans (aC hcA _),[0],aA,.start (by lia)⟩ ?_ ?_ ?_⟩
 ·rintro i σ H' hi ⟨_,g,_⟩;exact aB (g _ _ e1)
 ·rintro i x σ H' hx ⟨⟨v4',v5',v10,rfl⟩,g,C0,hC0,hp⟩;refine⟨⟨_,aB (g _ _ e1)⟩,λD hD=>?_⟩;refine qK ts.length (λj=>((ts.getD j (0,0)).2,(ts.getD j (0,0)).1)) hD (by lia) (λj H5 hj g5=>⟨_,.ref (tr[j]'(by lia)),aB (g5 _ _ (g _ _ e1)),by rw[Zk,Zz (by lia)];rfl⟩) (λH5 g5=>⟨_,aB (g5 _ _ (g _ _ e1)),by rw[Zq,e2];exact ZA _⟩) ?_ ?_
  ·rintro j H5 x H6 k hj g5 ⟨rfl,hx⟩ hk;obtain⟨⟨u,v⟩,r,et,rfl,er⟩:=TsI.nth (a:=tA) e2 e3 (hx _ (aB (g5 _ _ (g _ _ e1))));exact⟨_,aH (g5 _ _ (g _ _ er)),rfl,((Fills.refl _).set _ rfl).set _ rfl,(by show 2<=ZW;decide),λa ha=>hk a _ (aC ha _) (by rw[aA,Zv,et];rfl)⟩
  intro H5 hN g5;obtain⟨ur,u1,u2,u3⟩:=hN;have g5':=g.trans g5;have e5:=g5' _ _ e1;refine⟨_,_,e5,u1,?_,λbA hbA=>?_⟩
  ·rw[Zq,Zq,u2,Zq,Yj];exact Xz (show _<=1000 by lia) (by decide)
  have k6:=aC hbA (.lst (tr.map V.ref++ur.map V.ref));have hB:TsI (upd H5 bA (.lst (tr.map V.ref++ur.map V.ref))) bA (AW.both ts):=by
   unfold AW.both;rw[show(ts.map λt=>(t.2,t.1))=(ZR ts.length).map λj=>((ts.getD j (0,0)).2,(ts.getD j (0,0)).1) by
    refine List.ext_getElem (by simp) λi h1 h2=>?_;have hi:i<ts.length:=by simpa using h1
    simp[Zv,Zz hi]]
   exact AB e2 (λj t e=>let⟨r,r1,r2⟩:=e3 j t e;⟨r,r1,k6 _ _ (g5' _ _ r2)⟩) u2 (λj t e=>let⟨r,r1,r2⟩:=u3 j t e;⟨r,r1,k6 _ _ r2⟩) aA
  have g6:=g5'.trans k6;have hC6:=(g5.trans k6) _ _ hC0;have cb:cA≠bA:=λz=>by rw[z]at hC0;rw[g5 _ _ hC0]at hbA;cases hbA
  generalize upd H5 bA (.lst (tr.map V.ref++ur.map V.ref))=H6 at hB g6 hC6;obtain⟨br,b1,b2,b3⟩:=id hB;refine⟨⟨_,aB b1⟩,cV (a:=bA) (xs:=br.map V.ref) (λk σ H7=>(∃v4 v5,σ=[some (.ref wa),some (vn n),some (.ref tA),some (.ref oA),v4,v5,some (.ref rA),v7,v8,some (.ref cA),some x])/\aJ H H7/\TsI H7 bA (AW.both ts)/\H7 bA=some (.lst (br.map V.ref))/\∃C:List Int,H7 cA=some (.lst (C.map V.int))/\AW.Pas n ts C0 C k) ⟨⟨_,_,rfl⟩,g6,hB,b1,C0,hC6,hp.1,.inl ⟨rfl,λj t hj=>Yg hj (Nat.not_lt_zero _)⟩⟩ ?_ ?_ ?_⟩
  ·rintro k σ H7 hk ⟨_,_,_,h,_⟩;exact aB h
  ·rintro k y σ H7 hy ⟨⟨v4'',v5'',rfl⟩,g7,hB7,b7,C,hC,hP⟩;obtain⟨br',q1,q2,q3⟩:=id hB7;rw[b7]at q1;obtain rfl:br=br':=(List.map_inj_right λa b e=>V.ref.inj e).mp (HO.lst.inj (Option.some.inj q1));obtain⟨⟨u,v⟩,r,et,rfl,er⟩:=TsI.nth (a:=bA) q2 q3 hy;have hP2:=hP.next c6 et;have l1:=hP.1.le;refine⟨_,aH er,rfl,?_⟩;refine⟨_,.inl (aB hC),rfl,sJ _,?_⟩;by_cases d1:u∈C
   case neg =>
    refine iFb (by simp[l7,d1]) (iF ⟨⟨_,_,rfl⟩,g7,hB7,b7,_,?_,hP2⟩);rw[show AW.half C u v=C by unfold AW.half;rw[Ya (λz=>d1 z.1)]];exact hC
   refine iTb (by simp[l7,d1]) ⟨_,.inl (aB hC),rfl,sJ _,?_⟩;by_cases d2:v∈C
   ·refine iFb (by simp[l7,d2]) ⟨⟨_,_,rfl⟩,g7,hB7,b7,_,?_,hP2⟩;rw[show AW.half C u v=C by unfold AW.half;rw[Ya (λz=>z.2 d2)]];exact hC
   ·refine iTb (by simp[l7,d2]) ⟨.inl ⟨rfl,_,aB hC⟩,_,hC,Xj (show _<=200 by rw[Zq];lia) (by decide),⟨_,_,rfl⟩,g7.fresh c0 _,?_,by rw[aF cb.symm];exact b7,_,?_,hP2⟩
    ·exact⟨br,by rw[aF cb.symm];exact b7,q2,λj t e=>let⟨r,r1,r2⟩:=q3 j t e;⟨r,r1,by rw[aF (show r≠cA from λz=>by rw[z,hC]at r2;cases r2)];exact r2⟩⟩
    ·rw[show AW.half C u v=C++[v] by unfold AW.half;rw[Yb ⟨d1,d2⟩],Zt];exact aA
  ·rintro σ H7 ⟨⟨v4'',v5'',rfl⟩,g7,_,_,C,hC,hP⟩;rw[Zq,b2]at hP;exact⟨⟨_,_,_,rfl⟩,g7,C,hC,hP.done hp⟩
 rintro σ H6 ⟨⟨v4',v5',v10,rfl⟩,g6,C,hC,hp⟩;rw[Zq,e2]at hp;refine⟨cA,_,rfl,.inl (aB hC),q _ _ g6 ?_⟩;have hz:=hp.whole;rw[Zq,decide_eq_true_iff];exact⟨λz=>⟨⟨⟨c1,hm2⟩,ht1,by lia⟩,c6,congrArg Int.ofNat c5,c8,hz.mp (Int.ofNat.inj (V.int.inj z))⟩,λz=>congrArg (λi:Nat=>V.int (i:Int)) (hz.mpr z.2.2.2.2)⟩
end K38
namespace L2
open PySem PySem.Spec PyProof.Rows
theorem HU{xs:List V}{x:V}(h:xs.getLast?=some x):atI xs (-1)=some x:=by
 have hn:xs≠[]:=λz=>by rw[z]at h;cases h
 have hl:0<xs.length:=List.length_pos_iff.mpr hn;rw[List.getLast?_eq_getElem?]at h;unfold atI ixN;rw[Ya (by lia),Yb (by lia)];show xs[((-1:Int)+(xs.length:Int)).toNat]?=_;rw[show((-1:Int)+(xs.length:Int)).toNat=xs.length-1 by lia];exact h
structure Bk(H H1:Hp)(lT D:Addr)(rr:List Addr)(ts:AW.Ts)(os:AW.Os)(H':Hp):Prop where
 same:aJ H H'
 sm1:aJ H H1
 tI:TsI H' lT ts
 newT:H lT=none
 oldT:∃u,H1 lT=some u
 oN:dO H1 H' D rr (vv os)
theorem Bk.keep{H H1 H' H2:Hp}{lT D:Addr}{rr:List Addr}{ts:AW.Ts}{os:AW.Os}(b:Bk H H1 lT D rr ts os H')(g:aJ H' H2):Bk H H1 lT D rr ts os H2:=⟨b.same.trans g,b.sm1,b.tI.same g,b.newT,b.oldT,b.oN.keep g⟩
theorem Bk.wrT{H H1 H':Hp}{lT D:Addr}{rr:List Addr}{ts ts':AW.Ts}{os:AW.Os}(b:Bk H H1 lT D rr ts os H'){u:HO}(t:TsI (upd H' lT u) lT ts'):Bk H H1 lT D rr ts' os (upd H' lT u):=by
 obtain⟨v,hv⟩:=b.oldT;exact⟨b.same.fresh b.newT _,b.sm1,t,b.newT,b.oldT,b.oN.other (λz=>by rw[z,b.oN.new]at hv;cases hv) (λz=>by rw[b.oN.news _ z]at hv;cases hv) _⟩
theorem Bk.setR{H H1 H':Hp}{lT D x:Addr}{ts:AW.Ts}{os:AW.Os}{rr:List Addr}(b:Bk H H1 lT D rr ts os H'){p:Nat}(hx:rr[p]?=some x)(l:List Int):Bk H H1 lT D rr ts (os.set p l) (upd H' x (.lst (l.map V.int))):=by
 obtain⟨v,hv⟩:=b.oldT;have n1:H1 x=none:=b.oN.news x (Zg hx);have nx:lT≠x:=λz=>by rw[z,n1]at hv;cases hv
 obtain⟨tr,t1,t2,t3⟩:=b.tI;obtain⟨y,hy⟩:∃y,H' x=some (.lst y):=by
  have hp:p<(vv os).length:=by rw[<-b.oN.len];exact(Zj.mp hx).1
  obtain⟨z,z1,z2⟩:=b.oN.row p _ (Zz hp);rw[hx]at z1;cases z1;exact⟨_,z2⟩
 exact⟨b.same.fresh (b.sm1.free n1) _,b.sm1,⟨tr,by rw[aF nx];exact t1,t2,λi t e=>let⟨r,q1,q2⟩:=t3 i t e;⟨r,q1,by rw[aF (show r≠x from λz=>by rw[z,hy]at q2;cases q2)];exact q2⟩⟩,b.newT,b.oldT,b.oN.setI hx l⟩
theorem Bk.web{H H1 H':Hp}{lT D r:Addr}{rr:List Addr}{m:Int}{ts:AW.Ts}{os:AW.Os}(b:Bk H H1 lT D rr ts os H')(hr:H' r=none):iG (upd H' r (.tup [.int m,.ref lT,.ref D])) r m ts os:=by
 have g:=aC hr (.tup [.int m,.ref lT,.ref D]);exact⟨lT,D,aA,b.tI.same g,b.oN.os.same g⟩
theorem Bk.row{H H1 H':Hp}{lT D:Addr}{rr:List Addr}{ts:AW.Ts}{os:AW.Os}(b:Bk H H1 lT D rr ts os H'){p:Nat}{x:Addr}(hx:rr[p]?=some x):∃hp:p<os.length,H' x=some (.lst (os[p].map V.int)):=by
 have hp:p<os.length:=by have:=b.oN.len;rw[Zq]at this;rw[<-this];exact(Zj.mp hx).1
 obtain⟨y,a1,b1,_⟩:=b.oN.at' hp;rw[hx]at a1;cases a1;exact⟨hp,b1⟩
theorem yK{l:List Int}{i:Nat}{v B:Int}(h:∀e,at0 l e<=B)(hv:v<=B)(h0:0<=B):∀e,at0 (l.set i v) e<=B:=λe=>by
 have:=h e;unfold at0 at this ⊢;rw[Zv,List.getElem?_set];rw[Zv]at this;split
 ·split
  ·exact hv
  ·exact h0
 ·exact this
theorem yL{l:List Int}{B:Int}(h:∀e,at0 l e<=B)(h0:0<=B):∀e,at0 (l++[0]) e<=B:=λe=>by
 have:=h e;unfold at0 at this ⊢;rw[Zv]at this ⊢;by_cases c:e<l.length
 ·rw[Zx c];exact this
 ·rw[Zy (by lia)];by_cases d:e-l.length=0
  ·rw[d];exact h0
  ·rw[Zr (by rw[ZQ];lia)];exact h0
theorem TsI.far{H:Hp}{D a:Addr}{ps:AW.Ts}{l l':List V}(h:TsI H a ps)(e:H D=some (.lst l))(n:a≠D):TsI (upd H D (.lst l')) a ps:=by
 obtain⟨tr,h1,h2,h3⟩:=h;have ne:∀{b:Addr}{l:List V},H b=some (.tup l)->b≠D:=λhb z=>by rw[z,e]at hb;cases hb
 exact⟨tr,by rw[aF n];exact h1,h2,λi t q=>let⟨r,r1,r2⟩:=h3 i t q;⟨r,r1,by rw[aF (ne r2)];exact r2⟩⟩
theorem IV{rr:List Addr}{p:Nat}{x a:Addr}(hx:rr[p]?=some x)(h:a∉rr):a≠x:=λz=>h (by rw[z];exact Zg hx)
structure Bq(H H1:Hp)(lT D:Addr)(rr:List Addr)(cA lA:Addr)(cs ls:List Int)(ts:AW.Ts)(os:AW.Os)(H':Hp):Prop where
 b:Bk H H1 lT D rr ts os H'
 c:H' cA=some (.lst (cs.map V.int))
 l:H' lA=some (.lst (ls.map V.int))
 nc:H cA=none
 nl:H lA=none
 ncl:cA≠lA
 oc:cA≠lT/\cA≠D/\cA∉rr
 ol:lA≠lT/\lA≠D/\lA∉rr
section
variable{H H1 H' H2:Hp}{lT D cA lA:Addr}{rr:List Addr}{cs ls:List Int}{ts:AW.Ts}{os:AW.Os}
theorem Bq.same(b:Bq H H1 lT D rr cA lA cs ls ts os H'):aJ H H':=b.b.same
theorem Bq.keep(b:Bq H H1 lT D rr cA lA cs ls ts os H')(g:aJ H' H2):Bq H H1 lT D rr cA lA cs ls ts os H2:=⟨b.b.keep g,g _ _ b.c,g _ _ b.l,b.nc,b.nl,b.ncl,b.oc,b.ol⟩
theorem Bq.wrT(b:Bq H H1 lT D rr cA lA cs ls ts os H'){ts':AW.Ts}{u:HO}(t:TsI (upd H' lT u) lT ts'):Bq H H1 lT D rr cA lA cs ls ts' os (upd H' lT u):=⟨b.b.wrT t,by rw[aF b.oc.1];exact b.c,by rw[aF b.ol.1];exact b.l,b.nc,b.nl,b.ncl,b.oc,b.ol⟩
theorem Bq.setR(b:Bq H H1 lT D rr cA lA cs ls ts os H'){p:Nat}{x:Addr}(hx:rr[p]?=some x)(l:List Int):Bq H H1 lT D rr cA lA cs ls ts (os.set p l) (upd H' x (.lst (l.map V.int))):=⟨b.b.setR hx l,by rw[aF (IV hx b.oc.2.2)];exact b.c,by rw[aF (IV hx b.ol.2.2)];exact b.l,b.nc,b.nl,b.ncl,b.oc,b.ol⟩
theorem Bq.row(b:Bq H H1 lT D rr cA lA cs ls ts os H'){p:Nat}{x:Addr}(hx:rr[p]?=some x):∃hp:p<os.length,H' x=some (.lst (os[p].map V.int)):=b.b.row hx
theorem Bk.put(b:Bk H H1 lT D rr ts os H'){a:Addr}{l l':List V}(na:H a=none)(e:H' a=some (.lst l))(n:a≠lT/\a≠D/\a∉rr):Bk H H1 lT D rr ts os (upd H' a (.lst l')) :=
 ⟨b.same.fresh na _,b.sm1,b.tI.far e (Yh n.1),b.newT,b.oldT,b.oN.other n.2.1 n.2.2 _⟩
theorem Bq.wrC(b:Bq H H1 lT D rr cA lA cs ls ts os H')(cs':List Int):Bq H H1 lT D rr cA lA cs' ls ts os (upd H' cA (.lst (cs'.map V.int))):=⟨b.b.put b.nc b.c b.oc,aA,by rw[aF (Yh b.ncl)];exact b.l,b.nc,b.nl,b.ncl,b.oc,b.ol⟩
theorem Bq.wrL(b:Bq H H1 lT D rr cA lA cs ls ts os H')(ls':List Int):Bq H H1 lT D rr cA lA cs ls' ts os (upd H' lA (.lst (ls'.map V.int))):=⟨b.b.put b.nl b.l b.ol,by rw[aF b.ncl];exact b.c,aA,b.nc,b.nl,b.ncl,b.oc,b.ol⟩
end
end L2
namespace K38
open PySem L2 PyProof.Rows
def O0:Sp:=λvs H Q _=>∃(wa sh c0 l0:Addr) (m o pk:Int) (ts:AW.Ts) (os:AW.Os) (cs ls:List Int),vs=[.ref wa,.int o,.ref sh,.int pk]/\iG H wa m ts os/\H sh=some (.tup [.ref c0,.ref l0])/\H c0=some (.lst (cs.map V.int))/\H l0=some (.lst (ls.map V.int)) /\
 0<m/\m<=1000/\0<ts.length/\ts.length<=40/\0<os.length/\os.length<=40/\os.flatten.length<=45/\0<cs.length/\cs.length<=80/\0<ls.length/\ls.length<=90/\0<=pk /\
 ∀(r w' sh' cA lA:Addr) (m' o':Int) (ts':AW.Ts) (os':AW.Os) (cs' ls':List Int) (H':Hp),aJ H H'->H' r=some (.tup [.ref w',.int o',.ref sh'])->iG H' w' m' ts' os'->H' sh'=some (.tup [.ref cA,.ref lA])->H' cA=some (.lst (cs'.map V.int))->H' lA=some (.lst (ls'.map V.int)) ->
  m'<=m+1->ts'.length=ts.length->os'.length=os.length->os'.flatten.length<=os.flatten.length+1->cs'.length=cs.length->ls'.length<=ls.length+1->ls.length<=ls'.length->(∀B:Int,0<=B->(∀e,at0 ls e<=B)->∀e,at0 ls' e<=B+1)->Q (.ref r) H'
theorem NT(T:Txt K mg t):Ok P w base T 64 1 O0:=by
 left
 obtain⟨wa,sh,c0,l0,m,o,pk,ts,os,cs,ls,rfl,hW,hsh,hc0,hl0,hm0,hm1,ht0,ht1,ho0,ho1,hf,hcs,hcs1,hls,hls1,hpk,q⟩:=h;refine⟨_,(by exists GK (i:=4) (j:=5) (k:=6) rfl nd rfl rfl rfl (by decide) (by decide) (by decide) rfl rfl rfl ?_ rfl rfl,aL,0,a9 bO rfl (T.z 5) boot_list ?_,aL,0,(eK ["_law_order"] [none]),aW ?_,aL,0,0,a9 bO rfl (T.z 5) boot_list ?_,0,xI (i:=7) (j:=8) rfl nd rfl rfl (by decide) rfl rfl ?_ rfl,a9 bO rfl (T.z 5) boot_list ?_,aL,2,a9 bO rfl (T.z 5) boot_list ?_,aL,2,9,3,10,bM,3,11,aG,6,10,6,12,bM,10,7,cI,9,4,aU,4,aG,bM,10,cI,9,(kI hr.units),11,xP YL PySem.F.slot_list_pop PySem.F.type_list_pop x9 (pv 11),cI,9,(kI hr.units),11,11,aG,11,cI,9,(kI hr.units),11,(kI hr.units),aG,6,cH ?_ ?_,aG,aG,6,aG,11,dB ?_ ?_ set_list,11,dB ?_ ?_ set_list,aG,6,cI,9,11,cH ?_ ?_,aG,11,aG,11,dB ?_ ?_ set_list,11,dB ?_ ?_ set_list,11,cI,9,1,10,cI,9,cH ?_ ?_,aU,aG,7,12,aG,bM,10,dB ?_ ?_ set_list,7,12,cI,9,cH ?_ ?_,aU,aG,8,12,8,aG,bM,10,dB ?_ ?_ set_list,8,12,8,cI,9,13,bM,10,7,cH ?_ ?_,aG,7,13,aG,7,12,dB ?_ ?_ set_list,7,12,dB ?_ ?_ set_list,7,13,cI,9,8,cI,9,cH ?_ ?_,aL,aG,5,10,5,aG,4,bM,10,4,bM,10,dB ?_ ?_ set_list,5,10,5,4,5,6,1,7,8),?_⟩;obtain⟨tA,oA,w1,⟨tr,t1,t2,t3⟩,⟨orr,o1,o2,o3⟩⟩:=hW;refine⟨_,.int m,aH w1,rfl,_,.ref tA,aH w1,rfl,tA,_,rfl,.inl (aB t1),λlT hlT=>?_⟩;have g1:=aC hlT (.lst (tr.map V.ref));have hl1:upd H lT (.lst (tr.map V.ref)) lT=some (.lst (tr.map V.ref)):=aA;generalize upd H lT (.lst (tr.map V.ref))=H1 at g1 hl1;refine⟨_,.ref oA,aH (g1 _ _ w1),rfl,⟨_,aB (g1 _ _ o1)⟩,λD hD=>?_⟩;refine jX os.length (λi=>(os.getD i []).map V.int) hD (by lia) (λi H' hi g2=>?_) (λH' g2=>?_) ?_ ?_
 ·exact⟨_,.ref (orr[i]'(by lia)),aB (g2 _ _ (g1 _ _ o1)),by rw[Zk,Zz (by lia)];rfl⟩
 ·exact⟨_,aB (g2 _ _ (g1 _ _ o1)),by rw[Zq,o2];exact ZA _⟩
 ·rintro i H' x H'' k hi g2 hy hk;obtain⟨e,y⟩:=hy;subst e;obtain⟨l,r,el,rfl,er⟩:=OsI.nth o2 o3 (y _ (aB (g2 _ _ (g1 _ _ o1))));refine⟨(Fills.refl _).set _ rfl,r,_,rfl,.inl (aB (g2 _ _ (g1 _ _ er))),λa ha=>hk a _ ha (aC ha _) ?_⟩;rw[show os.getD i []=l by rw[Zv,el];rfl];exact aA
 intro rr H2 w2 g2;rw[rows_vv]at w2;have k0:Bk H H1 lT D rr ts os H2:=⟨g1.trans g2,g1,⟨tr,g2 _ _ hl1,t2,λi u e=>let⟨x,x1,x2⟩:=t3 i u e;⟨x,x1,g2 _ _ (g1 _ _ x2)⟩⟩,hlT,⟨_,hl1⟩,w2⟩
 have lT2:=g2 _ _ hl1;clear w2 g2 hl1 hlT g1 t1 t2 t3 o1 o2 o3 w1;have s2:=k0.same;refine⟨_,.ref c0,aH (s2 _ _ hsh),rfl,c0,_,rfl,.inl (aB (s2 _ _ hc0)),λcA hcA=>?_⟩;have s3:=aC hcA (.lst (cs.map V.int));have e3:upd H2 cA (.lst (cs.map V.int)) cA=some (.lst (cs.map V.int)):=aA;have nrr:∀x∈rr,∃u,H2 x=some u:=λx hx=>by
  obtain⟨p,hp⟩:=List.getElem?_of_mem hx;obtain⟨_,h⟩:=k0.row hp;exact⟨_,h⟩
 have n3:∀a,H2 a=none->a≠lT/\a≠D/\a∉rr:=λa ha=>⟨λz=>(by rw[z,lT2]at ha;cases ha),λz=>(by rw[z,k0.oN.at_]at ha;cases ha),λz=>(by obtain⟨u,hu⟩:=nrr a z;rw[hu]at ha;cases ha)⟩
 have oc:=n3 cA hcA;have nc:=s2.free hcA;dsimp only;generalize upd H2 cA (.lst (cs.map V.int))=H3 at s3 e3 ⊢;have s23:=s2.trans s3;refine⟨_,.ref l0,aH (s23 _ _ hsh),rfl,l0,_,rfl,.inl (aB (s23 _ _ hl0)),λlA hlA=>?_⟩;have s4:=aC hlA (.lst (ls.map V.int));have b0:Bq H H1 lT D rr cA lA cs ls ts os (upd H3 lA (.lst (ls.map V.int))):=⟨(k0.keep s3).keep s4,s4 _ _ e3,aA,nc,s23.free hlA,(λz=>by rw[<-z,e3]at hlA;cases hlA),oc,n3 lA (s3.free hlA)⟩
 generalize upd H3 lA (.lst (ls.map V.int))=H4 at b0 ⊢;clear s4 s3 s2 s23 e3 nrr n3 hcA hlA k0 lT2 nc oc H2 H3;have hlen:((rr.map V.ref).length:Nat)=os.length:=by rw[Zq,b0.b.oN.len,Zq]
 refine⟨(by show(0:Int)<11;decide),?_⟩;refine⟨⟨by decide,by decide⟩,?_⟩;have hs0:0<=pk / 11:=by lia
 have hw0:=Xy pk (show(11:Int)≠0 by decide);dsimp only[cJ];generalize pk / 11=sm at hs0 ⊢;generalize pk%11=wy at hw0 ⊢;obtain⟨p,ep,hpl⟩:∃p:Nat,sm%((rr.map V.ref).length:Nat)=(p:Int)/\p<os.length:=by
  rw[hlen];have h1:=Xy sm (show(os.length:Int)≠0 by lia);have h2:=Xg sm (show 0<(os.length:Int) by lia);exact⟨(sm%(os.length:Int)).toNat,by lia,by lia⟩
 obtain⟨x,a1,_,_,d1⟩:=b0.b.oN.at' hpl;refine⟨D,_,rfl,.inl (aB b0.b.oN.at_),(by show(0:Int)<((rr.map V.ref).length:Nat);lia),_,_,aB b0.b.oN.at_,by rw[ep];exact d1,?_⟩;have cml:((cs.map V.int).length:Nat)=cs.length:=Zq ..;obtain⟨ac,eac,hac⟩:∃p:Nat,sm / 16%(((cs.map V.int).length:Nat):Int)=(p:Int)/\p<cs.length:=by
  rw[cml];have h1:=Xy (sm / 16) (show(cs.length:Int)≠0 by lia);have h2:=Xg (sm / 16) (show 0<(cs.length:Int) by lia);exact⟨(sm / 16%(cs.length:Int)).toNat,by lia,by lia⟩
 refine⟨⟨by decide,by decide⟩,cA,_,rfl,.inl (aB b0.c),(by show(0:Int)<((cs.map V.int).length:Nat);lia),?_⟩;dsimp only[cJ];rw[eac]
 let S:Int->Int->Option V->L2.St:=λmm oo o13=>[some (.ref wa),some (.int oo),some (.ref sh),some (.int pk),some (.int mm),some (.ref lT),some (.ref D),some (.ref cA),some (.ref lA),some (.int wy),some (.int sm),some (.ref x),some (vn ac),o13]
 have is:∀{n:Int},decide (V.int wy=V.int n)=true->wy=n:=λh=>V.int.inj (Yf h);have sz:∀{l:List Int},l.length<=100->(l.map V.int).length<ZW:=λh=>by rw[Zq];exact Xj h (by decide)
 refine nV (λσ' H'=>∃mm,σ'=S mm o none/\Bq H H1 lT D rr cA lA cs ls ts os H'/\mm<=m+1/\(wy≠0->mm=m)) (λ_ r1=>?_) ?_
 ·refine(i2 (λc=>?_) (λc=>r1 _ _ ⟨m,rfl,b0,by lia,λ_=>rfl⟩));refine⟨(by show 2<=ZW;decide),λl hl=>⟨⟨by decide,by decide⟩,(by show(0:Int)<2;decide),_,_,aB aA,mG,r1 _ _ ⟨_,rfl,b0.keep (aC hl _),?_,λz=>Yg (is c) z⟩⟩⟩;split<;>lia
 rintro σ' H3 ⟨mm,rfl,b1,hm2,hm3⟩;clear b0;refine nV (λσ' H'=>σ'=S mm o none/\∃os',Bq H H1 lT D rr cA lA cs ls ts os' H'/\os'.length=os.length/\os'.flatten.length<=os.flatten.length) (λ_ r1=>?_) ?_
 ·refine(i2 (λc=>?_) (λc=>iF (r1 _ _ ⟨rfl,os,b1,rfl,ZA _⟩)));obtain⟨hp,hx⟩:=b1.row a1;refine⟨(by show 0<=ZW;decide),λnA hnA=>?_⟩;have k:=aC hnA (.lst (([]:List Int).map V.int));refine⟨_,_,dZ (k _ _ hx),dZ (ns:=[]) aA,shaped_ints _,shaped_ints _,?_⟩;rw[iB];by_cases e:os[p]=[]
  ·rw[Ye e];exact iF (r1 _ _ ⟨rfl,os,b1.keep k,rfl,ZA _⟩)
  rw[Yc e];have e0:0<os[p].length:=List.length_pos_iff.mpr e;refine iT ⟨.inl ⟨rfl,_,aB (k _ _ hx)⟩,_,.int (os[p][os[p].length-1]),k _ _ hx,?_,r1 _ _ ⟨rfl,os.set p os[p].dropLast,?_,by simp,?_⟩⟩
  ·rw[Zq,Zk,Zz (by lia)];rfl
  ·rw[<-List.map_dropLast];exact(b1.keep k).setR a1 _
  ·have:=AW.gK os p os[p].dropLast hp;rw[List.length_dropLast]at this
   lia
 clear b1;rintro σ' H3 ⟨rfl,os2,b1,n2,f2⟩;refine nV (λσ' H'=>σ'=S mm o none/\∃os',Bq H H1 lT D rr cA lA cs ls ts os' H'/\os'.length=os.length/\os'.flatten.length<=os.flatten.length+1) (λ_ r1=>?_) ?_
 ·refine(i2 (λc=>?_) (λc=>iF (r1 _ _ ⟨rfl,os2,b1,n2,by lia⟩)));obtain⟨hp,hx⟩:=b1.row a1;refine⟨(by show 0<=ZW;decide),λnA hnA=>?_⟩;have k:=aC hnA (.lst (([]:List Int).map V.int));refine⟨_,_,dZ (k _ _ hx),dZ (ns:=[]) aA,shaped_ints _,shaped_ints _,?_⟩;rw[iB];by_cases e:os2[p]=[]
  ·rw[Ye e];exact iF (r1 _ _ ⟨rfl,os2,b1.keep k,n2,by lia⟩)
  rw[Yc e];have e0:0<os2[p].length:=List.length_pos_iff.mpr e;have hr2:=AW.flat_row os2 p hp;refine iT ⟨.inl ⟨rfl,_,aB (k _ _ hx)⟩,_,_,aB (k _ _ hx),bB (j:=0) (by rw[Zk,Zz e0];rfl),_,k _ _ hx,sz (by lia),r1 _ _ ⟨rfl,os2.set p (os2[p]++[os2[p][0]]),?_,by simpa using n2,?_⟩⟩
  ·rw[show os2[p].map V.int++[V.int os2[p][0]]=(os2[p]++[os2[p][0]]).map V.int by rw[Zt];rfl];exact(b1.keep k).setR a1 _
  ·have:=AW.gK os2 p (os2[p]++[os2[p][0]]) hp;rw[Zm,ZQ]at this
   lia
 clear b1 n2 f2 os2;rintro σ' H3 ⟨rfl,os2,b1,n2,f2⟩;refine nV (λσ' H'=>σ'=S mm o none/\∃os',Bq H H1 lT D rr cA lA cs ls ts os' H'/\os'.length=os.length/\os'.flatten.length<=os.flatten.length+1) (λ_ r1=>?_) ?_
 ·refine(i2 (λc=>?_) (λc=>iF (r1 _ _ ⟨rfl,os2,b1,n2,f2⟩)));obtain⟨hp,hx⟩:=b1.row a1;refine⟨(by show 0<=ZW;decide),λnA hnA=>?_⟩;have k:=aC hnA (.lst []);refine⟨_,_,dZ (k _ _ hx),dZ (ns:=[]) aA,shaped_ints _,shaped_ints _,?_⟩;rw[iB];by_cases e:os2[p]=[]
  ·rw[Ye e];exact iF (iF (r1 _ _ ⟨rfl,os2,b1.keep k,n2,f2⟩))
  rw[Yc e];have e0:0<os2[p].length:=List.length_pos_iff.mpr e;have b2:=b1.keep k;have hx:=k _ _ hx;clear b1;refine iT ?_;generalize upd H3 nA (.lst [])=H4 at b2 hx ⊢;clear k hnA;obtain⟨x0,a0,h0,_,d0⟩:=b2.b.oN.at' (p:=0) (by lia);refine⟨_,_,aB b2.b.oN.at_,d0,(by show 0<=ZW;decide),λnB hnB=>?_⟩;have k:=aC hnB (.lst []);refine⟨_,_,dZ (k _ _ h0),dZ (ns:=[]) aA,shaped_ints _,shaped_ints _,?_⟩;rw[iB];by_cases e':os2[0]=[]
  ·rw[Ye e'];exact iF (r1 _ _ ⟨rfl,os2,b2.keep k,n2,f2⟩)
  rw[Yc e'];have e0':0<os2[0].length:=List.length_pos_iff.mpr e';have b3:=b2.keep k;have hx:=k _ _ hx;have h0:=k _ _ h0;clear b2;refine iT ?_;generalize upd H4 nB (.lst [])=H5 at b3 hx h0 ⊢;clear k hnB;refine⟨_,_,aB b3.b.oN.at_,d0,_,.int (os2[0][os2[0].length-1]),aB h0,HU ?_,_,_,aB hx,bB (j:=0) (by rw[Zk,Zz e0];rfl),(by show 2<=ZW;decide),λtp htp=>?_⟩
  ·rw[List.getLast?_eq_getElem?,Zq,Zk,Zz (by omega)];rfl
  have kt:=aC htp (.tup [.int (os2[0][os2[0].length-1]),.int os2[p][0]]);refine⟨_,aH aA,rfl,_,0,kt _ _ hx,dC (by rw[Zq];exact e0) rfl,?_⟩;rw[<-ZG];have b4:=(b3.keep kt).setR a1 (os2[p].set 0 (os2[0][os2[0].length-1]));have hf1:=AW.gK os2 p (os2[p].set 0 (os2[0][os2[0].length-1])) hp;rw[ZP]at hf1;have hn:(os2.set p (os2[p].set 0 (os2[0][os2[0].length-1]))).length=os2.length:=ZP;have e6:∀l,(os2.set p (os2[p].set 0 (os2[0][os2[0].length-1])))[0]?=some l->0<l.length:=λl hl=>by
   by_cases z:p=0
   ·subst z;rw[ZK hp]at hl;cases hl;rw[ZP];exact e0
   ·rw[ZJ z,Zz (by lia)]at hl;cases hl;exact e0'
  obtain⟨os3,b4,hf1,hn,e6⟩:∃os3:AW.Os,Bq H H1 lT D rr cA lA cs ls ts os3 (upd (upd H5 tp (.tup [.int (os2[0][os2[0].length-1]),.int os2[p][0]])) x (.lst ((os2[p].set 0 (os2[0][os2[0].length-1])).map V.int)))/\os3.flatten.length=os2.flatten.length/\os3.length=os2.length/\∀l,os3[0]?=some l->0<l.length:=⟨_,b4,by lia,hn,e6⟩
  generalize upd (upd H5 tp _) x _=H6 at b4 ⊢;obtain⟨hp0,h6⟩:=b4.row a0;have e6:=e6 _ (Zz hp0);refine⟨_,_,aB b4.b.oN.at_,d0,_,os3[0].length-1,h6,?_,r1 _ _ ⟨rfl,os3.set 0 (os3[0].set (os3[0].length-1) os2[p][0]),?_,by rw[ZP];lia,?_⟩⟩
  ·rw[Zq];unfold ixN;rw[Ya (by decide),Yb (by lia)];congr 1
   lia
  ·rw[<-ZG];exact b4.setR a0 _
  ·have:=AW.gK os3 0 (os3[0].set (os3[0].length-1) os2[p][0]) hp0;rw[ZP]at this
   lia
 clear b1 n2 f2 os2;rintro σ' H3 ⟨rfl,os2,b1,n2,f2⟩;refine nV (λσ' H'=>σ'=S mm o none/\∃os',Bq H H1 lT D rr cA lA cs ls ts os' H'/\os'.length=os.length/\os'.flatten.length<=os.flatten.length+1) (λ_ r1=>?_) ?_
 ·refine(i2 (λc=>?_) (λc=>iF (r1 _ _ ⟨rfl,os2,b1,n2,f2⟩)));obtain⟨hp,hx⟩:=b1.row a1;refine⟨x,_,rfl,.inl (aB hx),i2 (λd=>?_) (λ_=>r1 _ _ ⟨rfl,os2,b1,n2,f2⟩)⟩;have d:2<os2[p].length:=by have:=Yf d;rw[Zq]at this;lia
  have at_:∀{j:Nat}(h:j<os2[p].length),atI (os2[p].map V.int) (j:Int)=some (.int os2[p][j]):=λh=>bB (by rw[Zk,Zz h];rfl);refine⟨_,_,aB hx,at_ (j:=1) (by lia),_,_,aB hx,at_ (j:=0) (by lia),(by show 2<=ZW;decide),λtp htp=>?_⟩;have kt:=aC htp (.tup [.int os2[p][1],.int os2[p][0]]);refine⟨_,aH aA,rfl,_,0,kt _ _ hx,dC (by rw[Zq];lia) rfl,?_⟩;rw[<-ZG];have b4:=(b1.keep kt).setR a1 (os2[p].set 0 os2[p][1]);have h4:upd (upd H3 tp (.tup [.int os2[p][1],.int os2[p][0]])) x (.lst ((os2[p].set 0 os2[p][1]).map V.int)) x=some (.lst ((os2[p].set 0 os2[p][1]).map V.int)):=aA;refine⟨_,1,h4,dC (by rw[Zq,ZP];lia) rfl,r1 _ _ ⟨rfl,(os2.set p (os2[p].set 0 os2[p][1])).set p ((os2[p].set 0 os2[p][1]).set 1 os2[p][0]),?_,by rw[ZP,ZP];exact n2,?_⟩⟩
  ·rw[<-ZG];exact b4.setR a1 _
  ·rw[List.set_set];have:=AW.gK os2 p ((os2[p].set 0 os2[p][1]).set 1 os2[p][0]) hp;rw[ZP,ZP]at this
   lia
 clear b1 n2 f2 os2;rintro σ' H3 ⟨rfl,os2,b1,n2,f2⟩;refine nV (λσ' H'=>∃oo,σ'=S mm oo none/\Bq H H1 lT D rr cA lA cs ls ts os2 H') (λ_ r1=>?_) ?_
 ·refine(i2 (λc=>?_) (λc=>r1 _ _ ⟨o,rfl,b1⟩));exact⟨(by show(0:Int)<10;decide),r1 _ _ ⟨_,rfl,b1⟩⟩
 clear b1;rintro σ' H3 ⟨oo,rfl,b1⟩;refine nV (λσ' H'=>σ'=S mm oo none/\∃cs',Bq H H1 lT D rr cA lA cs' ls ts os2 H'/\cs'.length=cs.length) (λ_ r1=>?_) ?_
 ·refine(i2 (λc=>?_) (λc=>r1 _ _ ⟨rfl,cs,b1,rfl⟩));refine⟨_,_,aB b1.c,aS (j:=ac) hac rfl,(by show 2<=ZW;decide),λl hl=>⟨⟨by decide,by decide⟩,(by show(0:Int)<2;decide),_,_,aB aA,mG,?_⟩⟩;have k:=b1.keep (aC hl (.lst [V.int 1,V.int (-1)]));refine⟨_,ac,k.c,dC (by rw[Zq];exact hac) rfl,r1 _ _ ⟨rfl,cs.set ac (at0 cs ac+if sm / 512%2=0 then 1 else -1),?_,ZP⟩⟩;have:=k.wrC (cs.set ac (at0 cs ac+if sm / 512%2=0 then 1 else -1));rw[ZG]at this;exact this
 clear b1;rintro σ' H3 ⟨rfl,cs2,b1,n6⟩;have lml:((ls.map V.int).length:Nat)=ls.length:=Zq ..;obtain⟨al,eal,hal⟩:∃p:Nat,(ac:Int)%(((ls.map V.int).length:Nat):Int)=(p:Int)/\p<ls.length:=by
  rw[lml];have h1:=Xy (ac:Int) (show(ls.length:Int)≠0 by lia);have h2:=Xg (ac:Int) (show 0<(ls.length:Int) by lia);exact⟨((ac:Int)%(ls.length:Int)).toNat,by lia,by lia⟩
 have posl:(0:Int)<((ls.map V.int).length:Nat):=by lia
 refine nV (λσ' H'=>σ'=S mm oo none/\∃ls',Bq H H1 lT D rr cA lA cs2 ls' ts os2 H'/\ls'.length=ls.length/\(∀B:Int,0<=B->(∀e,at0 ls e<=B)->∀e,at0 ls' e<=B+1)) (λ_ r1=>?_) ?_
 ·refine(i2 (λc=>?_) (λc=>r1 _ _ ⟨rfl,ls,b1,rfl,λB _ h e=>by have:=h e;lia⟩));refine⟨lA,_,rfl,.inl (aB b1.l),posl,_,_,aB b1.l,(by rw[eal];exact aS (j:=al) hal rfl),(by show 2<=ZW;decide),λl hl=>⟨⟨by decide,by decide⟩,(by show(0:Int)<2;decide),_,_,aB aA,mG,?_⟩⟩;have k:=b1.keep (aC hl (.lst [V.int 1,V.int (-1)]));refine⟨lA,_,rfl,.inl (aB k.l),posl,_,al,k.l,(by rw[eal];exact dC (by rw[Zq];exact hal) rfl),r1 _ _ ⟨rfl,ls.set al (at0 ls al+if sm / 512%2=0 then 1 else -1),?_,ZP,λB h0 h=>yK (λe=>by have:=h e;lia) (by have:=h al;split<;>lia) (by lia)⟩⟩;have:=k.wrL (ls.set al (at0 ls al+if sm / 512%2=0 then 1 else -1));rw[ZG]at this;exact this
 clear b1;rintro σ' H3 ⟨rfl,ls2,b1,n7,u7⟩;refine nV (λσ' H'=>∃(o13:Option V) (cs':List Int),σ'=S mm oo o13/\Bq H H1 lT D rr cA lA cs' ls2 ts os2 H'/\cs'.length=cs.length) (λ_ r1=>?_) ?_
 ·refine(i2 (λc=>?_) (λc=>r1 _ _ ⟨none,cs2,rfl,b1,n6⟩));have c2l:((cs2.map V.int).length:Nat)=cs.length:=by rw[Zq,n6]
  obtain⟨aj,eaj,haj⟩:∃p:Nat,sm / 512%(((cs2.map V.int).length:Nat):Int)=(p:Int)/\p<cs2.length:=by
   rw[c2l];have h1:=Xy (sm / 512) (show(cs.length:Int)≠0 by lia);have h2:=Xg (sm / 512) (show 0<(cs.length:Int) by lia);exact⟨(sm / 512%(cs.length:Int)).toNat,by lia,by lia⟩
  refine⟨⟨by decide,by decide⟩,cA,_,rfl,.inl (aB b1.c),(by show(0:Int)<((cs2.map V.int).length:Nat);lia),?_⟩;dsimp only[cJ];rw[eaj];refine⟨_,_,aB b1.c,aS (j:=aj) haj rfl,_,_,aB b1.c,aS (j:=ac) (by lia) rfl,(by show 2<=ZW;decide),λtp htp=>?_⟩;have k:=b1.keep (aC htp (.tup [.int (at0 cs2 aj),.int (at0 cs2 ac)]));refine⟨_,aH aA,rfl,_,ac,k.c,dC (by rw[Zq];lia) rfl,?_⟩;rw[<-ZG];have k2:=k.wrC (cs2.set ac (at0 cs2 aj));refine⟨_,aj,k2.c,dC (by rw[Zq,ZP];exact haj) rfl,r1 _ _ ⟨_,(cs2.set ac (at0 cs2 aj)).set aj (at0 cs2 ac),rfl,?_,by rw[ZP,ZP];exact n6⟩⟩;rw[<-ZG];exact k2.wrC _
 clear b1 n6;rintro σ' H3 ⟨o13,cs3,rfl,b1,n6⟩;clear cs2;refine nV (λσ' H'=>σ'=S mm oo o13/\∃ls',Bq H H1 lT D rr cA lA cs3 ls' ts os2 H'/\ls'.length<=ls.length+1/\ls.length<=ls'.length/\(∀B:Int,0<=B->(∀e,at0 ls e<=B)->∀e,at0 ls' e<=B+1)) (λ_ r1=>?_) ?_
 ·refine(i2 (λc=>?_) (λc=>r1 _ _ ⟨rfl,ls2,b1,by lia,by lia,u7⟩));refine⟨.inl ⟨rfl,_,aB b1.l⟩,_,b1.l,sz (by lia),r1 _ _ ⟨rfl,ls2++[0],?_,by simp;lia,by simp;lia,λB h0 h=>yL (u7 B h0 h) (by lia)⟩⟩;have:=b1.wrL (ls2++[0]);rw[Zt]at this;exact this
 clear b1 n7 u7;rintro σ' H3 ⟨rfl,ls3,b1,n7,n8,u8⟩;clear ls2;obtain⟨cs2,ecs⟩:∃c,cs3=c:=⟨_,rfl⟩
 obtain⟨ls2,els⟩:∃c,ls3=c:=⟨_,rfl⟩
 rw[ecs]at b1 n6;rw[els]at b1 n7 n8 u8;refine nV (λσ' H'=>σ'=S mm oo o13/\∃ts',Bq H H1 lT D rr cA lA cs2 ls2 ts' os2 H'/\ts'.length=ts.length) (λ_ r1=>?_) ?_
 ·refine(i2 (λc=>?_) (λc=>r1 _ _ ⟨rfl,ts,b1,rfl⟩));have em:mm=m:=hm3 (by have:=is c;lia);obtain⟨tr',t1,t2,t3⟩:=id b1.b.tI;have tl:(tr'.map V.ref).length=ts.length:=by rw[Zq,t2]
  obtain⟨j,ej,hj⟩:∃j:Nat,sm%((tr'.map V.ref).length:Nat)=(j:Int)/\j<ts.length:=by
   rw[tl];have h1:=Xy sm (show(ts.length:Int)≠0 by lia);have h2:=Xg sm (show 0<(ts.length:Int) by lia);exact⟨(sm%(ts.length:Int)).toNat,by lia,by lia⟩
  obtain⟨r,r1',r2⟩:=t3 j ts[j] (Zz hj);have pos:(0:Int)<((tr'.map V.ref).length:Nat):=by lia
  obtain⟨z,hz⟩:∃z,atI [V.int mm,V.int (-1),V.int (sm / 16%mm)] (sm / 512%3)=some (.int z):=by
   have h:sm / 512%3=0\/sm / 512%3=1\/sm / 512%3=2:=by lia
   rcases h with h | h | h<;>rw[h]<;>exact⟨_,rfl⟩
  have aj:atI (tr'.map V.ref) (j:Int)=some (.ref r):=bB (by rw[Zk,r1'];rfl);refine⟨lT,_,rfl,.inl (aB t1),pos,_,.ref r,aB t1,(by rw[ej];exact aj),_,.int ts[j].1,aH r2,rfl,?_⟩;refine⟨⟨by decide,by decide⟩,(by show 0<mm;lia),(by show 3<=ZW;decide),λlA hlA=>?_⟩;refine⟨⟨by decide,by decide⟩,(by show(0:Int)<3;decide),_,.int z,aB aA,hz,(by show 2<=ZW;decide),λtp htp=>?_⟩;have k:=(aC hlA (.lst [V.int mm,V.int (-1),V.int (sm / 16%mm)])).trans (aC htp (.tup [V.int ts[j].1,.int z]));have hp7:upd (upd H3 lA (.lst [V.int mm,V.int (-1),V.int (sm / 16%mm)])) tp (.tup [V.int ts[j].1,.int z]) tp=some (.tup [V.int ts[j].1,.int z]):=aA;have b7:=b1.keep k;have t7:=k _ _ t1;have u7:∀(i:Nat) t,ts[i]?=some t->∃r,tr'[i]?=some r/\upd (upd H3 lA (.lst [V.int mm,V.int (-1),V.int (sm / 16%mm)])) tp (.tup [V.int ts[j].1,.int z]) r=some (.tup [.int t.1,.int t.2]):=λi t e=>let⟨r,q1,q2⟩:=t3 i t e;⟨r,q1,k _ _ q2⟩;exact⟨lT,_,rfl,.inl (aB t7),pos,_,j,t7,(by rw[ej];exact dC (by lia) rfl),r1 _ _ ⟨rfl,ts.set j (ts[j].1,z),b7.wrT (TsI.put t7 t2 u7 hp7 j),ZP⟩⟩
 clear b1;rintro σ' H3 ⟨rfl,ts2,b1,t2⟩;refine⟨(by show 3<=ZW;decide),λw' hw'=>?_⟩;have s5:=aC hw' (.tup [.int mm,.ref lT,.ref D]);have w5:=b1.b.web (m:=mm) hw';have k5:=b1.keep s5;dsimp only;generalize upd H3 w' (.tup [.int mm,.ref lT,.ref D])=H5 at w5 k5 ⊢;refine⟨(by show 2<=ZW;decide),λsh' hsh'=>?_⟩;have s6:=aC hsh' (.tup [.ref cA,.ref lA]);have e6:upd H5 sh' (.tup [.ref cA,.ref lA]) sh'=some (.tup [.ref cA,.ref lA]):=aA;have k6:=k5.keep s6;have w6:=w5.same s6;dsimp only;generalize upd H5 sh' (.tup [.ref cA,.ref lA])=H6 at e6 k6 w6 ⊢;refine⟨(by show 3<=ZW;decide),λr hr0=>?_⟩;have s7:=aC hr0 (.tup [.ref w',.int oo,.ref sh']);exact q r w' sh' cA lA mm oo ts2 os2 cs2 ls2 _ (k6.same.trans s7) aA (w6.same s7) (s7 _ _ e6) (s7 _ _ k6.c) (s7 _ _ k6.l) hm2 t2 n2 f2 n6 n7 n8 u8
inductive Due(m:Int)(ts:AW.Ts)(os:AW.Os)(o:Int)(cs ls:List Int):Str->Prop
 |map:¬AW.hJ m ts os->Due m ts os o cs ls (ZT "map")
 |flat (tn:MM.aR) (on:MM.aT):m=(on.length:Int)->ts=AW.cT tn->os=AW.cO on->AW.hJ m ts os->MM.Good tn on->¬MM.Flat tn on->Due m ts os o cs ls (ZT "flat")
 |land (tn:MM.aR) (on:MM.aT):m=(on.length:Int)->ts=AW.cT tn->os=AW.cO on->AW.hJ m ts os->MM.Good tn on->MM.Flat tn on->¬(0<=o/\o<nL tn on)->Due m ts os o cs ls (ZT "land")
 |told (tn:MM.aR) (on:MM.aT) (n:Nat) (b:Bool):m=(on.length:Int)->ts=AW.cT tn->os=AW.cO on->AW.hJ m ts os->MM.Good tn on->MM.Flat tn on->o=(n:Int)->n<nL tn on->MM.shB tn on n cs ls=b->Due m ts os o cs ls (if b=true then ZT "ok" else ZT "shape")
def M7:Sp:=λvs H Q _=>∃(wa sh c0 l0:Addr) (m o:Int) (ts:AW.Ts) (os:AW.Os) (cs ls:List Int),vs=[.ref wa,.int o,.ref sh]/\iG H wa m ts os/\H sh=some (.tup [.ref c0,.ref l0])/\H c0=some (.lst (cs.map V.int))/\H l0=some (.lst (ls.map V.int))/\1<=ts.length/\ts.length<=40/\os.length<=40/\m<=200/\os.flatten.length<=63 /\
 ∀(z:Str) (H':Hp),aJ H H'->Due m ts os o cs ls z->Q (.str z) H'
theorem K8(T:Txt K mg t):Ok P w base T 67 5 M7:=by
 left
 obtain⟨wa,sh,c0,l0,m,o,ts,os,cs,ls,rfl,hW,hsh,hc0,hl0,h1,h2,ho4,h3,hfl,q⟩:=h;refine⟨_,(by exists bR ?_ (λ_=>rfl),NS,0,3,mY,aL,0,aL,0,eO,aU,aL,0,3,aU,aL,0,1,1,3,aG,a9 fW rfl (T.z 2) boot_int ?_,uZ,0,1,2),?_⟩;refine⟨wa,m,ts,os,rfl,hW,h1,by lia,h3,hfl,λb H1 g1 hb=>⟨b,rfl,?_⟩⟩;cases b with
 |false=>exact iT (q _ _ g1 (.map λz=>Bool.noConfusion (hb.mpr z)))
 |true =>
  have hm:=hb.mp rfl;obtain⟨tn,on,rfl,rfl,rfl,hg⟩:=AW.zI hm;refine iF ?_;obtain⟨tA,oA,w1,hT,hO⟩:=hU (hW.same g1);obtain⟨trr,t1,t2,t3⟩:=id hT;have tl:tn.length<=40:=by rw[AW.fP]at h2;exact h2
  have ol:on.length<=40:=by rw[AW.kO]at ho4;exact ho4
  refine⟨_,.ref tA,aH w1,rfl,_,.ref oA,aH w1,rfl,tA,oA,tn,on,rfl,hT,hO,hg,by lia,λr rr H2 g2 hN=>?_⟩;have nl:(rr.map V.ref).length=nL tn on:=by rw[Zq,hN.len]
  have en:nL tn on=(MM.cD (MM.behind tn on) (2*tn.length)).length:=rfl;have g12:=g1.trans g2;dsimp only[cJ];refine⟨_,.int on.length,aH (g2 _ _ w1),rfl,r,_,rfl,.inl (aB hN.at_),_,.ref tA,aH (g2 _ _ w1),rfl,tA,_,rfl,.inl (aB (g2 _ _ t1)),?_⟩;rw[nl,Zq,t2];by_cases c:MM.Flat tn on
  case neg =>
   refine iTb ?_ (q _ _ g12 (.flat tn on rfl rfl rfl hm hg c));rw[Yc λz=>c (by unfold MM.Flat MM.pX;have:=V.int.inj z;lia)];rfl
  have c':=c;unfold MM.Flat MM.pX at c';refine iFb (by rw[Ye (congrArg V.int (by lia))];rfl) ?_;by_cases y1:o<0
  ·exact iTb (Ye y1) (iT (q _ _ g12 (.land tn on rfl rfl rfl hm hg c λz=>by lia)))
  refine iFb (Yc y1) ?_;refine⟨r,_,rfl,.inl (aB hN.at_),?_⟩;rw[nl];by_cases y2:(nL tn on:Int)<=o
  ·exact iTb (Ye y2) (q _ _ g12 (.land tn on rfl rfl rfl hm hg c λz=>by lia))
  refine iFb (Yc y2) ?_;refine⟨(by show 2<=ZW;decide),λlA hlA=>?_⟩;have k:=aC hlA (.lst [V.str "shape",V.str "ok"]);have hl:upd H2 lA (.lst [V.str "shape",V.str "ok"]) lA=some (.lst [V.str "shape",V.str "ok"]):=aA;generalize upd H2 lA (.lst [V.str "shape",V.str "ok"])=H3 at k hl ⊢;have g13:=g12.trans k;obtain⟨n,rfl⟩:∃n:Nat,o=(n:Int):=⟨o.toNat,by lia⟩
  refine⟨wa,sh,c0,l0,n,tn,on,cs,ls,rfl,hU (hW.same g13),hg,tl,ol,g13 _ _ hsh,g13 _ _ hc0,g13 _ _ hl0,λH4 g4=>.inr ⟨_,rfl,?_⟩⟩;have qq:=q _ _ (g13.trans g4) (.told tn on n _ rfl rfl rfl hm hg c rfl (by lia) rfl);cases hb:MM.shB tn on n cs ls with
  |false =>
   rw[hb]at qq;exact⟨_,_,aB (g4 _ _ hl),rfl,qq⟩
  |true =>
   rw[hb]at qq;exact⟨_,_,aB (g4 _ _ hl),rfl,qq⟩
def J9(sp:Sp)(wd:String):Sp:=λvs H Q _=>vs.length=3/\(∀R:VK,sp vs H R λ_ _ H2=>aJ H H2)/\∀H',aJ H H'->Q (.str (ZT wd)) H'
theorem oK(T:Txt K mg t){C:Addr}{wd:String}{sp:Sp}(G:OkX P w base T C 40 9 sp)(up:L2.FT K C (t.c 0))(ve:PySem.W.subIn K (.ref C) (.type "ValueError")=some true)(xK:L2.qU K C)
  (n0:L2.oD K C (t.c 6)) (n1:L2.oD K C (t.c 4)) (n2:L2.oD K C (t.c 8)) (n3:L2.oD K C (t.c 9)) (n4:L2.oD K C (t.c 7)) (n5:L2.oD K C (t.c 10))
  (b0:PySem.W.kitOne K (.ref C) (.ref (t.c 1))=some (wd=="map")) (b1:PySem.W.kitOne K (.ref C) (.ref (t.c 2))=some (wd=="flat")) (b2:PySem.W.kitOne K (.ref C) (.ref (t.c 3))=some (wd=="land")) (b3:PySem.W.kitOne K (.ref C) (.ref (t.c 5))=some (wd=="shape")) (hw:wd="map"\/wd="flat"\/wd="land"\/wd="shape") :
  Ok P w base T 68 10 (J9 sp wd):=by
 refine T.ok 68 (λvs H Q E h=>h.1) ?_;intro cdv A outer s H vs Q E hr h nd X;obtain⟨hl,h,q⟩:=h
 match vs,hl with
 |[v1,v2,v3],_ =>
 refine⟨_,(by exists 3,uU (i:=4) (C:=C) (E:=λ_ _ H2=>aJ H H2) rfl rfl rfl rfl (T.m 0) rfl up.exm nd rfl rfl (λpn xe hx=>(bX (bK (cM G hr (T.f 40) hx (aE (pv 0) (aE (pv 1) (aE (pv 2) aK))))))) (λpn xe e=>(bX (cS 3 nd (pv 4)))),DX,3,bR ?_ (λ_=>rfl),aP qQ rfl (T.z 3) boot_isinstance ?_,3,bL (v:=.ref (t.c 6)) rfl (T.m 6) rfl,bL (v:=.ref (t.c 4)) rfl (T.m 4) rfl,bL (v:=.ref (t.c 8)) rfl (T.m 8) rfl,bL (v:=.ref (t.c 9)) rfl (T.m 9) rfl,bL (v:=.ref (t.c 7)) rfl (T.m 7) rfl,bL (v:=.ref (t.c 10)) rfl (T.m 10) rfl,bR ?_ (λ_=>rfl),aP cY rfl (T.z 3) boot_isinstance ?_,3,zB (v:=.ty "ValueError") rfl (T.z 12) PyProof.Rows.Boot.«ValueError» rfl,5,aP cY rfl (T.z 3) boot_isinstance ?_,3,bL (v:=.ref (t.c 1)) rfl (T.m 1) rfl,aP cY rfl (T.z 3) boot_isinstance ?_,3,bL (v:=.ref (t.c 2)) rfl (T.m 2) rfl,5,hZ,5,aP cY rfl (T.z 3) boot_isinstance ?_,3,bL (v:=.ref (t.c 3)) rfl (T.m 3) rfl,aP cY rfl (T.z 3) boot_isinstance ?_,3,bL (v:=.ref (t.c 5)) rfl (T.m 5) rfl,eO,fS YL PySem.F.slot_list_count PySem.F.type_list_count sE ?_ ?_,5,aG,fS YL PySem.F.slot_list_index PySem.F.type_list_index sD ?_ ?_,5),?_⟩;refine⟨(h _),?_⟩;rintro x σ' H1 hlen g1 hx
 match σ',hlen with
 |[s0,s1,s2,s3,s4,s5],_ =>
 have hx2:upd H1 x (nY C x) x=some (nY C x):=aA;refine⟨rfl,iF ?_⟩;refine⟨(by show 6<=ZW;decide),λtp htp=>?_⟩;have k1:=aC htp (.tup [V.ref (t.c 6),V.ref (t.c 4),V.ref (t.c 8),V.ref (t.c 9),V.ref (t.c 7),V.ref (t.c 10)]);refine⟨x,C,tp,_,false,rfl,k1 _ _ hx2,aA,xK,nP (cs:=[(t.c 6),(t.c 4),(t.c 8),(t.c 9),(t.c 7),(t.c 10)]) (by simp only[Zn,ZL,or_false];rintro D (rfl | rfl | rfl | rfl | rfl | rfl)<;>assumption),_,rfl,iF ?_⟩;have hx3:=k1 _ _ hx2;have g3:=(g1.trans (aC hx (nY C x))).trans k1;dsimp only;generalize upd (upd H1 x (nY C x)) tp (.tup [V.ref (t.c 6),V.ref (t.c 4),V.ref (t.c 8),V.ref (t.c 9),V.ref (t.c 7),V.ref (t.c 10)])=H3 at hx3 g3 ⊢;refine⟨x,C,_,_,true,rfl,.inr ⟨_,rfl,rfl⟩,hx3,xK,LM ve,_,rfl,iF ?_⟩;refine⟨x,C,_,_,_,rfl,.inl ⟨_,rfl,rfl⟩,hx3,xK,b0,x,C,_,_,_,rfl,.inl ⟨_,rfl,rfl⟩,hx3,xK,b1,(by show 2<=ZW;decide),λl1 hl1=>?_⟩;have k4:=aC hl1 (.lst [V.bl (wd=="map"),V.bl (wd=="flat")]);have e4:upd H3 l1 (.lst [V.bl (wd=="map"),V.bl (wd=="flat")]) l1=some (.lst [V.bl (wd=="map"),V.bl (wd=="flat")]):=aA;dsimp only[cJ];generalize upd H3 l1 (.lst [V.bl (wd=="map"),V.bl (wd=="flat")])=H4 at k4 e4 ⊢;have hx4:=k4 _ _ hx3;refine⟨x,C,_,_,_,rfl,.inl ⟨_,rfl,rfl⟩,hx4,xK,b2,x,C,_,_,_,rfl,.inl ⟨_,rfl,rfl⟩,hx4,xK,b3,(by show 2<=ZW;decide),λl2 hl2=>?_⟩;have k5:=aC hl2 (.lst [V.bl (wd=="land"),V.bl (wd=="shape")]);refine⟨_,_,k5 _ _ e4,aA,(by show 4<=ZW;decide),λl3 hl3=>?_⟩;have k6:=aC hl3 (.lst ([V.bl (wd=="map"),V.bl (wd=="flat")]++[V.bl (wd=="land"),V.bl (wd=="shape")]));have e6:upd (upd H4 l2 (.lst [V.bl (wd=="land"),V.bl (wd=="shape")])) l3 (.lst ([V.bl (wd=="map"),V.bl (wd=="flat")]++[V.bl (wd=="land"),V.bl (wd=="shape")])) l3=some (.lst [V.bl (wd=="map"),V.bl (wd=="flat"),V.bl (wd=="land"),V.bl (wd=="shape")]):=aA;have g6:=g3.trans (k4.trans (k5.trans k6));dsimp only[cJ];generalize upd (upd H4 l2 (.lst [V.bl (wd=="land"),V.bl (wd=="shape")])) l3 (.lst ([V.bl (wd=="map"),V.bl (wd=="flat")]++[V.bl (wd=="land"),V.bl (wd=="shape")]))=H6 at e6 g6 ⊢;have cnt:([V.bl (wd=="map"),V.bl (wd=="flat"),V.bl (wd=="land"),V.bl (wd=="shape")].countP λy=>eqV y (.bl true))=1:=by
  rcases hw with rfl | rfl | rfl | rfl<;>decide
 refine⟨.inl ⟨rfl,_,aB e6⟩,_,e6,rfl,rfl,?_⟩;rw[cnt];refine(iFb rfl ?_);refine⟨(by show 4<=ZW;decide),λl4 hl4=>?_⟩;have k7:=aC hl4 (.lst [V.str "map",V.str "flat",V.str "land",V.str "shape"]);have e7:upd H6 l4 (.lst [V.str "map",V.str "flat",V.str "land",V.str "shape"]) l4=some (.lst [V.str "map",V.str "flat",V.str "land",V.str "shape"]):=aA;have e67:=k7 _ _ e6;have g7:=g6.trans k7;dsimp only;generalize upd H6 l4 (.lst [V.str "map",V.str "flat",V.str "land",V.str "shape"])=H7 at e7 e67 g7 ⊢;have qq:=q _ g7;refine⟨.inl ⟨rfl,_,aB e67⟩,_,if wd="map" then 0 else if wd="flat" then 1 else if wd="land" then 2 else 3,e67,rfl,rfl,?_,?_,_,.str (ZT wd),aB e7,?_,qq⟩
 ·rcases hw with rfl | rfl | rfl | rfl<;>exact⟨_,rfl,by decide⟩
 ·rcases hw with rfl | rfl | rfl | rfl<;>intro m y hm hy
  ·simp at hm
  ·have:m=0:=by simp at hm;lia
   subst this;cases hy;decide
  ·have:m=0\/m=1:=by simp at hm;lia
   rcases this with rfl | rfl<;>cases hy<;>decide
  ·have:m=0\/m=1\/m=2:=by simp at hm;lia
   rcases this with rfl | rfl | rfl<;>cases hy<;>decide
 ·rcases hw with rfl | rfl | rfl | rfl<;>rfl
theorem NI(T:Txt K mg t):Ok P w base T 68 10 (λvs H Q E=>M5 vs H (λ_ H'=>Q (.str (ZT "ok")) H') E):=by
 have G0:=K1 (P:=P) (w:=w) (base:=base) T
 left
 obtain⟨wa,sa,c0,l0,o,ts,os,cs,ls,rfl,hM,hF,ho,t40,o40,hsa,hc0,hl0,hB,hb,q⟩:=h;refine⟨_,(by exists 3,uU (i:=4) (C:=(t.c 1)) (E:=λ_ _ _=>False) rfl rfl rfl rfl (T.m 0) rfl (T.e 1).xu.exm nd rfl rfl (λpn xe hx=>(bX (bK (cM G0 hr (T.f 40) bW (aE (pv 0) (aE (pv 1) (aE (pv 2) aK))))))) (λpn xe e=>(bX (cS 3 nd (pv 4)))),DX,3,bR ?_ (λ_=>rfl),aP qQ rfl (T.z 3) boot_isinstance ?_,3,bL (v:=.ref (t.c 6)) rfl (T.m 6) rfl,bL (v:=.ref (t.c 4)) rfl (T.m 4) rfl,bL (v:=.ref (t.c 8)) rfl (T.m 8) rfl,bL (v:=.ref (t.c 9)) rfl (T.m 9) rfl,bL (v:=.ref (t.c 7)) rfl (T.m 7) rfl,bL (v:=.ref (t.c 10)) rfl (T.m 10) rfl,bR ?_ (λ_=>rfl),aP cY rfl (T.z 3) boot_isinstance ?_,3,zB (v:=.ty "ValueError") rfl (T.z 12) PyProof.Rows.Boot.«ValueError» rfl,5,aP cY rfl (T.z 3) boot_isinstance ?_,3,bL (v:=.ref (t.c 1)) rfl (T.m 1) rfl,aP cY rfl (T.z 3) boot_isinstance ?_,3,bL (v:=.ref (t.c 2)) rfl (T.m 2) rfl,5,hZ,5,aP cY rfl (T.z 3) boot_isinstance ?_,3,bL (v:=.ref (t.c 3)) rfl (T.m 3) rfl,aP cY rfl (T.z 3) boot_isinstance ?_,3,bL (v:=.ref (t.c 5)) rfl (T.m 5) rfl,eO,fS YL PySem.F.slot_list_count PySem.F.type_list_count sE ?_ ?_,5,aG,fS YL PySem.F.slot_list_index PySem.F.type_list_index sD ?_ ?_,5),?_⟩;exact⟨⟨wa,sa,c0,l0,o,ts,os,cs,ls,rfl,hM,hF,ho,t40,o40,hsa,hc0,hl0,hB,hb,λv H1 g1=>⟨rfl,iT (q v _ g1)⟩⟩,λx σ' H1 _ z=>z.elim⟩
def OS:Sp:=λvs H Q _=>∃(wa sh c0 l0:Addr) (m o:Int) (ts:AW.Ts) (os:AW.Os) (cs ls:List Int) (z:Str),vs=[.ref wa,.int o,.ref sh]/\iG H wa m ts os/\H sh=some (.tup [.ref c0,.ref l0])/\H c0=some (.lst (cs.map V.int))/\H l0=some (.lst (ls.map V.int))/\ts.length<=40/\os.length<=40/\(∀e,at0 ls e<=2000)/\Due m ts os o cs ls z /\
 ∀H',aJ H H'->Q (.str z) H'
theorem NR(T:Txt K mg t):Ok P w base T 68 10 OS:=by
 refine⟨λvs H Q E h=>?_,λA outer s H args us vs Q E hr he hb hv h=>?_⟩
 ·obtain⟨_,_,_,_,_,_,_,_,_,_,_,rfl,_⟩:=h;rfl
 obtain⟨wa,sh,c0,l0,m,o,ts,os,cs,ls,z,rfl,hW,hsh,hc0,hl0,t40,o40,hbd,hd,q⟩:=h;cases hd with
 |map h=>exact(oK T (wd:="map") ((KY T).mono (by decide)) (T.e 1).xu (T.e 1).xv (T.e 1).xk (T.n 1 6) (T.n 1 4) (T.n 1 8) (T.n 1 9) (T.n 1 7) (T.n 1 10) lZ (T.n 1 2).one (T.n 1 3).one (T.n 1 5).one (.inl rfl)).run A outer s H args us _ Q E hr he hb hv ⟨rfl,λR=>⟨wa,m,o,_,ts,os,rfl,hW,by lia,h,λx H' g=>g⟩,q⟩
 |flat tn on e1 e2 e3 hm hg hF =>
  subst e1 e2 e3;exact(oK T (wd:="flat") (K0 T) (T.e 2).xu (T.e 2).xv (T.e 2).xk (T.n 2 6) (T.n 2 4) (T.n 2 8) (T.n 2 9) (T.n 2 7) (T.n 2 10) (T.n 2 1).one lZ (T.n 2 3).one (T.n 2 5).one (.inr (.inl rfl))).run A outer s H args us _ Q E hr he hb hv ⟨rfl,λR=>⟨wa,o,_,tn,on,rfl,⟨hW,hm,hg⟩,hF,λx H' g=>g⟩,q⟩
 |land tn on e1 e2 e3 hm hg hF ho =>
  subst e1 e2 e3;exact(oK T (wd:="land") (KZ T) (T.e 3).xu (T.e 3).xv (T.e 3).xk (T.n 3 6) (T.n 3 4) (T.n 3 8) (T.n 3 9) (T.n 3 7) (T.n 3 10) (T.n 3 1).one (T.n 3 2).one lZ (T.n 3 5).one (.inr (.inr (.inl rfl)))).run A outer s H args us _ Q E hr he hb hv ⟨rfl,λR=>⟨wa,o,_,tn,on,rfl,⟨hW,hm,hg⟩,hF,ho,λx H' g=>g⟩,q⟩
 |told tn on n b e1 e2 e3 hm hg hF e4 ho hB =>
  subst e1 e2 e3 e4;rw[AW.fP]at t40;rw[AW.kO]at o40;cases b with
  |false=>exact(oK T (wd:="shape") (KW T) (T.e 5).xu (T.e 5).xv (T.e 5).xk (T.n 5 6) (T.n 5 4) (T.n 5 8) (T.n 5 9) (T.n 5 7) (T.n 5 10) (T.n 5 1).one (T.n 5 2).one (T.n 5 3).one lZ (.inr (.inr (.inr rfl)))).run A outer s H args us _ Q E hr he hb hv ⟨rfl,λR=>⟨wa,sh,c0,l0,n,tn,on,cs,ls,rfl,⟨hW,hm,hg⟩,hF,ho,t40,o40,hsh,hc0,hl0,hB,λx H' g=>g⟩,q⟩
  |true=>exact(NI T).run A outer s H args us _ Q E hr he hb hv ⟨wa,sh,c0,l0,n,tn,on,cs,ls,rfl,⟨hW,hm,hg⟩,hF,ho,t40,o40,hsh,hc0,hl0,hB,hbd,λv H1 g1=>q _ g1⟩
end K38
namespace L2
open PySem PyProof.Rows
theorem nJ.toI{H:Hp}{a:Addr}{ts:MM.aR}(h:nJ H a ts):TsI H a (AW.cT ts):=by
 obtain⟨tr,h1,h2,h3⟩:=h;refine⟨tr,h1,by rw[h2,AW.cT,Zq],λi t e=>?_⟩;rw[AW.cT,Zk]at e;cases c:ts[i]? with
 |none=>rw[c]at e;cases e
 |some u=>rw[c]at e;cases e;exact h3 i u c
theorem qT.toI{H:Hp}{a:Addr}{os:MM.aT}(h:qT H a os):OsI H a (AW.cO os):=by
 obtain⟨tr,h1,h2,h3⟩:=h;refine⟨tr,h1,by rw[h2,AW.cO,Zq],λi t e=>?_⟩;rw[AW.cO,Zk]at e;cases c:os[i]? with
 |none=>rw[c]at e;cases e
 |some u =>
  rw[c]at e;cases e;obtain⟨r,q1,q2⟩:=h3 i u c;exact⟨r,q1,by rw[q2,Yn];rfl⟩
theorem sI{ts:MM.aR}{os:MM.aT}(g:MM.Good ts os):0<os.length/\∀o∈AW.cO os,0<o.length/\o.length<=4:=by
 refine⟨by have:=(g.g.has 0 (by have:=g.one;lia)).1;lia,λo ho=>?_⟩;obtain⟨l,hl,rfl⟩:=Zh.mp ho;obtain⟨p,hp,e⟩:=Yd.mp hl;have er:MM.row os p=l:=by rw[MM.row,Zv,Zz hp,e];rfl
 have h1:=g.g.full p hp;have h2:=g.g.four p;rw[er]at h1 h2;rw[Zq];exact⟨List.length_pos_iff.mpr h1,h2⟩
theorem MN{H:Hp}{r tA oA:Addr}{ts:MM.aR}{os:MM.aT}(h1:H r=some (.tup [vn os.length,.ref tA,.ref oA]))(h2:nJ H tA ts)(h3:qT H oA os):iG H r os.length (AW.cT ts) (AW.cO os):=⟨tA,oA,h1,h2.toI,h3.toI⟩
theorem kN{a b:MM.aR}(h:AW.cT a=AW.cT b):a=b:=by
 unfold AW.cT at h;refine(List.map_inj_right λx y e=>?_).mp h;have e1:=congrArg Prod.fst e;have e2:=congrArg Prod.snd e;exact Prod.ext (by dsimp only at e1;lia) (by dsimp only at e2;lia)
theorem kP{a b:MM.aT}(h:AW.cO a=AW.cO b):a=b:=by
 unfold AW.cO at h;exact(List.map_inj_right λx y e=>(List.map_inj_right λu v z=>by lia).mp e).mp h
end L2
namespace K38
open PySem L2 PyProof.Rows
theorem Due.ex(m:Int)(ts:AW.Ts)(os:AW.Os)(ou:Int)(cs ls:List Int):∃z,Due m ts os ou cs ls z:=by
 by_cases h:AW.hJ m ts os
 ·obtain⟨tn,on,e1,e2,e3,hg⟩:=AW.zI h;by_cases f:MM.Flat tn on
  ·by_cases o:0<=ou/\ou<nL tn on
   ·exact⟨_,.told tn on ou.toNat _ e3 e1 e2 h hg f (by lia) (by omega) rfl⟩
   ·exact⟨_,.land tn on e3 e1 e2 h hg f o⟩
  ·exact⟨_,.flat tn on e3 e1 e2 h hg f⟩
 ·exact⟨_,.map h⟩
theorem Due.one{m:Int}{ts:AW.Ts}{os:AW.Os}{ou:Int}{cs ls:List Int}{y z:Str}(h:Due m ts os ou cs ls y)(k:Due m ts os ou cs ls z):y=z:=by
 cases h with
 |map h=>cases k with
  |map _=>rfl
  |flat _ _ _ _ _ a=>exact Yg a h
  |land _ _ _ _ _ a=>exact Yg a h
  |told _ _ _ _ _ _ _ a=>exact Yg a h
 |flat tn on e1 e2 e3 a g f=>cases k with
  |map b=>exact Yg a b
  |flat=>rfl
  |land tn' on' f1 f2 f3 _ _ f'=>obtain rfl:=kN (e2.symm.trans f2);obtain rfl:=kP (e3.symm.trans f3);exact Yg f' f
  |told tn' on' n b f1 f2 f3 _ _ f'=>obtain rfl:=kN (e2.symm.trans f2);obtain rfl:=kP (e3.symm.trans f3);exact Yg f' f
 |land tn on e1 e2 e3 a g f o=>cases k with
  |map b=>exact Yg a b
  |flat tn' on' f1 f2 f3 _ _ f'=>obtain rfl:=kN (e2.symm.trans f2);obtain rfl:=kP (e3.symm.trans f3);exact Yg f f'
  |land=>rfl
  |told tn' on' n b f1 f2 f3 _ _ _ o1 o2=>obtain rfl:=kN (e2.symm.trans f2);obtain rfl:=kP (e3.symm.trans f3);exact Yg ⟨by lia,by lia⟩ o
 |told tn on n b e1 e2 e3 a g f o1 o2 hB=>cases k with
  |map b=>exact Yg a b
  |flat tn' on' f1 f2 f3 _ _ f'=>obtain rfl:=kN (e2.symm.trans f2);obtain rfl:=kP (e3.symm.trans f3);exact Yg f f'
  |land tn' on' f1 f2 f3 _ _ _ o=>obtain rfl:=kN (e2.symm.trans f2);obtain rfl:=kP (e3.symm.trans f3);exact Yg ⟨by lia,by lia⟩ o
  |told tn' on' n' b' f1 f2 f3 _ _ _ p1 p2 hB' =>
   obtain rfl:=kN (e2.symm.trans f2);obtain rfl:=kP (e3.symm.trans f3);obtain rfl:n=n':=by lia
   rw[<-hB,<-hB']
theorem GB{ts:MM.aR}{os:MM.aT}(g:MM.Good ts os):(AW.cO os).flatten.length<=4*os.length:=by
 have:∀l:List (List Int),(∀o∈l,o.length<=4)->l.flatten.length<=4*l.length:=λl=>by
  induction l with
  |nil=>intro _;simp
  |cons a l ih =>
   intro h;rw[List.flatten_cons,Zm,Yq];have h1:=h a (by simp);have h2:=ih λo ho=>h o (by simp[ho])
   lia
 have h:=this (AW.cO os) λo ho=>((sI g).2 o ho).2;rw[AW.kO]at h;exact h
structure Hd(H:Hp)(wa sh c0 l0:Addr)(m:Int)(ts:AW.Ts)(os:AW.Os)(cs ls:List Int)(k:Nat):Prop where
 w:iG H wa m ts os
 s:H sh=some (.tup [.ref c0,.ref l0])
 c:H c0=some (.lst (cs.map V.int))
 l:H l0=some (.lst (ls.map V.int))
 m1:m<=10+(k:Int)
 t0:1<=ts.length
 t1:ts.length<=40
 o0:0<os.length
 o1:os.length<=10
 f:os.flatten.length<=40+k
 c1:0<cs.length
 c2:cs.length<=80
 l1:0<ls.length
 l2:ls.length<=80+k
 b:∀e,at0 ls e<=1020+(k:Int)
theorem Hd.same{H H':Hp}{wa sh c0 l0:Addr}{m:Int}{ts:AW.Ts}{os:AW.Os}{cs ls:List Int}{k:Nat}(h:Hd H wa sh c0 l0 m ts os cs ls k)(g:aJ H H'):Hd H' wa sh c0 l0 m ts os cs ls k :=
 ⟨h.w.same g,g _ _ h.s,g _ _ h.c,g _ _ h.l,h.m1,h.t0,h.t1,h.o0,h.o1,h.f,h.c1,h.c2,h.l1,h.l2,h.b⟩
theorem Hd.up{H:Hp}{wa sh c0 l0:Addr}{m:Int}{ts:AW.Ts}{os:AW.Os}{cs ls:List Int}{k:Nat}(h:Hd H wa sh c0 l0 m ts os cs ls k)(hk:k<=2):Hd H wa sh c0 l0 m ts os cs ls 2 :=
 ⟨h.w,h.s,h.c,h.l,by have:=h.m1;lia,h.t0,h.t1,h.o0,h.o1,by have:=h.f;lia,h.c1,h.c2,h.l1,by have:=h.l2;lia,λe=>by have:=h.b e;lia⟩
def dSh(cs ls:List Int):PyData:=.tuple [.list (cs.map .int),.list (ls.map .int)]
theorem C8(cs ls:List Int):SeqAt.shaped (dSh cs ls)=true:=by
 have h1:=lay_ints cs;have h2:=lay_ints ls;unfold SeqAt.shaped dSh;rw[Xb];refine⟨?_,Ye ?_⟩
 ·simp[PyData.canLay0,PyData.canLayAll0,h1.1,h2.1]
 ·simp only[PyData.depth,PyData.depthAll]
  lia
theorem JC{H:Hp}{sh c0 l0:Addr}{cs ls:List Int}(a:H sh=some (.tup [.ref c0,.ref l0]))(b:H c0=some (.lst (cs.map V.int)))(c:H l0=some (.lst (ls.map V.int))):Bd H (.ref sh) (dSh cs ls) :=
 .tup (aH a) (.cons (.lst (aB b) (mJ _)) (.cons (.lst (aB c) (mJ _)) .nil))
def IK:Sp:=λvs H Q _=>∃(sa:Addr) (ns:List Int),vs=[.ref sa]/\SqL H sa (ns.map V.int)/\ns.length<=63/\∀H',Q (.bl true) H'
theorem K2(T:Txt K mg t):Ok P w base T 69 lawK (IK):=by
 left
 obtain⟨sa,ns,rfl,hS,_,q⟩:=h;refine⟨_,(by exists cH ?_ ?_,xY,0,1,2,3,dI,cP,0,4,cH ?_ ?_,NT,1,2,3,dI,cP,0,aU,4,aU,4,1,2,3,aL,1,5,aL,1,a9 bO rfl (T.z 5) boot_list ?_,aL,1,(eK ["_law_order"] [none]),aW ?_,aL,1,0,a9 bO rfl (T.z 5) boot_list ?_,0,6,a9 bO rfl (T.z 5) boot_list ?_,aL,3,a9 bO rfl (T.z 5) boot_list ?_,aL,3,eO,NR,5,2,6,K8,1,2,3,xQ ?_ ?_,(xT hr.units),5,1,xN ?_,(xT hr.units),6,3),?_⟩;refine⟨sa,ns,rfl,hS,λr wa sh c0 l0 tn on cs ls o H1 g1 e1 hW g fc t40 o10 hsh hc hl lc ll ho shp=>?_⟩;refine⟨_,aH e1,rfl,?_⟩;dsimp only[cJ];obtain⟨tA,oA,hw,hts,hos⟩:=hW;have gr:=sI g;have one:=g.one;have hd0:Hd H1 wa sh c0 l0 on.length (AW.cT tn) (AW.cO on) cs ls 0:=⟨MN hw hts hos,hsh,hc,hl,by lia,by rw[AW.fP];lia,by rw[AW.fP];lia,by rw[AW.kO];exact gr.1,by rw[AW.kO];exact o10,by have:=GB g;lia,by lia,by lia,by lia,by lia,λe=>by have:=shp.b e;lia⟩
 have pos0:(0:Int)<on.length:=by have:=gr.1;lia
 have hS1:=g1.seq hS;dsimp only[IZ,N5,cJ,LC,L0];refine nV (λσ' H'=>∃(wa sh c0 l0:Addr) (m oo:Int) (ts:AW.Ts) (os:AW.Os) (cs ls:List Int) (o4:Option V),aJ H1 H'/\Hd H' wa sh c0 l0 m ts os cs ls 2/\σ'=[some (.ref sa),some (.ref wa),some (.int oo),some (.ref sh),o4,none,none]) (λN r1=>?_) ?_
 ·refine⟨sa,ns,_,rfl,hS1,by decide,λc9=>⟨c9,_,rfl,by decide,by decide,λm9 _ _=>⟨(by show(0:Int)<4;decide),(by show(0:Int)<3;decide),m9%4%3,rfl,by lia,by lia,?_⟩⟩⟩;refine bV (lo:=0) (n:=(m9%4%3).toNat) (λk σ H'=>∃(wa sh c0 l0:Addr) (m oo:Int) (ts:AW.Ts) (os:AW.Os) (cs ls:List Int) (o4:Option V),0<m/\aJ H1 H'/\Hd H' wa sh c0 l0 m ts os cs ls k/\σ=[some (.ref sa),some (.ref wa),some (.int oo),some (.ref sh),o4,none,none])
   ⟨wa,sh,c0,l0,_,_,_,_,cs,ls,_,pos0,aJ.refl _,hd0,rfl⟩ ?_ ?_
  ·rintro k σ H2 hk ⟨wa,sh,c0,l0,m,oo,ts,os,cs,ls,o4,hm,g2,hd,rfl⟩;have k2:k<2:=by lia
   have hS2:=g2.seq hS1;dsimp only[cJ];refine⟨sa,ns,_,rfl,hS2,(by show 0<=10+(0+(k:Int));lia),λc=>⟨c,_,rfl,(by show 0<=60+(0+(k:Int));lia),(by show 60+(0+(k:Int))<=1000;lia),λpk hp0 _=>?_⟩⟩;have hm1:=hd.m1;have hf:=hd.f;have hl2:=hd.l2;have ho1:=hd.o1;have ht1:=hd.t1;have hc2:=hd.c2;refine⟨wa,sh,c0,l0,m,oo,pk,ts,os,cs,ls,rfl,hd.w,hd.s,hd.c,hd.l,hm,by lia,hd.t0,hd.t1,hd.o0,by lia,by lia,hd.c1,hd.c2,hd.l1,by lia,hp0,λr w' sh' cA lA m' o' ts' os' cs' ls' H3 g3 er hw' hsh' hcA hlA i1 i2 i3 i4 i5 i6 i7 i8=>?_⟩;have ht0:=hd.t0;have ho0:=hd.o0;have hc1:=hd.c1;have hl1:=hd.l1;have hd3:Hd H3 w' sh' cA lA m' ts' os' cs' ls' (k+1):=⟨hw',hsh',hcA,hlA,by push_cast;lia,by lia,by lia,by lia,by lia,by lia,by lia,by lia,by lia,by lia,λe=>by
    have:=i8 (1020+(k:Int)) (by lia) hd.b e
    push_cast;lia⟩
   refine⟨_,aH er,rfl,?_⟩;dsimp only[cJ];obtain⟨_,_,w1,_,_⟩:=id hw';refine⟨_,.int m',aH w1,rfl,L2.i2 (λc1=>?_) (λc1=>?_)⟩
   ·exact r1 _ _ ⟨w',sh',cA,lA,m',o',ts',os',cs',ls',_,g2.trans g3,hd3.up (by lia),rfl⟩
   ·have c1:¬m' < 1:=λz=>c1 (Ye z);exact⟨w',sh',cA,lA,m',o',ts',os',cs',ls',_,by lia,g2.trans g3,hd3,rfl⟩
  ·rintro σ H2 ⟨wa,sh,c0,l0,m,oo,ts,os,cs,ls,o4,hm,g2,hd,rfl⟩;exact r1 _ _ ⟨wa,sh,c0,l0,m,oo,ts,os,cs,ls,_,g2,hd.up (by lia),rfl⟩
 rintro σ H2 ⟨wa,sh,c0,l0,m,oo,ts,os,cs,ls,o4,g2,hd,rfl⟩;have ho1:=hd.o1;have hf:=hd.f;have hm1:=hd.m1;obtain⟨tA,oA,w1,⟨tr,t1,t2,t3⟩,⟨orr,o1,o2,o3⟩⟩:=id hd.w;refine⟨_,.int m,aH w1,rfl,_,.ref tA,aH w1,rfl,tA,_,rfl,.inl (aB t1),λlT hlT=>?_⟩;have s3:=aC hlT (.lst (tr.map V.ref));have e3:upd H2 lT (.lst (tr.map V.ref)) lT=some (.lst (tr.map V.ref)):=aA;dsimp only;generalize upd H2 lT (.lst (tr.map V.ref))=H3 at s3 e3 ⊢;refine⟨_,.ref oA,aH (s3 _ _ w1),rfl,⟨_,aB (s3 _ _ o1)⟩,λD hD=>?_⟩;refine jX os.length (λi=>(os.getD i []).map V.int) hD (by lia) (λi H' hi g2=>?_) (λH' g2=>?_) ?_ ?_
 ·exact⟨_,.ref (orr[i]'(by lia)),aB (g2 _ _ (s3 _ _ o1)),by rw[Zk,Zz (by lia)];rfl⟩
 ·exact⟨_,aB (g2 _ _ (s3 _ _ o1)),by rw[Zq,o2];exact ZA _⟩
 ·rintro i H' x H'' k hi g2 hy hk;obtain⟨e,y⟩:=hy;subst e;obtain⟨l,r,el,rfl,er⟩:=OsI.nth o2 o3 (y _ (aB (g2 _ _ (s3 _ _ o1))));refine⟨(Fills.refl _).set _ rfl,r,_,rfl,.inl (aB (g2 _ _ (s3 _ _ er))),λa ha=>hk a _ ha (aC ha _) ?_⟩;rw[show os.getD i []=l by rw[Zv,el];rfl];exact aA
 intro rr H4 w4 s4;rw[rows_vv]at w4;refine⟨(by show 3<=ZW;decide),λhn hhn=>?_⟩;have s5:=aC hhn (.tup [.int m,.ref lT,.ref D]);have e5:upd H4 hn (.tup [.int m,.ref lT,.ref D]) hn=some (.tup [.int m,.ref lT,.ref D]):=aA;dsimp only[cJ];generalize upd H4 hn (.tup [.int m,.ref lT,.ref D])=H5 at s5 e5 ⊢;have s35:=s3.trans (s4.trans s5);have hW5:iG H5 hn m ts os:=⟨lT,D,e5,⟨tr,s5 _ _ (s4 _ _ e3),t2,λi u e=>let⟨x,x1,x2⟩:=t3 i u e;⟨x,x1,s35 _ _ x2⟩⟩,w4.os.same s5⟩
 have hd5:=hd.same s35;clear s3 s4 s5 s35 e3 e5 w4 w1 t1 t2 t3 o1 o2 o3 hD hlT hhn hd;refine⟨_,.ref c0,aH hd5.s,rfl,c0,_,rfl,.inl (aB hd5.c),λcB hcB=>?_⟩;have s6:=aC hcB (.lst (cs.map V.int));have e6:upd H5 cB (.lst (cs.map V.int)) cB=some (.lst (cs.map V.int)):=aA;generalize upd H5 cB (.lst (cs.map V.int))=H6 at s6 e6 ⊢;refine⟨_,.ref l0,aH (s6 _ _ hd5.s),rfl,l0,_,rfl,.inl (aB (s6 _ _ hd5.l)),λlB hlB=>?_⟩;have s7:=aC hlB (.lst (ls.map V.int));have e7:upd H6 lB (.lst (ls.map V.int)) lB=some (.lst (ls.map V.int)):=aA;generalize upd H6 lB (.lst (ls.map V.int))=H7 at s7 e7 ⊢;refine⟨(by show 2<=ZW;decide),λgv hgv=>?_⟩;have s8:=aC hgv (.tup [.ref cB,.ref lB]);have e8:upd H7 gv (.tup [.ref cB,.ref lB]) gv=some (.tup [.ref cB,.ref lB]):=aA;dsimp only[cJ];generalize upd H7 gv (.tup [.ref cB,.ref lB])=H8 at s8 e8 ⊢;have s58:=s6.trans (s7.trans s8);have hd8:=hd5.same s58;have hW8:=hW5.same s58;have eC:=s8 _ _ (s7 _ _ e6);have eL:=s8 _ _ e7;clear s6 s7 s8 s58 e6 e7 hd5 hW5 hcB hlB hgv;obtain⟨z,hz⟩:=Due.ex m ts os oo cs ls;have hb:=hd8.b;have ht0:=hd8.t0;have ht1:=hd8.t1;refine⟨hn,gv,cB,lB,m,oo,ts,os,cs,ls,z,rfl,hW8,e8,eC,eL,ht1,by lia,λe=>by have:=hb e;lia,hz,λH9 g9=>?_⟩;have hd9:=hd8.same g9;refine⟨wa,sh,c0,l0,m,oo,ts,os,cs,ls,rfl,hd9.w,hd9.s,hd9.c,hd9.l,ht0,ht1,by lia,by lia,by lia,λz' H10 g10 hz'=>?_⟩;obtain rfl:=Due.one hz hz';have g810:=g9.trans g10;have hd10:=hd9.same g10;refine(iFb (by simp) ?_);refine⟨_,_,zZ (hW8.same g810),zZ hd10.w,i9 _ _ _,i9 _ _ _,?_⟩;rw[CJ];refine iT ⟨_,_,JC (g810 _ _ e8) (g810 _ _ eC) (g810 _ _ eL),JC hd10.s hd10.c hd10.l,C8 _ _,C8 _ _,?_⟩;rw[show PyData.eqv (dSh cs ls) (dSh cs ls)=true from SeqAt.eqv_refl _ (SeqAt.canLay_of_shaped (C8 cs ls))];exact q _
end K38
namespace PySem.W.Fast
def tw7293927410116543696:Nat:=0
def tw15753946724791406865:Nat:=0
def tw1876802809088125512:Nat:=0
def tw15739883512332964248:Nat:=0
def tw16158331156090563505:Nat:=0
def tw432365395600446783:Nat:=0
def tw17295285783586679374:Nat:=0
def tw9591405406648063767:Nat:=0
def tw688069213369343831:Nat:=0
def tw773597316258258005:Nat:=0
def tw13540830923970425433:Nat:=0
def tw13221443069030934113:Nat:=0
def tw13031459243234586704:Nat:=0
def tw5912285984934599010:Nat:=0
def tw259893661243041993:Nat:=0
def tw5863970740067033338:Nat:=0
def tw12208558290320121777:Nat:=0
def tw16712093306187582910:Nat:=0
def tw8268497101715446129:Nat:=0
def tw5403197705041817876:Nat:=0
def tw15531407033717593310:Nat:=0
def tw13996824255859517961:Nat:=0
def tw13788477525985839836:Nat:=0
def tw15962412797197368221:Nat:=0
def tw17381590043950130560:Nat:=0
def tw12899991619356495387:Nat:=0
def tw3737004655155651660:Nat:=0
def tw8728228656884636704:Nat:=0
def tw16303074825460509060:Nat:=0
def tw6869520637215745918:Nat:=0
def tw1801841466069573594:Nat:=0
def tw651070642677256738:Nat:=0
def tw5530724092882714964:Nat:=0
def tw9159084637534741564:Nat:=0
def tw15032264551560341849:Nat:=0
def tw12221486833727800896:Nat:=0
def tw6272748331138510640:Nat:=0
def tw15245635130890765576:Nat:=0
def tw18330709786662808110:Nat:=0
def tw6877887947468702346:Nat:=0
def tw945445757117057981:Nat:=0
def tw1619257192767775724:Nat:=0
def tw8566007829750428513:Nat:=0
def tw7278179704367689330:Nat:=0
def tw11473973315701665686:Nat:=0
def tw5357320933884596491:Nat:=0
def tw6436720317094765498:Nat:=0
def tw16841902673062417576:Nat:=0
def tw14560748615219598849:Nat:=0
def tw17891948605028111241:Nat:=0
def tw15681329343410227983:Nat:=0
def tw10431722767729065669:Nat:=0
def tw6705609568806208038:Nat:=0
def tw17672589690545849341:Nat:=0
def tw13755408907638848762:Nat:=0
def tw13458902155295901208:Nat:=0
def tw14688059246296168605:Nat:=0
def tw429438369637523772:Nat:=0
def tw3687615480046519528:Nat:=0
def tw5296169691971627352:Nat:=0
def tw6604308408622393137:Nat:=0
def tw9191584900159716444:Nat:=0
def tw12126202960110694399:Nat:=0
def tw7822883744549556335:Nat:=0
def tw11629439374638808744:Nat:=0
def tw10134914579721756740:Nat:=0
def tw10973381695675592120:Nat:=0
def tw18238328660383203613:Nat:=0
def tw13640896018267605725:Nat:=0
def tw7479083137694453627:Nat:=0
def tw4499776225869580084:Nat:=0
def tw6633582483595944124:Nat:=0
def tw10111824116840162921:Nat:=0
def tw13181259712290629633:Nat:=0
def tw17542108630042836663:Nat:=0
def tw84626239331474464:Nat:=0
def tw2319595134793748397:Nat:=0
def tw1764404547725758679:Nat:=0
def tw7232673033994061719:Nat:=0
def tw10509483587917566798:Nat:=0
def tw7892132825786895735:Nat:=0
def tw5208018689200795676:Nat:=0
def tw5499834254765885725:Nat:=0
def tw14296897131447076504:Nat:=0
def tw6253226749733874819:Nat:=0
def tw379442757790092817:Nat:=0
def tw6345116122751158171:Nat:=0
def tw11557087431354257053:Nat:=0
def tw16820192324266282353:Nat:=0
def tw705967265236348103:Nat:=0
def tw11814179379771894078:Nat:=0
def tw5576549505233554946:Nat:=0
def tw14799840765702796757:Nat:=0
def tw9784672385222104023:Nat:=0
def tw16300343335945729470:Nat:=0
def tw6838148063265866370:Nat:=0
def tw15129086817718451170:Nat:=0
def tw5028355019008836031:Nat:=0
def tw17769380979654749252:Nat:=0
def tw5546672506477015385:Nat:=0
def tw5996795989065991959:Nat:=0
def tw4351667980984012995:Nat:=0
def tw530659668822996971:Nat:=0
def tw14714976224425229958:Nat:=0
def tw18023527763024614790:Nat:=0
def tw12964422265066309647:Nat:=0
def tw7545257626854626460:Nat:=0
def tw10164762360233509523:Nat:=0
def tw13253805384023493365:Nat:=0
def tw12863688419718153032:Nat:=0
def tw10403654181046660289:Nat:=0
def tw12507898797204695327:Nat:=0
def tw11294686001540804796:Nat:=0
def tw6440077406107004966:Nat:=0
def tw1964195593755470876:Nat:=0
def tw3193376711124692934:Nat:=0
def tw11591734644953861379:Nat:=0
def tw9494965172138335966:Nat:=0
def tw2783518961113048400:Nat:=0
def tw10193796723579262134:Nat:=0
def tw16412983952211724225:Nat:=0
def tw10263547794430895185:Nat:=0
def tw13493428058948969312:Nat:=0
def tw11557926410291139209:Nat:=0
def tw5425558487907424253:Nat:=0
def tw15662134318616834671:Nat:=0
def tw7936030766060663089:Nat:=0
def tw8084325361686271537:Nat:=0
def tw7485763416622981394:Nat:=0
def tw2853811654025828729:Nat:=0
def tw16477817948147602834:Nat:=0
def tw4350143254695644121:Nat:=0
def tw17479351103047748283:Nat:=0
def tw5733599938127734973:Nat:=0
def tw2896493383632183192:Nat:=0
def tw3417017078957374125:Nat:=0
def tw4859396357533019839:Nat:=0
end PySem.W.Fast
namespace L2
open PySem
theorem len0{p:List Value->Prop}(h:p []):∀us:List Value,us.length=0->p us
 |[],_=>h
theorem kL{n:Nat}{p:List Value->Prop}(h:∀a us,us.length=n->p (a::us)):∀us:List Value,us.length=n+1->p us
 |a::us,e=>h a us (Nat.succ.inj e)
theorem PL{p:List Value->Prop}(h:∀a,p [a]):∀us:List Value,us.length=1->p us:=kL λa=>len0 (h a)
theorem PK{p:List Value->Prop}(h:∀a b,p [a,b]):∀us:List Value,us.length=2->p us:=kL λa=>kL λb=>len0 (h a b)
theorem PJ{p:List Value->Prop}(h:∀a b c,p [a,b,c]):∀us:List Value,us.length=3->p us:=kL λa=>kL λb=>kL λc=>len0 (h a b c)
theorem PH{p:List Value->Prop}(h:∀a b c d,p [a,b,c,d]):∀us:List Value,us.length=4->p us:=kL λa=>kL λb=>kL λc=>kL λd=>len0 (h a b c d)
theorem BH{p:List Value->Prop}(h:∀a b c d e,p [a,b,c,d,e]):∀us:List Value,us.length=5->p us:=kL λa=>kL λb=>kL λc=>kL λd=>kL λe=>len0 (h a b c d e)
end L2
open PySem PySem.W PyProof.Rows L2
set_option maxRecDepth 100000 in
set_option maxHeartbeats 0 in
theorem PySem.Challenge.cw_fewbends_k38_laying_out_refused_holds : PySem.Challenge.rw_fewbends_k38_laying_out_refused.Holds := by
 w_on;o_law;k_head;(case hw=>w_witness2)
 k_fill
 refine MO K38.prg 69 (l:=PySem.Challenge.rw_fewbends_k38_laying_out_refused) (sp:=K38.IK) rfl rfl ⟨rfl,by decide,by decide⟩ rfl rfl (λw h Y=>PySem.W.kIn_of Y) (λa ns H hl _ hS=>⟨a,ns,rfl,hS,hl,λ_=>rfl⟩) (k:=K38.lawK) K38.K2 ?wk ?wf ?wz ?wg ?wc ?we
 all_goals intro w
 (case wk=>rfl)
 (case wf=>repeat' first | exact trivial | refine⟨⟨LZ (by k_is) (by k_is) (by k_is) (by k_is),by first | exact⟨1,rfl,λ_ _ _ _ _ _=>PL λ_=>rfl⟩ | exact⟨2,rfl,λ_ _ _ _ _ _=>PK λ_ _=>rfl⟩ | exact⟨3,rfl,λ_ _ _ _ _ _=>PJ λ_ _ _=>rfl⟩ | exact⟨4,rfl,λ_ _ _ _ _ _=>PH λ_ _ _ _=>rfl⟩ | exact⟨5,rfl,λ_ _ _ _ _ _=>BH λ_ _ _ _ _=>rfl⟩ | exact⟨0,rfl,λ_ _ _ _ _ _=>len0 rfl⟩,scm⟩,?_⟩)
 (case wz=>repeat' first | exact trivial | refine⟨show PySem.W.nsIn _ _ _=_ by k_is,?_⟩)
 (case wg=>repeat' first | exact trivial | refine⟨⟨_,by k_is⟩,?_⟩)
 (case wc=>repeat' first | exact trivial | refine⟨⟨_,by k_is⟩,?_⟩)
 (case we=>repeat' first | exact trivial | refine⟨⟨rfl,_,by k_is,by k_exc,⟨_,_,rfl,by k_is,by k_is,by k_is,by k_is,by k_is⟩,by k_is,⟨by k_is,by k_is,by k_is,by k_is,by k_is,by k_is⟩,by repeat' first | exact trivial | refine⟨.inl rfl,?_⟩ | refine⟨.inr ⟨_,by k_is,by k_is,by k_is,by k_is,by decide⟩,?_⟩⟩,?_⟩)
