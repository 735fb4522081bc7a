import PyProof.Rows.All
import Wide.All
import OpenK.AllK
import Wide.FinOn
import Lean
import PyProof.EqAt
import PyProof.EqKinds
import PyProof.TupleCall
import KE.BitLaws
import KE.KSortTup
import PyProof.Rows.NestShow
import PyProof.Rows.RegStrFacts
import PyProof.MeetsSeq3
import PyProof.FactsAll.list_2
import PyProof.Rows.SortRuns
import PyProof.Rows.SortShell
import PyProof.Rows.SortRev
import PyProof.Rows.SortWalk
import PyProof.FactsAll.tuple_1
import PyProof.DictItems
import KE.KDictSum
import PyProof.SetKind
import PyProof.TupleKey
import PyProof.IsRules
import PyProof.DictKinds
import PyProof.Rows.SetFrom
import PyProof.FactsAll.set_1
import PyProof.FactsAll.set_2
import PySem.Challenge.RW_fewbends_k27_shapes_shown_fewest
set_option hygiene false in
local macro_rules|`(!1)=>`(by decide)|`(!2)=>`(2*ts.length)|`(!3)=>`(model X.prog X.w)|`(!4)=>`(os.set a (L2.aU (row os a) ((row os a).idxOf (oth u)) (!2)))|`(!5)=>`(by simp)|`(!6)=>`(bB "prices" (.ref l1) (bB "ways" (.ref wa) []))|`(!7)=>`(.inl ⟨by decide,by decide⟩)|`(!8)=>`(.tup [vn (MM.place ts (MM.oth i)),.int ((n:Int)+((nm.getD i 0:Nat):Int)),.int lo,.int hi,.int 0])|`(!9)=>`(by show 2<=ZW;decide)|`(!10)=>`(te σ2 H3 λy H4=>H4 D=some (.lst ys)/\ys.length<ZW/\N (ys++[y]) (upd H4 D (.lst (ys++[y]))))|`(!11)=>`(aU (MM.row os a) ((MM.row os a).idxOf one) (!2))|`(!12)=>`(.lst (ps.map V.int))|`(!13)=>`((Fills.refl _).set _ rfl)|`(!14)=>`(k==NameKind.free&&env.scope.kind==.function&&env.kindOf n==some .cell)|`(!15)=>`(.ListComp elt [⟨target,iter,ifs,0⟩] scope pos)|`(!16)=>`(Addr×Obj)|`(!17)=>`(model prog w)|`(!18)=>`(Option Int)|`(!19)=>`(LL ts os)|`(!20)=>`(aY on.length tn nm ws bs ss)|`(!21)=>`(aT on.length (LL tn on) o)|`(!22)=>`(s.heap.objs.size+1)|`(!23)=>`(by show 0<=ZW;decide)|`(!24)=>`(upd (upd H7 p1 (.tup [vn (ps.getD (ts.getD i (0,0)).1 0),vn (ps.getD (ts.getD i (0,0)).2 0)])) p2 (.tup [vn (ps.getD (ts.getD i (0,0)).2 0),vn (ps.getD (ts.getD i (0,0)).1 0)]))|`(!25)=>`(X.comp N' scope cl C fp s H)|`(!26)=>`(by rw[Zq];lia)|`(!27)=>`(.ins (t.c 0) dx (bB "resting" (.ref l3) (bB "going" (.ref l2) (!6))))|`(!28)=>`(.lst (cs.map V.int))|`(!29)=>`(aM _ (SqT.of aB) rfl ⟨ (!13).set _ rfl,?_⟩)|`(!30)=>`(Walks.list (show X.A.in1.handled=none from I.ok.hd hc) _ p (ZA hp) its.toArray)|`(!31)=>`(aM _ (SqT.of aB) rfl ?_)|`(!32)=>`(tr.map V.ref)|`(!33)=>`(⟨(Fills.refl _).set _ rfl,hk _ (aK.refl _)⟩)|`(!34)=>`(List (Nat×Int))|`(!35)=>`(∀ys' H',N ys' H'->∃m',m' < m/\W (i+1) m' ys' H')|`(!36)=>`(by intro z;cases z)|`(!37)=>`(aT os.length (!19) o)|`(!38)=>`(jK X.env.cells scope.names [])|`(!39)=>`(ns.map V.int)|`(!40)=>`(MM.aS (MM.behind ts os) (!2))|`(!41)=>`(by simp;lia)|`(!42)=>`(.lst (ls.map V.int))|`(!43)=>`(aY os.length ts nm ws bs ss)|`(!44)=>`(xWW _ _ rfl)|`(!45)=>`(∀σ' H',N σ' H'->∃m',m' < m/\W (i+1) m' σ' H')|`(!46)=>`(MM.oth e)|`(!47)=>`(inner js σ)|`(!48)=>`(x==("__debug__" : Str))|`(!49)=>`(.lst [])|`(!50)=>`(opn ws.length (loF ws) (hiF ws) (at0 gs))|`(!51)=>`(2*ts.length+1)|`(!52)=>`(λz y=>by cases y)|`(!53)=>`((ZS (2*i)).map λe=>vn (MM.nmF (λk=>nu.getD k 0) (λk=>fl.getD k 0) e))|`(!54)=>`(by rw[Zq];exact ZC _)|`(!55)=>`(.ins (t.c 0) dx (bB "going" (.ref l2) (!6)))
set_option hygiene false in
local macro_rules|`(tactic|sleep 1)=>`(tactic|intro X hP hw hK hc i pins s σ H E I hf st hg)|`(tactic|sleep 2)=>`(tactic|intro pins s σ H Q I h)|`(tactic|sleep 3)=>`(tactic|intro pins s σ H xs us Q I r h)|`(tactic|sleep 4)=>`(tactic|intro pins s σ H x y v u Q I rx ry h)|`(tactic|sleep 5)=>`(tactic|obtain⟨wa,p,wA,bA,sA,sh,cA,lA,pa,o,ts,os,ws,bs,ss,cs,ls,ps,rfl,hweb,hg,hF,t40,o40,ho,hW,l1,l2,l3,hok,hS,hp,q⟩:=h)|`(tactic|sleep 6)=>`(tactic|obtain⟨u,rfl,rx⟩:=vals1 r)|`(tactic|sleep 7)=>`(tactic|obtain⟨tr,h1,h2,h3⟩:=h)|`(tactic|sleep 8)=>`(tactic|obtain⟨p,wa,ba,sa,p2,ca,la,n,ws,bs,ss,cs,ls,rfl,hW,hT,hF,q⟩:=h)|`(tactic|sleep 9)=>`(tactic|intro pins s σ H D I h)|`(tactic|sleep 10)=>`(tactic|obtain⟨z,its,n,r,hl,e⟩:=I.lstM hH)|`(tactic|sleep 11)=>`(tactic|obtain⟨its,rv,pl,hz⟩:=I.list hq)|`(tactic|sleep 12)=>`(tactic|intro pins s σ H x vs v us Q I rx rv h)|`(tactic|sleep 13)=>`(tactic|obtain⟨t,rfl⟩:=rx)|`(tactic|sleep 14)=>`(tactic|intro cdv A outer s H vs Q E hr h nd X)|`(tactic|sleep 15)=>`(tactic|rcases Nat.eq_zero_or_pos i with z | z)|`(tactic|sleep 16)=>`(tactic|exact Int.le_refl _)|`(tactic|sleep 17)=>`(tactic|obtain⟨tA,oA,hw,hts,hos⟩:=id hWeb)|`(tactic|sleep 18)=>`(tactic|obtain⟨l,rfl,z1⟩:=bV h)|`(tactic|sleep 19)=>`(tactic|exact this)
open PySem renaming wpAny_bind->ZZ,wpAny_pure->ZY,wpAny_mono->ZX,sizeLine->ZW,mainGlobals->ZV,wpAny_holding->ZU
open Classical renaming byContradiction->ZT
open List renaming range->ZS,length_set->ZR,mem_append_left->ZP,mem_append_right->ZO,idxOf_lt_length_of_mem->ZN,not_mem_nil->ZM,getElem?_set_self->ZL,getElem?_set_ne->ZK,map_cons->ZJ,range_succ->ZI,map_set->ZH,replicate->ZG,size_toArray->ZF,all_eq_true->ZE,nodup_range->ZD
open Nat renaming le_refl->ZC,ne_of_lt->ZA,zero_le->YZ,lt_irrefl->YY,le_of_lt->YX
open PySem.Heap renaming get?_push_of_some->YW,lt_size->YV,get?_push_size->YU
open Bool renaming false_ne_true->YT,false_eq_true->YS
open Option renaming getD_some->YR
open PySem.F renaming plainAttrs_list->YO
open List renaming length_map->Zq,getElem?_eq_getElem->Zz,getElem?_eq_some_iff->Zj,getElem?_map->Zk,getD_eq_getElem?_getD->Zv,mem_cons_of_mem->Zw,getElem?_append_left->Zx,getElem?_append_right->Zy,mem_of_getElem?->Zg,mem_map->Zh,mem_singleton->Zb,mem_cons_self->Zd,mem_append->Zf,length_append->Zm,mem_cons->Zn,getElem_mem->Zp,getElem?_eq_none->Zr,mem_range->Zs,map_append->Zt,length_singleton->ZQ,length_cons->Yq,mem_filter->Yz,length_range->Yj,getElem?_range->Yk,take_length->Yv,length_take->Yw,getElem?_concat_length->Yx,mem_iff_getElem->Yy,length_eq_zero_iff->Yd,map_map->Ym,append_assoc->Yn,length_drop->Yp,mem_map_of_mem->Yr,map_congr_left->Ys,ext_getElem?->Yt
open Nat renaming le_trans->YQ,lt_of_le_of_lt->Xq,lt_of_lt_of_le->Xz,lt_succ_of_lt->Xj,lt_or_ge->Xk
open Option renaming map_eq_some_iff->Xv
open Int renaming emod_nonneg->Xw,emod_lt_of_pos->Xx,eq_ofNat_of_zero_le->Xy
open Bool renaming and_eq_true->Xg,eq_iff_iff->Xh
set_option linter.all false
set_option maxRecDepth 100000
abbrev Ya:=@if_neg
abbrev Yb:=@if_pos
abbrev Yc:=@decide_eq_false
abbrev Ye:=@decide_eq_true
abbrev Yf:=@of_decide_eq_true
abbrev Yg:=@absurd
abbrev Yh:=@Ne.symm
abbrev Yi:=@eq_of_beq
section
variable{A B C D E F G H I J:Type}
theorem xPP{K L R:Prop}(k:K)(l:L)(r:R):K/\L/\R:=⟨k,l,r⟩
theorem xWW{R:A->B->Prop}(a:A)(b:B)(r:R a b):∃a b,R a b:=⟨a,b,r⟩
theorem xPW{K:Prop}{R:A->Prop}(k:K)(a:A)(r:R a):K/\∃a,R a:=⟨k,a,r⟩
theorem xWP{K R:A->Prop}(a:A)(k:K a)(r:R a):∃a,K a/\R a:=⟨a,k,r⟩
theorem i6{R:A->B->C->Prop}(a:A)(b:B)(c:C)(r:R a b c):∃a b c,R a b c:=⟨a,b,c,r⟩
theorem aM{K L R:A->Prop}(a:A)(k:K a)(l:L a)(r:R a):∃a,K a/\L a/\R a:=⟨a,k,l,r⟩
theorem fN{K:Prop}{L R:A->Prop}(k:K)(a:A)(l:L a)(r:R a):K/\∃a,L a/\R a:=⟨k,a,l,r⟩
theorem bN{K L M R:Prop}(k:K)(l:L)(m:M)(r:R):K/\L/\M/\R:=⟨k,l,m,r⟩
theorem bM{K R:A->B->Prop}(a:A)(b:B)(k:K a b)(r:R a b):∃a b,K a b/\R a b:=⟨a,b,k,r⟩
theorem kA{K L:Prop}{M R:A->Prop}(k:K)(l:L)(a:A)(m:M a)(r:R a):K/\L/\∃a,M a/\R a:=⟨k,l,a,m,r⟩
theorem j9{K:Prop}{L M R:A->Prop}(k:K)(a:A)(l:L a)(m:M a)(r:R a):K/\∃a,L a/\M a/\R a:=⟨k,a,l,m,r⟩
theorem wY{K:Prop}{R:A->B->C->Prop}(k:K)(a:A)(b:B)(c:C)(r:R a b c):K/\∃a b c,R a b c:=⟨k,a,b,c,r⟩
theorem fD{K:Prop}{L R:A->B->Prop}(k:K)(a:A)(b:B)(l:L a b)(r:R a b):K/\∃a b,L a b/\R a b:=⟨k,a,b,l,r⟩
theorem tS{K:A->Prop}{L R:A->B->Prop}(a:A)(k:K a)(b:B)(l:L a b)(r:R a b):∃a,K a/\∃b,L a b/\R a b:=⟨a,k,b,l,r⟩
theorem wW{K:A->Prop}{R:A->B->C->Prop}(a:A)(k:K a)(b:B)(c:C)(r:R a b c):∃a,K a/\∃b c,R a b c:=⟨a,k,b,c,r⟩
theorem iO{R:A->B->C->D->Prop}(a:A)(b:B)(c:C)(d:D)(r:R a b c d):∃a b c d,R a b c d:=⟨a,b,c,d,r⟩
theorem FI{K L:Prop}{R:A->B->Prop}(k:K)(l:L)(a:A)(b:B)(r:R a b):K/\L/\∃a b,R a b:=⟨k,l,a,b,r⟩
theorem aG{K L R:A->B->Prop}(a:A)(b:B)(k:K a b)(l:L a b)(r:R a b):∃a b,K a b/\L a b/\R a b:=⟨a,b,k,l,r⟩
theorem bK{K L M N R:Prop}(k:K)(l:L)(m:M)(n:N)(r:R):K/\L/\M/\N/\R:=⟨k,l,m,n,r⟩
theorem jA{K R:A->B->C->Prop}(a:A)(b:B)(c:C)(k:K a b c)(r:R a b c):∃a b c,K a b c/\R a b c:=⟨a,b,c,k,r⟩
theorem cC{K L M R:A->Prop}(a:A)(k:K a)(l:L a)(m:M a)(r:R a):∃a,K a/\L a/\M a/\R a:=⟨a,k,l,m,r⟩
theorem N1{K L M:Prop}{N R:A->Prop}(k:K)(l:L)(m:M)(a:A)(n:N a)(r:R a):K/\L/\M/\∃a,N a/\R a:=xPP k l (fN m a n r)
theorem nY{K R:A->B->C->D->Prop}(a:A)(b:B)(c:C)(d:D)(k:K a b c d)(r:R a b c d):∃a b c d,K a b c d/\R a b c d:=xWW a b (bM c d k r)
theorem aO{K L M R:A->B->Prop}(a:A)(b:B)(k:K a b)(l:L a b)(m:M a b)(r:R a b):∃a b,K a b/\L a b/\M a b/\R a b:=bM a b k (xPP l m r)
theorem FH{K L:Prop}{M R:A->B->Prop}(k:K)(l:L)(a:A)(b:B)(m:M a b)(r:R a b):K/\L/\∃a b,M a b/\R a b:=xPP k l (bM a b m r)
theorem zA{K:A->Prop}{L M R:A->B->Prop}(a:A)(k:K a)(b:B)(l:L a b)(m:M a b)(r:R a b):∃a,K a/\∃b,L a b/\M a b/\R a b:=xWP a k (aM b l m r)
theorem vB{K:A->Prop}{L R:A->B->C->Prop}(a:A)(k:K a)(b:B)(c:C)(l:L a b c)(r:R a b c):∃a,K a/\∃b c,L a b c/\R a b c:=xWP a k (bM b c l r)
theorem jN{K L R:A->B->C->Prop}(a:A)(b:B)(c:C)(k:K a b c)(l:L a b c)(r:R a b c):∃a b c,K a b c/\L a b c/\R a b c:=xWW a b (aM c k l r)
theorem cN{K L M N O R:Prop}(k:K)(l:L)(m:M)(n:N)(o:O)(r:R):K/\L/\M/\N/\O/\R:=xPP k l (bN m n o r)
theorem gO{K L M N R:A->Prop}(a:A)(k:K a)(l:L a)(m:M a)(n:N a)(r:R a):∃a,K a/\L a/\M a/\N a/\R a:=xWP a k (bN l m n r)
theorem eQ{K:Prop}{L M R:A->B->Prop}(k:K)(a:A)(b:B)(l:L a b)(m:M a b)(r:R a b):K/\∃a b,L a b/\M a b/\R a b:=xPW k a (aM b l m r)
theorem FF{K:Prop}{L:A->Prop}{M R:A->B->Prop}(k:K)(a:A)(l:L a)(b:B)(m:M a b)(r:R a b):K/\∃a,L a/\∃b,M a b/\R a b:=fN k a l (xWP b m r)
theorem vC{K:Prop}{L R:A->B->C->Prop}(k:K)(a:A)(b:B)(c:C)(l:L a b c)(r:R a b c):K/\∃a b c,L a b c/\R a b c:=xPW k a (bM b c l r)
theorem qQ{R:A->B->C->D->E->Prop}(a:A)(b:B)(c:C)(d:D)(e:E)(r:R a b c d e):∃a b c d e,R a b c d e:=xWW a b (i6 c d e r)
theorem zD{K:Prop}{L M N R:A->Prop}(k:K)(a:A)(l:L a)(m:M a)(n:N a)(r:R a):K/\∃a,L a/\M a/\N a/\R a:=fN k a l (xPP m n r)
theorem zH{K L:Prop}{M N R:A->Prop}(k:K)(l:L)(a:A)(m:M a)(n:N a)(r:R a):K/\L/\∃a,M a/\N a/\R a:=xPP k l (aM a m n r)
theorem pX{K L M N O R:A->Prop}(a:A)(k:K a)(l:L a)(m:M a)(n:N a)(o:O a)(r:R a):∃a,K a/\L a/\M a/\N a/\O a/\R a:=aM a k l (bN m n o r)
theorem eJ{K L M N O P R:Prop}(k:K)(l:L)(m:M)(n:N)(o:O)(p:P)(r:R):K/\L/\M/\N/\O/\P/\R:=bN k l m (bN n o p r)
theorem bO{K L M N R:A->B->Prop}(a:A)(b:B)(k:K a b)(l:L a b)(m:M a b)(n:N a b)(r:R a b):∃a b,K a b/\L a b/\M a b/\N a b/\R a b:=bM a b k (bN l m n r)
theorem KB{K L M:Prop}{N O R:A->Prop}(k:K)(l:L)(m:M)(a:A)(n:N a)(o:O a)(r:R a):K/\L/\M/\∃a,N a/\O a/\R a:=bN k l m (aM a n o r)
theorem iQ{K:A->Prop}{L M R:A->B->C->Prop}(a:A)(k:K a)(b:B)(c:C)(l:L a b c)(m:M a b c)(r:R a b c):∃a,K a/\∃b c,L a b c/\M a b c/\R a b c:=xWP a k (aG b c l m r)
theorem cI{K L M R:A->B->C->Prop}(a:A)(b:B)(c:C)(k:K a b c)(l:L a b c)(m:M a b c)(r:R a b c):∃a b c,K a b c/\L a b c/\M a b c/\R a b c:=i6 a b c (bN k l m r)
theorem BN{K L M:Prop}{N R:A->B->Prop}(k:K)(l:L)(m:M)(a:A)(b:B)(n:N a b)(r:R a b):K/\L/\M/\∃a b,N a b/\R a b:=bN k l m (bM a b n r)
theorem KC{K L M N:Prop}{O R:A->Prop}(k:K)(l:L)(m:M)(n:N)(a:A)(o:O a)(r:R a):K/\L/\M/\N/\∃a,O a/\R a:=bN k l m (fN n a o r)
theorem BL{K L R:A->B->C->D->Prop}(a:A)(b:B)(c:C)(d:D)(k:K a b c d)(l:L a b c d)(r:R a b c d):∃a b c d,K a b c d/\L a b c d/\R a b c d:=i6 a b c (aM d k l r)
theorem iP{K L:A->B->Prop}{M R:A->B->C->Prop}(a:A)(b:B)(k:K a b)(l:L a b)(c:C)(m:M a b c)(r:R a b c):∃a b,K a b/\L a b/\∃c,M a b c/\R a b c:=bM a b k (fN l c m r)
theorem J9{K R:A->B->C->D->E->Prop}(a:A)(b:B)(c:C)(d:D)(e:E)(k:K a b c d e)(r:R a b c d e):∃a b c d e,K a b c d e/\R a b c d e:=i6 a b c (bM d e k r)
theorem pV{R:A->B->C->D->E->F->Prop}(a:A)(b:B)(c:C)(d:D)(e:E)(f:F)(r:R a b c d e f):∃a b c d e f,R a b c d e f:=i6 a b c (i6 d e f r)
theorem BM{K L:Prop}{M N O R:A->Prop}(k:K)(l:L)(a:A)(m:M a)(n:N a)(o:O a)(r:R a):K/\L/\∃a,M a/\N a/\O a/\R a:=xPP k l (cC a m n o r)
theorem KA{K:Prop}{L M N O R:A->Prop}(k:K)(a:A)(l:L a)(m:M a)(n:N a)(o:O a)(r:R a):K/\∃a,L a/\M a/\N a/\O a/\R a:=fN k a l (bN m n o r)
theorem lD{K:Prop}{L M N R:A->B->Prop}(k:K)(a:A)(b:B)(l:L a b)(m:M a b)(n:N a b)(r:R a b):K/\∃a b,L a b/\M a b/\N a b/\R a b:=fD k a b l (xPP m n r)
theorem FD{K:Prop}{L:A->Prop}{M N R:A->B->C->Prop}(k:K)(a:A)(l:L a)(b:B)(c:C)(m:M a b c)(n:N a b c)(r:R a b c):K/\∃a,L a/\∃b c,M a b c/\N a b c/\R a b c:=fN k a l (aG b c m n r)
theorem FB{K:A->Prop}{L M N O R:A->B->Prop}(a:A)(k:K a)(b:B)(l:L a b)(m:M a b)(n:N a b)(o:O a b)(r:R a b):∃a,K a/\∃b,L a b/\M a b/\N a b/\O a b/\R a b:=tS a k b l (bN m n o r)
theorem cG{K L M N O R:A->B->Prop}(a:A)(b:B)(k:K a b)(l:L a b)(m:M a b)(n:N a b)(o:O a b)(r:R a b):∃a b,K a b/\L a b/\M a b/\N a b/\O a b/\R a b:=bM a b k (bK l m n o r)
theorem FE{K:Prop}{L:A->Prop}{M:A->B->Prop}{N R:A->B->C->Prop}(k:K)(a:A)(l:L a)(b:B)(m:M a b)(c:C)(n:N a b c)(r:R a b c):K/\∃a,L a/\∃b,M a b/\∃c,N a b c/\R a b c:=fN k a l (tS b m c n r)
theorem gI{K L M R:A->B->C->D->Prop}(a:A)(b:B)(c:C)(d:D)(k:K a b c d)(l:L a b c d)(m:M a b c d)(r:R a b c d):∃a b c d,K a b c d/\L a b c d/\M a b c d/\R a b c d:=i6 a b c (cC d k l m r)
theorem FJ{K L M:Prop}{N O R:A->B->Prop}(k:K)(l:L)(m:M)(a:A)(b:B)(n:N a b)(o:O a b)(r:R a b):K/\L/\M/\∃a b,N a b/\O a b/\R a b:=bN k l m (aG a b n o r)
theorem jC{K L:A->B->Prop}{M N R:A->B->C->Prop}(a:A)(b:B)(k:K a b)(l:L a b)(c:C)(m:M a b c)(n:N a b c)(r:R a b c):∃a b,K a b/\L a b/\∃c,M a b c/\N a b c/\R a b c:=bM a b k (j9 l c m n r)
theorem qV{K L M N O P R:A->Prop}(a:A)(k:K a)(l:L a)(m:M a)(n:N a)(o:O a)(p:P a)(r:R a):∃a,K a/\L a/\M a/\N a/\O a/\P a/\R a:=aM a k l (bK m n o p r)
theorem dX{K L M N R:A->B->C->Prop}(a:A)(b:B)(c:C)(k:K a b c)(l:L a b c)(m:M a b c)(n:N a b c)(r:R a b c):∃a b c,K a b c/\L a b c/\M a b c/\N a b c/\R a b c:=jA a b c k (bN l m n r)
theorem wZ{K L M N:Prop}{O P R:A->Prop}(k:K)(l:L)(m:M)(n:N)(a:A)(o:O a)(p:P a)(r:R a):K/\L/\M/\N/\∃a,O a/\P a/\R a:=bN k l m (j9 n a o p r)
theorem FG{K L:Prop}{M N O R:A->B->Prop}(k:K)(l:L)(a:A)(b:B)(m:M a b)(n:N a b)(o:O a b)(r:R a b):K/\L/\∃a b,M a b/\N a b/\O a b/\R a b:=xPP k l (aO a b m n o r)
theorem FA{K L M:A->B->Prop}{N R:A->B->C->Prop}(a:A)(b:B)(k:K a b)(l:L a b)(m:M a b)(c:C)(n:N a b c)(r:R a b c):∃a b,K a b/\L a b/\M a b/\∃c,N a b c/\R a b c:=bM a b k (kA l m c n r)
theorem w8{K L M N O P Q R:Prop}(k:K)(l:L)(m:M)(n:N)(o:O)(p:P)(q:Q)(r:R):K/\L/\M/\N/\O/\P/\Q/\R:=bN k l m (bK n o p q r)
theorem qP{R:A->B->C->D->E->F->G->Prop}(a:A)(b:B)(c:C)(d:D)(e:E)(f:F)(g:G)(r:R a b c d e f g):∃a b c d e f g,R a b c d e f g:=i6 a b c (iO d e f g r)
theorem wX{K:Prop}{L M N R:A->B->C->Prop}(k:K)(a:A)(b:B)(c:C)(l:L a b c)(m:M a b c)(n:N a b c)(r:R a b c):K/\∃a b c,L a b c/\M a b c/\N a b c/\R a b c:=wY k a b c (bN l m n r)
theorem aW{K L:A->B->Prop}{M N R:A->B->C->D->Prop}(a:A)(b:B)(k:K a b)(l:L a b)(c:C)(d:D)(m:M a b c d)(n:N a b c d)(r:R a b c d):∃a b,K a b/\L a b/\∃c d,M a b c d/\N a b c d/\R a b c d:=aG a b k l (aG c d m n r)
theorem DK{K:Prop}{L M:A->B->Prop}{N O R:A->B->C->Prop}(k:K)(a:A)(b:B)(l:L a b)(m:M a b)(c:C)(n:N a b c)(o:O a b c)(r:R a b c):K/\∃a b,L a b/\M a b/\∃c,N a b c/\O a b c/\R a b c:=fD k a b l (j9 m c n o r)
theorem gZ{K L M R:A->B->C->D->E->Prop}(a:A)(b:B)(c:C)(d:D)(e:E)(k:K a b c d e)(l:L a b c d e)(m:M a b c d e)(r:R a b c d e):∃a b c d e,K a b c d e/\L a b c d e/\M a b c d e/\R a b c d e:=iO a b c d (cC e k l m r)
theorem oE{K:Prop}{L R:A->B->C->D->E->F->Prop}(k:K)(a:A)(b:B)(c:C)(d:D)(e:E)(f:F)(l:L a b c d e f)(r:R a b c d e f):K/\∃a b c d e f,L a b c d e f/\R a b c d e f:=wY k a b c (jA d e f l r)
theorem lC{K:Prop}{L M N O P R:A->B->Prop}(k:K)(a:A)(b:B)(l:L a b)(m:M a b)(n:N a b)(o:O a b)(p:P a b)(r:R a b):K/\∃a b,L a b/\M a b/\N a b/\O a b/\P a b/\R a b:=fD k a b l (bK m n o p r)
theorem DJ{K:Prop}{L M N O R:A->B->C->Prop}(k:K)(a:A)(b:B)(c:C)(l:L a b c)(m:M a b c)(n:N a b c)(o:O a b c)(r:R a b c):K/\∃a b c,L a b c/\M a b c/\N a b c/\O a b c/\R a b c:=wY k a b c (bK l m n o r)
theorem hJ{K L M N O R:A->B->C->Prop}(a:A)(b:B)(c:C)(k:K a b c)(l:L a b c)(m:M a b c)(n:N a b c)(o:O a b c)(r:R a b c):∃a b c,K a b c/\L a b c/\M a b c/\N a b c/\O a b c/\R a b c:=jA a b c k (bK l m n o r)
theorem aV{K L M N R:A->B->C->D->Prop}(a:A)(b:B)(c:C)(d:D)(k:K a b c d)(l:L a b c d)(m:M a b c d)(n:N a b c d)(r:R a b c d):∃a b c d,K a b c d/\L a b c d/\M a b c d/\N a b c d/\R a b c d:=iO a b c d (bK k l m n r)
theorem tV{K L:Prop}{M:A->Prop}{N R:A->B->C->D->Prop}(k:K)(l:L)(a:A)(m:M a)(b:B)(c:C)(d:D)(n:N a b c d)(r:R a b c d):K/\L/\∃a,M a/\∃b c d,N a b c d/\R a b c d:=kA k l a m (jA b c d n r)
theorem nZ{K:A->Prop}{L M N R:A->B->C->D->Prop}(a:A)(k:K a)(b:B)(c:C)(d:D)(l:L a b c d)(m:M a b c d)(n:N a b c d)(r:R a b c d):∃a,K a/\∃b c d,L a b c d/\M a b c d/\N a b c d/\R a b c d:=wW a k b c (cC d l m n r)
theorem tW{K L M N:Prop}{O P Q R:A->Prop}(k:K)(l:L)(m:M)(n:N)(a:A)(o:O a)(p:P a)(q:Q a)(r:R a):K/\L/\M/\N/\∃a,O a/\P a/\Q a/\R a:=bK k l m n (cC a o p q r)
theorem DI{K:A->Prop}{L M N O P R:A->B->Prop}(a:A)(k:K a)(b:B)(l:L a b)(m:M a b)(n:N a b)(o:O a b)(p:P a b)(r:R a b):∃a,K a/\∃b,L a b/\M a b/\N a b/\O a b/\P a b/\R a b:=tS a k b l (bK m n o p r)
theorem DL{K L:Prop}{M N O P Q R:A->Prop}(k:K)(l:L)(a:A)(m:M a)(n:N a)(o:O a)(p:P a)(q:Q a)(r:R a):K/\L/\∃a,M a/\N a/\O a/\P a/\Q a/\R a:=kA k l a m (bK n o p q r)
theorem jD{K L M N O P Q S R:Prop}(k:K)(l:L)(m:M)(n:N)(o:O)(p:P)(q:Q)(s:S)(r:R):K/\L/\M/\N/\O/\P/\Q/\S/\R:=bK k l m n (bK o p q s r)
theorem DH{K L M N O P R:A->B->Prop}(a:A)(b:B)(k:K a b)(l:L a b)(m:M a b)(n:N a b)(o:O a b)(p:P a b)(r:R a b):∃a b,K a b/\L a b/\M a b/\N a b/\O a b/\P a b/\R a b:=aG a b k l (bK m n o p r)
theorem jB{K L:A->B->Prop}{M N O R:A->B->C->Prop}(a:A)(b:B)(k:K a b)(l:L a b)(c:C)(m:M a b c)(n:N a b c)(o:O a b c)(r:R a b c):∃a b,K a b/\L a b/\∃c,M a b c/\N a b c/\O a b c/\R a b c:=aG a b k l (cC c m n o r)
theorem tU{K:Prop}{L:A->Prop}{M N O R:A->B->C->Prop}(k:K)(a:A)(l:L a)(b:B)(c:C)(m:M a b c)(n:N a b c)(o:O a b c)(r:R a b c):K/\∃a,L a/\∃b c,M a b c/\N a b c/\O a b c/\R a b c:=fN k a l (aO b c m n o r)
theorem hV{K L M:Prop}{N O P R:A->B->Prop}(k:K)(l:L)(m:M)(a:A)(b:B)(n:N a b)(o:O a b)(p:P a b)(r:R a b):K/\L/\M/\∃a b,N a b/\O a b/\P a b/\R a b:=bN k l m (aO a b n o p r)
theorem DG{K L M:A->B->C->Prop}{N R:A->B->C->D->Prop}(a:A)(b:B)(c:C)(k:K a b c)(l:L a b c)(m:M a b c)(d:D)(n:N a b c d)(r:R a b c d):∃a b c,K a b c/\L a b c/\M a b c/\∃d,N a b c d/\R a b c d:=jA a b c k (kA l m d n r)
theorem zC{K:Prop}{L:A->B->Prop}{M N O R:A->B->C->D->Prop}(k:K)(a:A)(b:B)(l:L a b)(c:C)(d:D)(m:M a b c d)(n:N a b c d)(o:O a b c d)(r:R a b c d):K/\∃a b,L a b/\∃c d,M a b c d/\N a b c d/\O a b c d/\R a b c d:=fD k a b l (aO c d m n o r)
theorem dM{K L M N O P Q R:A->B->Prop}(a:A)(b:B)(k:K a b)(l:L a b)(m:M a b)(n:N a b)(o:O a b)(p:P a b)(q:Q a b)(r:R a b):∃a b,K a b/\L a b/\M a b/\N a b/\O a b/\P a b/\Q a b/\R a b:=aG a b k l (cN m n o p q r)
theorem zJ{K L M:Prop}{N O P R:A->B->C->Prop}(k:K)(l:L)(m:M)(a:A)(b:B)(c:C)(n:N a b c)(o:O a b c)(p:P a b c)(r:R a b c):K/\L/\M/\∃a b c,N a b c/\O a b c/\P a b c/\R a b c:=bN k l m (cI a b c n o p r)
theorem iD{K L M N O P Q S T R:Prop}(k:K)(l:L)(m:M)(n:N)(o:O)(p:P)(q:Q)(s:S)(t:T)(r:R):K/\L/\M/\N/\O/\P/\Q/\S/\T/\R:=bK k l m n (cN o p q s t r)
theorem qS{K:A->Prop}{L R:A->B->C->D->E->F->G->Prop}(a:A)(k:K a)(b:B)(c:C)(d:D)(e:E)(f:F)(g:G)(l:L a b c d e f g)(r:R a b c d e f g):∃a,K a/\∃b c d e f g,L a b c d e f g/\R a b c d e f g:=wW a k b c (nY d e f g l r)
theorem qZ{K:Prop}{L:A->Prop}{M N O R:A->B->C->D->Prop}(k:K)(a:A)(l:L a)(b:B)(c:C)(d:D)(m:M a b c d)(n:N a b c d)(o:O a b c d)(r:R a b c d):K/\∃a,L a/\∃b c d,M a b c d/\N a b c d/\O a b c d/\R a b c d:=fN k a l (cI b c d m n o r)
theorem jP{K L M:A->B->Prop}{N O R:A->B->C->D->Prop}(a:A)(b:B)(k:K a b)(l:L a b)(m:M a b)(c:C)(d:D)(n:N a b c d)(o:O a b c d)(r:R a b c d):∃a b,K a b/\L a b/\M a b/\∃c d,N a b c d/\O a b c d/\R a b c d:=aG a b k l (eQ m c d n o r)
theorem mC{K:Prop}{L M N O R:A->B->C->D->Prop}(k:K)(a:A)(b:B)(c:C)(d:D)(l:L a b c d)(m:M a b c d)(n:N a b c d)(o:O a b c d)(r:R a b c d):K/\∃a b c d,L a b c d/\M a b c d/\N a b c d/\O a b c d/\R a b c d:=wY k a b c (gO d l m n o r)
theorem l9{K:A->Prop}{L M N O R:A->B->C->D->Prop}(a:A)(k:K a)(b:B)(c:C)(d:D)(l:L a b c d)(m:M a b c d)(n:N a b c d)(o:O a b c d)(r:R a b c d):∃a,K a/\∃b c d,L a b c d/\M a b c d/\N a b c d/\O a b c d/\R a b c d:=wW a k b c (gO d l m n o r)
theorem zE{K L:Prop}{M R:A->B->C->D->E->F->Prop}(k:K)(l:L)(a:A)(b:B)(c:C)(d:D)(e:E)(f:F)(m:M a b c d e f)(r:R a b c d e f):K/\L/\∃a b c d e f,M a b c d e f/\R a b c d e f:=FI k l a b (nY c d e f m r)
theorem bP{K L:A->B->Prop}{M N O R:A->B->C->D->Prop}(a:A)(b:B)(k:K a b)(l:L a b)(c:C)(d:D)(m:M a b c d)(n:N a b c d)(o:O a b c d)(r:R a b c d):∃a b,K a b/\L a b/\∃c d,M a b c d/\N a b c d/\O a b c d/\R a b c d:=aG a b k l (aO c d m n o r)
theorem aR{R:A->B->C->D->E->F->G->H->I->Prop}(a:A)(b:B)(c:C)(d:D)(e:E)(f:F)(g:G)(h:H)(i:I)(r:R a b c d e f g h i):∃a b c d e f g h i,R a b c d e f g h i:=iO a b c d (qQ e f g h i r)
theorem rE{K L:Prop}{M N O R:A->B->C->D->Prop}(k:K)(l:L)(a:A)(b:B)(c:C)(d:D)(m:M a b c d)(n:N a b c d)(o:O a b c d)(r:R a b c d):K/\L/\∃a b c d,M a b c d/\N a b c d/\O a b c d/\R a b c d:=FI k l a b (aO c d m n o r)
theorem iC{K R:A->B->C->D->E->F->G->H->Prop}(a:A)(b:B)(c:C)(d:D)(e:E)(f:F)(g:G)(h:H)(k:K a b c d e f g h)(r:R a b c d e f g h):∃a b c d e f g h,K a b c d e f g h/\R a b c d e f g h:=iO a b c d (nY e f g h k r)
theorem fG{K L M N O P R:A->B->C->Prop}(a:A)(b:B)(c:C)(k:K a b c)(l:L a b c)(m:M a b c)(n:N a b c)(o:O a b c)(p:P a b c)(r:R a b c):∃a b c,K a b c/\L a b c/\M a b c/\N a b c/\O a b c/\P a b c/\R a b c:=jA a b c k (cN l m n o p r)
theorem jQ{K:Prop}{L M N:A->B->Prop}{O R:A->B->C->D->Prop}(k:K)(a:A)(b:B)(l:L a b)(m:M a b)(n:N a b)(c:C)(d:D)(o:O a b c d)(r:R a b c d):K/\∃a b,L a b/\M a b/\N a b/\∃c d,O a b c d/\R a b c d:=fD k a b l (FH m n c d o r)
theorem zB{K L M N O P Q S R:A->Prop}(a:A)(k:K a)(l:L a)(m:M a)(n:N a)(o:O a)(p:P a)(q:Q a)(s:S a)(r:R a):∃a,K a/\L a/\M a/\N a/\O a/\P a/\Q a/\S a/\R a:=cC a k l m (cN n o p q s r)
theorem bW{K L R:A->B->C->D->E->F->G->Prop}(a:A)(b:B)(c:C)(d:D)(e:E)(f:F)(g:G)(k:K a b c d e f g)(l:L a b c d e f g)(r:R a b c d e f g):∃a b c d e f g,K a b c d e f g/\L a b c d e f g/\R a b c d e f g:=iO a b c d (jN e f g k l r)
theorem y6{K L M:A->B->Prop}{N R:A->B->C->D->E->Prop}(a:A)(b:B)(k:K a b)(l:L a b)(m:M a b)(c:C)(d:D)(e:E)(n:N a b c d e)(r:R a b c d e):∃a b,K a b/\L a b/\M a b/\∃c d e,N a b c d e/\R a b c d e:=aG a b k l (vC m c d e n r)
theorem qR{K L M:A->B->Prop}{N O P R:A->B->C->Prop}(a:A)(b:B)(k:K a b)(l:L a b)(m:M a b)(c:C)(n:N a b c)(o:O a b c)(p:P a b c)(r:R a b c):∃a b,K a b/\L a b/\M a b/\∃c,N a b c/\O a b c/\P a b c/\R a b c:=aG a b k l (zD m c n o p r)
theorem y8{K:A->Prop}{L M N R:A->B->C->D->E->Prop}(a:A)(k:K a)(b:B)(c:C)(d:D)(e:E)(l:L a b c d e)(m:M a b c d e)(n:N a b c d e)(r:R a b c d e):∃a,K a/\∃b c d e,L a b c d e/\M a b c d e/\N a b c d e/\R a b c d e:=wW a k b c (aO d e l m n r)
theorem cR{K L M R:A->B->C->D->E->F->Prop}(a:A)(b:B)(c:C)(d:D)(e:E)(f:F)(k:K a b c d e f)(l:L a b c d e f)(m:M a b c d e f)(r:R a b c d e f):∃a b c d e f,K a b c d e f/\L a b c d e f/\M a b c d e f/\R a b c d e f:=iO a b c d (aO e f k l m r)
theorem eP{K L:A->B->Prop}{M R:A->B->C->D->E->F->Prop}(a:A)(b:B)(k:K a b)(l:L a b)(c:C)(d:D)(e:E)(f:F)(m:M a b c d e f)(r:R a b c d e f):∃a b,K a b/\L a b/\∃c d e f,M a b c d e f/\R a b c d e f:=aG a b k l (nY c d e f m r)
theorem bG{K L M N O R:A->B->C->D->Prop}(a:A)(b:B)(c:C)(d:D)(k:K a b c d)(l:L a b c d)(m:M a b c d)(n:N a b c d)(o:O a b c d)(r:R a b c d):∃a b c d,K a b c d/\L a b c d/\M a b c d/\N a b c d/\O a b c d/\R a b c d:=nY a b c d k (bK l m n o r)
theorem rF{K L:Prop}{M:A->Prop}{N O R:A->B->C->D->Prop}(k:K)(l:L)(a:A)(m:M a)(b:B)(c:C)(d:D)(n:N a b c d)(o:O a b c d)(r:R a b c d):K/\L/\∃a,M a/\∃b c d,N a b c d/\O a b c d/\R a b c d:=kA k l a m (jN b c d n o r)
theorem qT{K:A->Prop}{L M R:A->B->C->D->E->F->Prop}(a:A)(k:K a)(b:B)(c:C)(d:D)(e:E)(f:F)(l:L a b c d e f)(m:M a b c d e f)(r:R a b c d e f):∃a,K a/\∃b c d e f,L a b c d e f/\M a b c d e f/\R a b c d e f:=wW a k b c (jN d e f l m r)
theorem zK{K L M:Prop}{N O:A->B->Prop}{P R:A->B->C->Prop}(k:K)(l:L)(m:M)(a:A)(b:B)(n:N a b)(o:O a b)(c:C)(p:P a b c)(r:R a b c):K/\L/\M/\∃a b,N a b/\O a b/\∃c,P a b c/\R a b c:=bN k l m (iP a b n o c p r)
theorem qW{K:Prop}{L M N R:A->B->C->D->E->Prop}(k:K)(a:A)(b:B)(c:C)(d:D)(e:E)(l:L a b c d e)(m:M a b c d e)(n:N a b c d e)(r:R a b c d e):K/\∃a b c d e,L a b c d e/\M a b c d e/\N a b c d e/\R a b c d e:=wY k a b c (aO d e l m n r)
theorem jO{K L:A->B->Prop}{M N R:A->B->C->D->E->Prop}(a:A)(b:B)(k:K a b)(l:L a b)(c:C)(d:D)(e:E)(m:M a b c d e)(n:N a b c d e)(r:R a b c d e):∃a b,K a b/\L a b/\∃c d e,M a b c d e/\N a b c d e/\R a b c d e:=aG a b k l (jN c d e m n r)
theorem zI{K L M:Prop}{N O R:A->B->C->D->Prop}(k:K)(l:L)(m:M)(a:A)(b:B)(c:C)(d:D)(n:N a b c d)(o:O a b c d)(r:R a b c d):K/\L/\M/\∃a b c d,N a b c d/\O a b c d/\R a b c d:=bN k l m (BL a b c d n o r)
theorem zG{K L:Prop}{M N O P Q S R:A->Prop}(k:K)(l:L)(a:A)(m:M a)(n:N a)(o:O a)(p:P a)(q:Q a)(s:S a)(r:R a):K/\L/\∃a,M a/\N a/\O a/\P a/\Q a/\S a/\R a:=kA k l a m (cN n o p q s r)
theorem y9{K:A->Prop}{L M:A->B->C->Prop}{N R:A->B->C->D->E->Prop}(a:A)(k:K a)(b:B)(c:C)(l:L a b c)(m:M a b c)(d:D)(e:E)(n:N a b c d e)(r:R a b c d e):∃a,K a/\∃b c,L a b c/\M a b c/\∃d e,N a b c d e/\R a b c d e:=vB a k b c l (fD m d e n r)
theorem qU{K L:A->Prop}{M R:A->B->C->D->E->F->Prop}(a:A)(k:K a)(l:L a)(b:B)(c:C)(d:D)(e:E)(f:F)(m:M a b c d e f)(r:R a b c d e f):∃a,K a/\L a/\∃b c d e f,M a b c d e f/\R a b c d e f:=aM a k l (J9 b c d e f m r)
theorem zF{K L:Prop}{M N O P R:A->B->C->Prop}(k:K)(l:L)(a:A)(b:B)(c:C)(m:M a b c)(n:N a b c)(o:O a b c)(p:P a b c)(r:R a b c):K/\L/\∃a b c,M a b c/\N a b c/\O a b c/\P a b c/\R a b c:=FI k l a b (gO c m n o p r)
theorem qY{K:Prop}{L M:A->B->Prop}{N O R:A->B->C->D->Prop}(k:K)(a:A)(b:B)(l:L a b)(m:M a b)(c:C)(d:D)(n:N a b c d)(o:O a b c d)(r:R a b c d):K/\∃a b,L a b/\M a b/\∃c d,N a b c d/\O a b c d/\R a b c d:=fD k a b l (eQ m c d n o r)
theorem a7{K L M N R:A->B->C->D->E->Prop}(a:A)(b:B)(c:C)(d:D)(e:E)(k:K a b c d e)(l:L a b c d e)(m:M a b c d e)(n:N a b c d e)(r:R a b c d e):∃a b c d e,K a b c d e/\L a b c d e/\M a b c d e/\N a b c d e/\R a b c d e:=iO a b c d (gO e k l m n r)
theorem qX{K:Prop}{L M N O P R:A->B->C->Prop}(k:K)(a:A)(b:B)(c:C)(l:L a b c)(m:M a b c)(n:N a b c)(o:O a b c)(p:P a b c)(r:R a b c):K/\∃a b c,L a b c/\M a b c/\N a b c/\O a b c/\P a b c/\R a b c:=vC k a b c l (bK m n o p r)
end
namespace L2
open PySem PySem.Spec PyProof.Rows
abbrev Key:=Sum Int Str
def pL:Key->Value->Bool
 |.inl k,v=>Value.isInt k v
 |.inr x,v=>Value.isStrOf x v
def TX(w:World):Key->Int
 |.inl k=>hashInt k
 |.inr x=>hashStr w x
theorem cH:∀{k:Key}{v:Value},pL k v=true->(∃i t,k=Sum.inl i/\v=Value.int i t)\/(∃x t,k=Sum.inr x/\v=Value.str x t)
 |.inl i,v,h=>by
  obtain⟨t,e⟩:=Value.isInt_shape (k:=i) (v:=v) h;exact .inl (bM i t rfl e)
 |.inr x,v,h=>by
  obtain⟨t,e⟩:=Value.isStrOf_shape (x:=x) (v:=v) h;exact .inr (bM x t rfl e)
theorem EU(i:Int)(t:Tok):pL (.inl i) (.int i t)=true:=by simp[pL,Value.isInt]
theorem ET(x:Str)(t:Tok):pL (.inr x) (.str x t)=true:=by simp[pL,Value.isStrOf]
theorem P7(a b:Int):decide ((Sum.inl a:Key)=Sum.inl b)=(a==b):=by
 by_cases e:a=b
 ·subst e;simp
 ·have h:¬(Sum.inl a:Key)=Sum.inl b:=λq=>e (Sum.inl.inj q);rw[Yc h];exact(beq_eq_false_iff_ne.mpr e).symm
theorem P1(a b:Str):decide ((Sum.inr a:Key)=Sum.inr b)=decide (a=b):=by
 by_cases e:a=b
 ·subst e;simp
 ·have h:¬(Sum.inr a:Key)=Sum.inr b:=λq=>e (Sum.inr.inj q);rw[Yc h,Yc e]
theorem P5(a:Int)(b:Str):decide ((Sum.inl a:Key)=Sum.inr b)=false:=Yc (λq=>nomatch q)
theorem P3(a:Str)(b:Int):decide ((Sum.inr a:Key)=Sum.inl b)=false:=Yc (λq=>nomatch q)
def cQ(prog:Program)(w:World):PySem.KeyKind prog w Key where
 is:=pL
 hash:=TX w
 inj:=λv a b ha hb=>by
  rcases cH ha with⟨i,t,rfl,rfl⟩ | ⟨x,t,rfl,rfl⟩
  ·rcases cH hb with⟨j,u,rfl,e⟩ | ⟨y,u,rfl,e⟩
   ·injection e with e1 _;rw[e1]
   ·exact nomatch e
  ·rcases cH hb with⟨j,u,rfl,e⟩ | ⟨y,u,rfl,e⟩
   ·exact nomatch e
   ·injection e with e1 _;rw[e1]
 byValue:=λk v h=>by
  rcases cH h with⟨i,t,rfl,rfl⟩ | ⟨x,t,rfl,rfl⟩<;>rfl
 pyHash:=λhv h=>by
  rcases cH hv with⟨i,t,rfl,rfl⟩ | ⟨x,t,rfl,rfl⟩
  ·exact wpAny_pyHash_int h
  ·exact wpAny_pyHash_str h
 eqBool:=λhu hv h=>by
  rcases cH hu with⟨i,t,rfl,rfl⟩ | ⟨x,t,rfl,rfl⟩
  ·rcases cH hv with⟨j,u,rfl,rfl⟩ | ⟨y,u,rfl,rfl⟩
   ·rw[P7]at h;exact wpAny_eqBool_int h
   ·rw[P5]at h;exact SeqAt.EqAt.int_str i t y u _ _ _ _ h
  ·rcases cH hv with⟨j,u,rfl,rfl⟩ | ⟨y,u,rfl,rfl⟩
   ·rw[P3]at h;exact SeqAt.EqAt.str_int x t j u _ _ _ _ h
   ·rw[P1]at h;exact wpAny_eqBool_str h
 «strs»:=λk x t v h=>by
  rcases cH h with⟨i,u,rfl,e⟩ | ⟨y,u,rfl,e⟩
  ·exact nomatch e
  ·injection e with e1 _;subst e1;cases v<;>rfl
theorem x9(prog:Program)(w:World)(i:Int)(t:Tok):(cQ prog w).is (.inl i) (.int i t)=true:=EU i t
theorem x8(prog:Program)(w:World)(x:Str)(t:Tok):(cQ prog w).is (.inr x) (.str x t)=true:=ET x t
inductive V where
 |non | bl (b:Bool) | int (i:Int) | str (x:Str) | byt (b:Array UInt8) | flt (b:UInt64) | ref (a:Addr) | ty (n:String)
 deriving DecidableEq
def RelV:V->Value->Prop
 |.non,u=>u=Value.none
 |.bl b,u=>u=Value.bool b
 |.int i,u=>∃t,u=Value.int i t
 |.str x,u=>∃t,u=Value.str x t
 |.byt b,u=>∃t,u=Value.bytes b t
 |.flt b,u=>∃t,u=Value.float b t
 |.ref a,u=>u=Value.ref a
 |.ty n,u=>u=Value.type n
abbrev bD:List V->List Value->Prop:=Paired RelV
theorem bD.length{xs:List V}{us:List Value}(r:bD xs us):xs.length=us.length:=Paired.length r
theorem bD.get:∀{xs:List V}{us:List Value}{i:Nat}{x:V},bD xs us->xs[i]?=some x->∃u,us[i]?=some u/\RelV x u
 |_,_,_,_,.nil,e=>by simp at e
 |_,_,0,_,.cons r _,e=>by simp at e;subst e;exact(xWP _ rfl r)
 |_,_,i+1,x,.cons _ t,e=>by
  obtain⟨u,h1,h2⟩:=bD.get (i:=i) (x:=x) t (by simpa using e);exact(xWP u (by simpa using h1) h2)
theorem bD.set{x:V}{u:Value}(r:RelV x u):∀{xs:List V}{us:List Value}(i:Nat),bD xs us->bD (xs.set i x) (us.set i u)
 |_,_,_,.nil=>.nil
 |_,_,0,.cons _ t=>.cons r t
 |_,_,i+1,.cons q t=>.cons q (bD.set r i t)
theorem bD.append:∀{xs ys:List V}{us ws:List Value},bD xs us->bD ys ws->bD (xs++ys) (us++ws)
 |_,_,_,_,.nil,s=>s
 |_,_,_,_,.cons r t,s=>.cons r (bD.append t s)
theorem bD.take:∀{xs:List V}{us:List Value}(n:Nat),bD xs us->bD (xs.take n) (us.take n)
 |_,_,0,_=>.nil
 |_,_,_+1,.nil=>.nil
 |_,_,n+1,.cons r t=>.cons r (bD.take n t)
theorem bD.drop:∀{xs:List V}{us:List Value}(n:Nat),bD xs us->bD (xs.drop n) (us.drop n)
 |_,_,0,r=>r
 |_,_,_+1,.nil=>.nil
 |_,_,n+1,.cons _ t=>bD.drop n t
def wU:Option V->Option Value->Prop
 |some v,some u=>RelV v u
 |none,none=>True
 |_,_=>False
def KV{κ:Type}:List (κ×V)->List (κ×Value)->Prop:=Paired λ(p:κ×V) (q:κ×Value)=>p.1=q.1/\RelV p.2 q.2
def kV:Key->V
 |.inl i=>.int i
 |.inr x=>.str x
inductive HO where
 |lst (xs:List V)
 |tup (xs:List V)
 |dK (kvs:List (Key×V)) | dT (kvs:List (List Key×V))
 |set (S:Int->Bool) (n:Nat)
 |ins (C dx:Addr) (fs:List (Str×V))
 |own (x:Addr)
 |xd (fs:List (Str×V))
 |met (f x:Addr)
 |rng (lo hi:Int)
 |frz (o:Obj) (u:HO)
 |tbl (ps:Array Value)
 |ext (φ:Heap->Prop)
abbrev Hp:=Addr->Option HO
def upd(H:Hp)(a:Addr)(o:HO):Hp:=λb=>if b=a then some o else H b
theorem aB{H:Hp}{a:Addr}{o:HO}:upd H a o a=some o:=by unfold upd;rw[Yb rfl]
theorem aH{H:Hp}{a b:Addr}{o:HO}(h:b≠a):upd H a o b=H b:=by unfold upd;rw[Ya h]
theorem fB{H:Hp}{a:Addr}{o u:HO}:upd (upd H a o) a u=upd H a u:=by
 funext b;unfold upd;split<;>rfl
theorem b8{H:Hp}{a b:Addr}{o u:HO}(h:H a=some o)(h':H b=some u)(d:o≠u):a≠b:=by
 intro e;subst e;rw[h]at h';exact d (Option.some.inj h')
theorem aE{H:Hp}{a b:Addr}{o:HO}(h:H a=some o)(h':H b=none):a≠b:=by
 intro e;subst e;rw[h]at h';cases h'
section
variable(P:Program)(w:World)
def cD(H:Hp)(h:Heap)(a:Addr):HO->Prop
 |.lst xs=>xs.length<=ZW/\∃(its:List Value) (n:Nat),bD xs its/\h.get? a=some { cls:=.type "list",data:=.seq its.toArray n }
 |.tup xs=>xs.length<=ZW/\∃its:List Value,bD xs its/\IsTup h a its.toArray
 |.dK kvs=>kvs.length<=ZW/\(a==sysModules)=false/\∃vs,KV kvs vs/\h.DictOf (cQ P w) a vs
 |.dT kvs=>kvs.length<=ZW/\(a==sysModules)=false/\∃xs:List (List Key×Addr×Value),
   Paired (λ(p:List Key×V) (q:List Key×Addr×Value)=>p.1=q.1/\H q.2.1=some (.tup (p.1.map kV))/\RelV p.2 q.2.2) kvs xs /\
   ∃o es ep,h.get? a=some o/\o.ExactDict/\o.data=.dict es ep/\es.toList=xs.map (entryOfKey (tupleKind (cQ P w)))/\(xs.map (·.1)).Nodup
 |.set S n=>h.SetOf (intKind P w) a S n
 |.ins C dx fs=>H dx=some (.own a)/\fs.length<=1000/\dx≠a/\h.get? a=some (PySem.W.instObj C dx) /\
   ∃mA,h.Ns1 dx mA/\(∀f,wU (fs.lookup f) (mA f))/\PySem.Within mA (fs.map (·.1))
 |.own _=>∃o,h.get? a=some o
 |.xd fs=>∃mA,h.Ns1 a mA/\∀f,wU (fs.lookup f) (mA f)
 |.rng lo hi=>∃t u v,h.get? a=some { cls:=.type "range",data:=.fields #[.int lo t,.int hi u,.int 1 v] }
 |.frz o u=>h.get? a=some o/\cD H h a u
 |.tbl ps=>h.get? a=some { cls:=.none,data:=.fields ps }
 |.met f x=>h.get? a=some (PySem.W.methodObj (.ref f) (.ref x))
 |.ext φ=>φ h/\(∃o,h.get? a=some o)/\∀h1 h2:Heap,φ h1->(∀o,h1.get? a=some o->h2.get? a=some o)->φ h2
def HOk(H:Hp)(h:Heap):Prop:=∀a o,H a=some o->cD P w H h a o
end
section
variable{P:Program}{w:World}{H H':Hp}{h h':Heap}{a:Addr}{o:HO}
theorem cD.lt(x:cD P w H h a o):a<h.objs.size:=by
 cases o with
 |lst xs=>obtain⟨_,_,_,_,e⟩:=x;exact YV e
 |tup xs=>obtain⟨_,_,_,p⟩:=x;exact p.lt
 |dK kvs=>obtain⟨_,_,_,_,o,_,_,e,_⟩:=x;exact YV e
 |dT kvs=>obtain⟨_,_,_,_,o,_,_,e,_⟩:=x;exact YV e
 |set S n=>obtain⟨o,_,_,_,e,_⟩:=x;exact YV e
 |ins C dx fs=>obtain⟨_,_,_,e,_⟩:=x;exact YV e
 |own y=>obtain⟨_,e⟩:=x;exact YV e
 |xd fs=>obtain⟨_,⟨_,_,_,e,_⟩,_⟩:=x;exact YV e
 |rng lo hi=>obtain⟨_,_,_,e⟩:=x;exact YV e
 |frz ob u=>obtain⟨e,_⟩:=x;exact YV e
 |tbl ps=>exact YV (show h.get? a=some _ from x)
 |met f y=>exact YV (show h.get? a=some _ from x)
 |ext φ=>obtain⟨_,⟨_,e⟩,_⟩:=x;exact YV e
theorem k9{α β:Type}{F G:α->β->Prop}:∀{l₁:List α}{l₂:List β},Paired F l₁ l₂->(∀a b,F a b->G a b)->Paired G l₁ l₂
 |_,_,.nil,_=>.nil
 |_,_,.cons r t,f=>.cons (f _ _ r) (k9 t f)
theorem cD.stay(x:cD P w H h a o)(k:∀b u,(b=a\/H b=some (.own a))->h.get? b=some u->h'.get? b=some u)
  (ho:∀b,H b=some (.own a)->H' b=some (.own a)) (ht:∀b xs,H b=some (.tup xs)->H' b=some (.tup xs)):cD P w H' h' a o:=by
 induction o with
 |lst xs=>obtain⟨z,its,n,r,e⟩:=x;exact(fD z its n r (k _ _ (.inl rfl) e))
 |tup xs=>obtain⟨z,its,r,ob,e,c⟩:=x;exact(FF z its r ob (k _ _ (.inl rfl) e) c)
 |dK kvs=>obtain⟨z,y,vs,r,ob,es,ep,e,c⟩:=x;exact(tV z y vs r ob es ep (k _ _ (.inl rfl) e) c)
 |dT kvs =>
  obtain⟨z,y,xs,r,ob,es,ep,e,c⟩:=x;exact(tV z y xs (k9 r λp q z=>(xPP z.1 (ht _ _ z.2.1) z.2.2)) ob es ep (k _ _ (.inl rfl) e) c)
 |set S n=>obtain⟨ob,es,ep,t,e,c⟩:=x;exact(nY ob es ep t (k _ _ (.inl rfl) e) c)
 |ins C dx fs =>
  obtain⟨d,z,ne,e,mA,⟨od,es,ep,e2,c⟩,r⟩:=x;exact(KC (ho _ d) z ne (k _ _ (.inl rfl) e) mA (jA od es ep (k _ _ (.inr d) e2) c) r)
 |own y=>obtain⟨ob,e⟩:=x;exact⟨ob,k _ _ (.inl rfl) e⟩
 |xd fs=>obtain⟨mA,⟨od,es,ep,e,c⟩,r⟩:=x;exact(xWP mA (jA od es ep (k _ _ (.inl rfl) e) c) r)
 |rng lo hi=>obtain⟨t,u,v,e⟩:=x;exact(i6 t u v (k _ _ (.inl rfl) e))
 |frz ob u ih=>obtain⟨e,q⟩:=x;exact⟨k _ _ (.inl rfl) e,ih q⟩
 |tbl ps =>
  have e:h.get? a=some { cls:=.none,data:=.fields ps }:=x;show h'.get? a=some { cls:=.none,data:=.fields ps };exact k a _ (.inl rfl) e
 |met f y =>
  have e:h.get? a=some (PySem.W.methodObj (.ref f) (.ref y)):=x;show h'.get? a=some (PySem.W.methodObj (.ref f) (.ref y));exact k a _ (.inl rfl) e
 |ext φ=>obtain⟨p,⟨o,e⟩,st⟩:=x;exact(xPP (st _ _ p λo q=>k _ _ (.inl rfl) q) ⟨o,k _ _ (.inl rfl) e⟩ st)
theorem HOk.lt(x:HOk P w H h)(e:H a=some o):a<h.objs.size:=(x a o e).lt
theorem HOk.fresh(x:HOk P w H h)(e:h.objs.size<=a):H a=none:=by
 cases q:H a with
 |none=>rfl
 |some u=>exact Yg (Xz (x.lt q) e) (YY _)
theorem HOk.kept(x:HOk P w H h)(k:∀b u,h.get? b=some u->h'.get? b=some u):HOk P w H h':=λa o e =>
 (x a o e).stay (λb u _ q=>k b u q) (λ_ q=>q) λ_ _ q=>q
theorem HOk.laid(x:HOk P w H h)(k:∀b u,h.get? b=some u->h'.get? b=some u)(hp:h.objs.size<=a)(new:cD P w (upd H a o) h' a o):HOk P w (upd H a o) h':=λb u e=>by
 have hn:=x.fresh hp;by_cases hb:b=a
 ·subst hb;rw[aB]at e;cases e;exact new
 ·rw[aH hb]at e;exact(x b u e).stay (λc v _ q=>k c v q) (λc q=>by rw[aH (aE q hn)];exact q) λc xs q=>by rw[aH (aE q hn)];exact q
end
def Rd(H:Hp)(a:Addr)(u:HO):Prop:=H a=some u\/∃o,H a=some (.frz o u)
theorem Rd.ok{P:Program}{w:World}{H:Hp}{h:Heap}{a:Addr}{u:HO}(r:Rd H a u)(x:HOk P w H h):cD P w H h a u:=by
 rcases r with r | ⟨o,r⟩
 ·exact x a u r
 ·obtain⟨_,q⟩:=x a _ r;exact q
def Mut:Option HO->Prop
 |some (.lst _)=>True
 |some (.dK _)=>True
 |some (.dT _)=>True
 |some (.set _ _)=>True
 |some (.ins _ _ _)=>True
 |some (.ext _)=>True
 |_=>False
section
variable{P:Program}{w:World}{H:Hp}{h h':Heap}{x e:Addr}{o':HO}
theorem HOk.write(ok:HOk P w H h)(mu:Mut (H x))(he:e=x\/H e=some (.own x))(k:∀b u,b≠e->h.get? b=some u->h'.get? b=some u)(heo:∃u,h'.get? e=some u)
  (new:cD P w (upd H x o') h' x o'):HOk P w (upd H x o') h':=λb u q=>by
 have nown:∀c y,H c=some (.own y)->c≠x:=λc y r z=>by subst z;rw[r]at mu;exact mu
 have ntup:∀c xs,H c=some (.tup xs)->c≠x:=λc xs r z=>by subst z;rw[r]at mu;exact mu
 by_cases hb:b=x
 ·subst hb;rw[aB]at q;cases q;exact new
 ·rw[aH hb]at q;by_cases hbe:b=e
  ·have q':H b=some (.own x):=by
    rcases he with z | z
    ·exact Yg (hbe.trans z) hb
    ·rw[hbe];exact z
   rw[q]at q';cases q';obtain⟨v,hv⟩:=heo;exact⟨v,by rw[hbe];exact hv⟩
  ·refine(ok b u q).stay (λc v hc r=>k c v ?_ r) (λc r=>by rw[aH (nown c b r)];exact r) λc xs r=>by rw[aH (ntup c xs r)];exact r
   rcases hc with rfl | hc
   ·exact hbe
   ·rintro rfl;rcases he with z | z
    ·exact nown c b hc z
    ·rw[hc]at z;cases z;exact hb rfl
end
structure Un(fs ex:List Addr)(H H':Hp)(h h':Heap):Prop where
 keep:∀b o,h.get? b=some o->H b=none->b∉fs->b∉ex->h'.get? b=some o
 slot:∀b o,h.get? b=some o->H b=none->b∈fs->b∉ex->∃sl,h'.get? b=some { o with slots:=sl }
 free:∀b o,h.get? b=some o->H b=none->b∉ex->H' b=none
 there:∀b o,h.get? b=some o->b∉ex->∃o',h'.get? b=some o'
 tups:∀b xs,H b=some (.tup xs)->H' b=some (.tup xs)
 frzs:∀b o u,H b=some (.frz o u)->H' b=some (.frz o u)
 tbls:∀b ps,H b=some (.tbl ps)->∃more,H' b=some (.tbl (ps++more))
section
variable{fs fs' ex ex':List Addr}{H H1 H2:Hp}{h h1 h2 h':Heap}{a x e:Addr}{o:HO}
theorem Un.any(u:Un fs ex H H1 h h1){b:Addr}{ob:Obj}(q:h.get? b=some ob)(n:H b=none)(hx:b∉ex):∃sl,h1.get? b=some { ob with slots:=sl }:=by
 by_cases hb:b∈fs
 ·exact u.slot b ob q n hb hx
 ·exact⟨ob.slots,u.keep b ob q n hb hx⟩
theorem Un.kept(k:∀b u,h.get? b=some u->h'.get? b=some u):Un fs ex H H h h' :=
 ⟨λb ob q _ _ _=>k b ob q,λb ob q _ _ _=>⟨ob.slots,k b ob q⟩,λ_ _ _ n _=>n,λb ob q _=>⟨ob,k b ob q⟩,λ_ _ q=>q,λ_ _ _ q=>q,λ_ ps q=>⟨#[],by rw[q];simp⟩⟩
theorem Un.refl:Un fs ex H H h h:=Un.kept λ_ _ q=>q
theorem Un.laid(k:∀b u,h.get? b=some u->h'.get? b=some u)(hp:h.objs.size<=a)(hn:H a=none):Un fs ex H (upd H a o) h h' where
 keep:=λb u q _ _ _=>k b u q
 slot:=λb u q _ _ _=>⟨u.slots,k b u q⟩
 free:=λb u q n _=>by rw[aH (ZA (Xz (YV q) hp))];exact n
 there:=λb u q _=>⟨u,k b u q⟩
 tups:=λb xs q=>by rw[aH (aE q hn)];exact q
 frzs:=λb u xs q=>by rw[aH (aE q hn)];exact q
 tbls:=λb ps q=>⟨#[],by rw[aH (aE q hn),q];simp⟩
theorem Un.write(mu:Mut (H x))(he:e=x\/H e=some (.own x))(k:∀b u,b≠e->h.get? b=some u->h'.get? b=some u)(heo:∃u,h'.get? e=some u):Un fs ex H (upd H x o) h h':=by
 have hx:∀b,H b=none->b≠x:=λb n z=>by subst z;rw[n]at mu;exact mu
 have hb:∀b,H b=none->b≠e:=λb n z=>by
  subst z;rcases he with r | r
  ·exact hx b n r
  ·rw[n]at r;cases r
 have hm:∀b u,H b=some u->¬Mut (some u)->b≠x:=λb u q nm z=>by subst z;rw[q]at mu;exact nm mu
 refine⟨λb u q n _ _=>k b u (hb b n) q,λb u q n _ _=>⟨u.slots,k b u (hb b n) q⟩,λb u q n _=>by rw[aH (hx b n)];exact n,λb u q _=>?_,
  λb xs q=>by rw[aH (hm b _ q λz=>z)];exact q,λb u xs q=>by rw[aH (hm b _ q λz=>z)];exact q,λb ps q=>⟨#[],by rw[aH (hm b _ q λz=>z),q];simp⟩⟩
 by_cases hbe:b=e
 ·subst hbe;exact heo
 ·exact⟨u,k b u hbe q⟩
end
def trk(h:Heap)(H:Hp):List Addr:=(ZS h.objs.size).filter λa=>(H a).isSome
def wG(h:Heap)(H:Hp):Heap:=PySem.W.hideAll h (trk h H)
theorem EX(h:Heap)(H:Hp):(wG h H).objs.size=h.objs.size:=PySem.W.hideAll_size _ _
theorem IZ{h:Heap}{H:Hp}{b:Addr}{o:Obj}(e:h.get? b=some o)(n:H b=none):(wG h H).get? b=some o :=
 PySem.W.hideAll_get _ e λhm=>by
  have q:(H b).isSome=true:=(Yz.mp hm).2;rw[n]at q;simp at q
theorem MC{h:Heap}{H:Hp}{b:Addr}{o:Obj}(e:(wG h H).get? b=some o):h.get? b=some o/\H b=none:=by
 have e':h.get? b=some o:=PySem.W.of_hideAll (trk h H) e;refine⟨e',?_⟩;cases q:H b with
 |none=>rfl
 |some x =>
  have hm:b∈trk h H:=Yz.mpr ⟨Zs.mpr (YV e'),by simp[q]⟩;have z:(wG h H).get? b=none:=PySem.W.hideAll_none (trk h H) hm;rw[z]at e;cases e
structure Mod(K:PySem.W.Frag)(mg:Str->Option Value)(base:Heap):Prop where
 kin:K.In base
 glob:base.Ns ZV mg
 blt:∃mb,base.Ns builtinsNs mb/\∀x:Str,x≠"__name__"->mb x=bootBuiltins x
 nolimit:base.NoLimit
structure Cx where
 prog:Program
 w:World
 K:PySem.W.Frag
 mg:Str->Option Value
 base:Heap
 A:Around
 N:List Str
 s₀:Shared
 H₀:Hp
 env:Env
 outer:List Env
 stack:List Env
 ex:List Addr
 fn:Str->Bool
 calm:Bool
 pn:List (!16)
 xe:Value->Shared->Prop
def frs(l:List Env):List Addr:=l.filterMap (·.frame)
abbrev Cx.fs(X:Cx):List Addr:=frs X.outer
def Vis(sc:Scope)(x:Str):Prop:=sc.names.lookup x=some .local\/sc.names.lookup x=some .cell\/sc.names.lookup x=some .free
def Loc(sc:Scope)(x:Str):Prop:=sc.names.lookup x=some .local\/sc.names.lookup x=some .cell
def Look(env:Env)(h:Heap)(m:Str->Option Value)(x:Str)(u:Value):Prop :=
 (env.kindOf x=some .local/\m x=some u)\/((env.kindOf x=some .cell\/env.kindOf x=some .free)/\∃c,env.cells.lookup x=some c/\h.IsCell c (some u))
structure Cx.Ok(X:Cx):Prop where
 mod:Mod X.K X.mg X.base
 kind:X.env.scope.kind=.function
 glob:X.env.globals=ZV
 blt:X.env.builtins=builtinsNs
 above:X.s₀.heap.objs.size<=X.env.locals
 inj:∀x y c,X.env.cells.lookup x=some c->X.env.cells.lookup y=some c->x=y
 has:∀x,(X.env.kindOf x=some .cell\/X.env.kindOf x=some .free)->∃c,X.env.cells.lookup x=some c
 cab:∀x c,X.fn x=true->X.env.cells.lookup x=some c->X.s₀.heap.objs.size<=c
 hd:X.calm=true->X.A.handled=none
 frames:X.A.frames=some X.stack
 stk:X.stack=X.outer\/(X.stack=X.env::X.outer/\X.env.frame=some X.env.locals)
 exf:∀b∈X.ex,b≠X.env.locals/\∀x c,X.env.cells.lookup x=some c->c≠b
 bs:∀b o,X.base.get? b=some o->X.s₀.heap.get? b=some o/\X.H₀ b=none
 bsz:X.base.objs.size<=X.s₀.heap.objs.size
 noex:∀b o,X.base.get? b=some o->b∉X.ex
 exfs:∀b∈X.ex,b∉X.fs
 funs:X.s₀.heap.FunFrames X.base X.outer
 frf:∀b∈X.fs,X.H₀ b=none
structure Inv(X:Cx)(pins:List (!16))(σ:List (Option V))(H:Hp)(s:Shared):Prop where
 ok:X.Ok
 os:s.os=X.s₀.os
 bare:AllBare s.gens
 base:Un X.fs X.ex X.H₀ H X.s₀.heap s.heap
 loc:∃m,s.heap.Ns X.env.locals m/\∀(i:Nat) (x:Str) (v:V),X.N[i]?=some x->σ[i]?=some (some v)->Vis X.env.scope x->∃u,RelV v u/\Look X.env s.heap m x u
 cell:∀x c,X.env.cells.lookup x=some c->∃v,s.heap.IsCell c v
 free:H X.env.locals=none
 freeC:∀x c,X.env.cells.lookup x=some c->H c=none
 pin:∀p∈X.pn++pins,s.heap.get? p.1=some p.2/\H p.1=none/\p.1≠X.env.locals/\p.1∉X.fs/\∀v,p.2.data≠.cell v
 hok:HOk X.prog X.w H s.heap
 len:σ.length=X.N.length
section
variable{X:Cx}{pins:List (!16)}{σ:List (Option V)}{H H':Hp}{s:Shared}{h':Heap}
theorem Cx.Ok.nofr(ok:X.Ok){b:Addr}{o:Obj}(e:X.base.get? b=some o):b∉X.fs:=λhb=>by
 have:=(ok.funs.mem hb).1;rw[e]at this;cases this
theorem Inv.bs(I:Inv X pins σ H s):∀b o,X.base.get? b=some o->s.heap.get? b=some o/\H b=none:=λb o e =>
 ⟨I.base.keep b o (I.ok.bs b o e).1 (I.ok.bs b o e).2 (I.ok.nofr e) (I.ok.noex b o e),I.base.free b o (I.ok.bs b o e).1 (I.ok.bs b o e).2 (I.ok.noex b o e)⟩
theorem Inv.bk(I:Inv X pins σ H s):∀b o,X.base.get? b=some o->s.heap.get? b=some o:=λb o e=>(I.bs b o e).1
theorem Inv.mod(I:Inv X pins σ H s):Mod X.K X.mg X.base:=I.ok.mod
theorem Inv.kIn(I:Inv X pins σ H s):X.K.In s.heap:=I.ok.mod.kin.keeps I.bk
theorem Inv.fr(I:Inv X pins σ H s):∃m,Fr X.base X.env.locals s.heap m :=
 let⟨m,hn,_⟩:=I.loc
 ⟨m,hn,I.bk,YQ I.ok.bsz I.ok.above⟩
theorem Inv.lt(I:Inv X pins σ H s):X.env.locals<s.heap.objs.size:=let⟨_,hn,_⟩:=I.loc;hn.lt
theorem Inv.sz(I:Inv X pins σ H s):X.s₀.heap.objs.size<=s.heap.objs.size:=YQ I.ok.above (YX I.lt)
theorem Inv.nofs(I:Inv X pins σ H s){a:Addr}(h:s.heap.objs.size<=a):a∉X.fs:=λhb=>by
 obtain⟨_,o,ho,_⟩:=I.ok.funs.mem hb;exact Yg (Xz (YV ho) (YQ I.sz h)) (YY _)
theorem Inv.cne(I:Inv X pins σ H s):∀x c,X.env.cells.lookup x=some c->c≠X.env.locals:=λx c e z=>by
 obtain⟨v,o,ho,hd⟩:=I.cell x c e;obtain⟨m,⟨o',es,ep,ho',hd',_⟩,_⟩:=I.loc;rw[z,ho']at ho;cases ho;rw[hd']at hd;cases hd
theorem Inv.funs(I:Inv X pins σ H s):s.heap.FunFrames X.base X.outer:=by
 have all:∀(l:List Env),(∀b∈frs l,b∈X.fs)->X.s₀.heap.FunFrames X.base l->s.heap.FunFrames X.base l:=by
  intro l;induction l with
  |nil=>intro _ _;trivial
  |cons env r ih =>
   intro hs hl;obtain⟨hk,⟨L,o,hf,hn,ho,hd⟩,hr⟩:=hl;have hL:L∈X.fs:=hs L (by unfold frs;rw[List.filterMap_cons,hf];exact Zd);obtain⟨sl,e⟩:=I.base.slot L o ho (I.ok.frf L hL) hL λz=>I.ok.exfs L z hL;exact(xPP hk (aO L _ hf hn e hd) (ih (λb hb=>hs b (by unfold frs;rw[List.filterMap_cons,hf];exact Zw _ hb)) hr))
 exact all X.outer (λ_ hb=>hb) I.ok.funs
theorem Inv.stack(I:Inv X pins σ H s):s.heap.FunFrames X.base X.stack:=by
 rcases I.ok.stk with e | ⟨e,hf⟩
 ·rw[e];exact I.funs
 ·rw[e];obtain⟨m,hn,_⟩:=I.loc;refine .cons (by rw[I.ok.kind];decide) hf hn ?_ I.funs;exact Heap.get?_none_of_le (YQ I.ok.bsz I.ok.above)
theorem Inv.stkSub(I:Inv X pins σ H s):∀b∈frs X.stack,b∈X.env.locals::X.fs:=λb hb=>by
 rcases I.ok.stk with e | ⟨e,hf⟩
 ·rw[e]at hb;exact Zw _ hb
 ·rw[e]at hb;unfold frs at hb;rw[List.filterMap_cons,hf]at hb;exact hb
theorem Inv.stkFree(I:Inv X pins σ H s):∀b∈frs X.stack,H b=none:=λb hb=>by
 rcases Zn.mp (I.stkSub b hb) with e | hb
 ·rw[e];exact I.free
 ·obtain⟨_,o,ho,_⟩:=I.ok.funs.mem hb;exact I.base.free b o ho (I.ok.frf b hb) λz=>I.ok.exfs b z hb
theorem Inv.step{g':Array GenState}{t':Nat}{d':Drawn}{ch:List Addr}(I:Inv X pins σ H s)
  (hch:∀b∈ch,(b∈X.ex\/X.s₀.heap.objs.size<=b)/\b≠X.env.locals/\(∀x c,X.env.cells.lookup x=some c->c≠b)/\∀p∈X.pn++pins,p.1≠b)
  (keep:∀b o,b≠X.env.locals->b∉X.fs->b∉ch->s.heap.get? b=some o->H b=none->h'.get? b=some o)
  (slot:∀b o,b≠X.env.locals->b∈X.fs->b∉ch->s.heap.get? b=some o->H b=none->∃sl,h'.get? b=some { o with slots:=sl }) (free:∀b o,b∉ch->s.heap.get? b=some o->H b=none->H' b=none)
  (there:∀b o,b∉ch->s.heap.get? b=some o->∃o',h'.get? b=some o')
  (tups:∀b xs,H b=some (.tup xs)->H' b=some (.tup xs)) (frzs:∀b o u,H b=some (.frz o u)->H' b=some (.frz o u)) (tbls:∀b ps,H b=some (.tbl ps)->∃more,H' b=some (.tbl (ps++more)))
  (ns:∀m,s.heap.Ns X.env.locals m->h'.Ns X.env.locals m) (hok:HOk X.prog X.w H' h') (hg:AllBare g') :
  Inv X pins σ H' { s with heap:=h',gens:=g',drawn:=d',toks:=t' }:=by
 have neL:∀b o,X.s₀.heap.get? b=some o->b≠X.env.locals:=λb o e=>ZA (Xz (YV e) I.ok.above);have neC:∀b o,X.s₀.heap.get? b=some o->b∉X.ex->b∉ch:=λb o e hx hb=>by
  rcases(hch b hb).1 with z | z
  ·exact hx z
  ·exact Yg (Xz (YV e) z) (YY _)
 have cellK:∀x c,X.env.cells.lookup x=some c->∀v,s.heap.IsCell c v->h'.IsCell c v:=λx c e v ⟨o,ho,hd⟩=>by
  have nch:c∉ch:=λz=>(hch c z).2.2.1 x c e rfl;by_cases hc:c∈X.fs
  ·obtain⟨sl,q⟩:=slot c o (I.cne x c e) hc nch ho (I.freeC x c e);exact(xWP _ q hd)
  ·exact(xWP o (keep c o (I.cne x c e) hc nch ho (I.freeC x c e)) hd)
 refine⟨I.ok,I.os,hg,⟨λb o e n hb hx=>?_,λb o e n hb hx=>?_,λb o e n hx=>?_,λb o e hx=>?_,λb xs e=>tups b xs (I.base.tups b xs e),λb o xs e=>frzs b o xs (I.base.frzs b o xs e),λb ps e=>?_⟩,?_,λx c e=>?_,?_,λx c e=>?_,λp hp=>?_,hok,I.len⟩
 ·exact keep b o (neL b o e) hb (neC b o e hx) (I.base.keep b o e n hb hx) (I.base.free b o e n hx)
 ·obtain⟨sl,e1⟩:=I.base.slot b o e n hb hx;obtain⟨sl',e2⟩:=slot b _ (neL b o e) hb (neC b o e hx) e1 (I.base.free b o e n hx);exact⟨sl',e2⟩
 ·obtain⟨o',e1⟩:=I.base.there b o e hx;exact free b o' (neC b o e hx) e1 (I.base.free b o e n hx)
 ·obtain⟨o',e1⟩:=I.base.there b o e hx;exact there b o' (neC b o e hx) e1
 ·obtain⟨m1,e1⟩:=I.base.tbls b ps e;obtain⟨m2,e2⟩:=tbls b _ e1;exact⟨m1++m2,by rw[e2,Array.append_assoc]⟩
 ·obtain⟨m,hn,hl⟩:=I.loc;refine(xWP m (ns m hn) (λi x v e1 e2 e3=>?_));obtain⟨u,r,l⟩:=hl i x v e1 e2 e3;refine(xWP u r ?_);rcases l with l | ⟨k,c,e,z⟩
  ·exact .inl l
  ·exact .inr (fN k c e (cellK x c e _ z))
 ·obtain⟨v,z⟩:=I.cell x c e;exact⟨v,cellK x c e v z⟩
 ·obtain⟨m,⟨o,_,_,ho,_⟩,_⟩:=I.loc;exact free _ o (λz=>(hch _ z).2.1 rfl) ho I.free
 ·obtain⟨v,o,ho,hd⟩:=I.cell x c e;exact free c o (λz=>(hch c z).2.2.1 x c e rfl) ho (I.freeC x c e)
 ·obtain⟨e,n,ne,nf,d⟩:=I.pin p hp;have nch:p.1∉ch:=λz=>(hch p.1 z).2.2.2 p hp rfl;exact(bK (keep p.1 p.2 ne nf nch e n) (free p.1 p.2 nch e n) ne nf d)
theorem Inv.un{t':Nat}(I:Inv X pins σ H s)(u:Un X.fs [] H H' s.heap h')(hok:HOk X.prog X.w H' h'):Inv X pins σ H' { s with heap:=h',toks:=t' }:=by
 obtain⟨m,⟨o,es,ep,ho,r⟩,_⟩:=id I.loc;obtain⟨sl,hL⟩:=u.any ho I.free (!5);exact I.step (g':=s.gens) (d':=s.drawn) (ch:=[]) (λ_ z=>nomatch z) (λb o _ hb _ e n=>u.keep b o e n hb (!5)) (λb o _ hb _ e n=>u.slot b o e n hb (!5)) (λb o _ e n=>u.free b o e n (!5)) (λb o _ e=>u.there b o e (!5)) u.tups u.frzs u.tbls (λm' hm=>by
  obtain⟨o',es',ep',ho',r'⟩:=hm;rw[ho]at ho';cases ho';exact(jA _ es' ep' hL r')) hok I.bare
theorem Inv.call{g':Array GenState}{t':Nat}{d':Drawn}{ch:List Addr}(I:Inv X pins σ H s)(u:Un (frs X.stack) ch H H' s.heap h')(hok:HOk X.prog X.w H' h')(hg:AllBare g')
  (hch:∀b∈ch,(b∈X.ex\/X.s₀.heap.objs.size<=b)/\b≠X.env.locals/\(∀x c,X.env.cells.lookup x=some c->c≠b)/\∀p∈X.pn++pins,p.1≠b) :
  Inv X pins σ H' { s with heap:=h',gens:=g',drawn:=d',toks:=t' }:=by
 obtain⟨m,⟨o,es,ep,ho,r⟩,_⟩:=id I.loc;obtain⟨sl,hL⟩:=u.any ho I.free λz=>(hch _ z).2.1 rfl;exact I.step (ch:=ch) hch (λb o hL hb hc e n=>u.keep b o e n (λz=>(Zn.mp (I.stkSub b z)).elim hL hb) hc) (λb o _ _ hc e n=>u.any e n hc) (λb o hc e n=>u.free b o e n hc) (λb o hc e=>u.there b o e hc) u.tups u.frzs u.tbls (λm' hm=>by
  obtain⟨o',es',ep',ho',r'⟩:=hm;rw[ho]at ho';cases ho';exact(jA _ es' ep' hL r')) hok hg
theorem Inv.turned{t':Nat}{it:Addr}(I:Inv X pins σ H s)(k:∀b o,b≠it->s.heap.get? b=some o->h'.get? b=some o)(hn:H it=none)(hL:it≠X.env.locals)
  (h1:it∈X.ex\/X.s₀.heap.objs.size<=it) (h2:∀x c,X.env.cells.lookup x=some c->c≠it) (h3:∀p∈X.pn++pins,p.1≠it):Inv X pins σ H { s with heap:=h',toks:=t' }:=by
 have nit:∀b u,H b=some u->b≠it:=λb u e z=>by rw[z,hn]at e;cases e
 refine I.step (g':=s.gens) (d':=s.drawn) (ch:=[it]) (λb hb=>?_) (λb o _ _ hc e _=>k b o (λz=>hc (by simp[z])) e) (λb o _ _ hc e _=>⟨o.slots,k b o (λz=>hc (by simp[z])) e⟩) (λ_ _ _ _ n=>n)
  (λb o hc e=>⟨o,k b o (λz=>hc (by simp[z])) e⟩) (λ_ _ e=>e) (λ_ _ _ e=>e) (λb ps e=>⟨#[],by rw[e];simp⟩) (λm hm=>?_) (λb u e=>?_) I.bare
 ·have e:b=it:=by simpa using hb
  subst e;exact(bN h1 hL h2 h3)
 ·obtain⟨o,es,ep,ho,r⟩:=hm;exact(jA o es ep (k _ o (Yh hL) ho) r)
 ·refine(I.hok b u e).stay (λc v hc q=>k c v ?_ q) (λ_ q=>q) λ_ _ q=>q;rcases hc with z | z
  ·rw[z];exact nit b u e
  ·exact nit c _ z
theorem Inv.tok(I:Inv X pins σ H s)(t:Nat):Inv X pins σ H { s with toks:=t }:=I.un (h':=s.heap) (t':=t) Un.refl I.hok
theorem Inv.kept{t':Nat}(I:Inv X pins σ H s)(k:∀b u,s.heap.get? b=some u->h'.get? b=some u):Inv X pins σ H { s with heap:=h',toks:=t' }:=I.un (Un.kept k) (I.hok.kept k)
theorem Inv.laid{a:Addr}{o:HO}{t':Nat}(I:Inv X pins σ H s)(k:∀b u,s.heap.get? b=some u->h'.get? b=some u)(hp:s.heap.objs.size<=a)(new:cD X.prog X.w (upd H a o) h' a o) :
  Inv X pins σ (upd H a o) { s with heap:=h',toks:=t' }:=I.un (Un.laid k hp (I.hok.fresh hp)) (I.hok.laid k hp new)
theorem Inv.write{x e:Addr}{o:HO}{t':Nat}(I:Inv X pins σ H s)(mu:Mut (H x))(he:e=x\/H e=some (.own x))(k:∀b u,b≠e->s.heap.get? b=some u->h'.get? b=some u)(heo:∃u,h'.get? e=some u)
  (new:cD X.prog X.w (upd H x o) h' x o):Inv X pins σ (upd H x o) { s with heap:=h',toks:=t' }:=I.un (Un.write mu he k heo) (I.hok.write mu he k heo new)
theorem Inv.weak{σ':List (Option V)}(I:Inv X pins σ H s)(hl:σ'.length=σ.length)(w:∀(i:Nat) v,σ'[i]?=some (some v)->σ[i]?=some (some v)):Inv X pins σ' H s :=
 ⟨I.ok,I.os,I.bare,I.base,let⟨m,hn,hl'⟩:=I.loc;(xWP m hn (λi x v e1 e2 e3=>hl' i x v e1 (w i v e2) e3)),I.cell,I.free,I.freeC,I.pin,I.hok,hl.trans I.len⟩
theorem Inv.pins_of{pins':List (!16)}(I:Inv X pins σ H s)(h:∀p∈pins',s.heap.get? p.1=some p.2/\H p.1=none/\p.1≠X.env.locals/\p.1∉X.fs/\∀v,p.2.data≠.cell v):Inv X pins' σ H s :=
 ⟨I.ok,I.os,I.bare,I.base,I.loc,I.cell,I.free,I.freeC,λp hp=>(Zf.mp hp).elim (λz=>I.pin p (ZP _ z)) (h p),I.hok,I.len⟩
theorem xZ{N:List Str}(hN:N.Nodup){i j:Nat}{x:Str}(a:N[i]?=some x)(b:N[j]?=some x):i=j:=by
 obtain⟨h1,e1⟩:=Zj.mp a;obtain⟨h2,e2⟩:=Zj.mp b;exact(List.getElem_inj hN).mp (e1.trans e2.symm)
theorem DW{M:Model}{A:Around}{E:Value->Shared->Prop}{i:Nat}{x:Str}{v:V}{u:Value}{Q:Unit->Shared->Prop}(I:Inv X pins σ H s)(hN:X.N.Nodup)(hi:X.N[i]?=some x)(hx:Loc X.env.scope x)(r:RelV v u)
  (h:∀s',Inv X pins (σ.set i (some v)) H s'->(∃a,Heap.SameBut a s.heap s'.heap/\(a=X.env.locals\/X.env.cells.lookup x=some a))->Q () s') (hf:X.fn x=true\/X.env.scope.names.lookup x=some .local:=by first | exact .inl rfl | exact .inr rfl | assumption):wpAny M A (storeName X.env x u) Q E s:=by
 obtain⟨m,hn,hl⟩:=id I.loc;have hcls:(X.env.scope.kind==.class||(X.env.scope.kind==.module&&X.env.locals != X.env.globals))=false:=by rw[I.ok.kind];rfl
 have hiσ:i<σ.length:=by rw[I.len];exact(Zj.mp hi).1
 have cne:=I.cne;have tracked:∀{a:Addr}{h':Heap},(∃o,s.heap.get? a=some o/\H a=none)->Heap.SameBut a s.heap h'->HOk X.prog X.w H h':=λ{a h'} ha hs b ob e=>by
  obtain⟨_,_,hfree⟩:=ha;refine(I.hok b ob e).stay (λc w' hc q=>(hs.2 c ?_).trans q) (λ_ q=>q) λ_ _ q=>q;rintro rfl;rcases hc with rfl | hc
  ·rw[hfree]at e;cases e
  ·rw[hfree]at hc;cases hc
 rcases hx with hk | hk
 ·refine wpAny_storeName_local hk hn (λh' hn' hs=>?_) hcls;obtain⟨oL,_,_,hoL,_⟩:=id hn;refine h _ ⟨I.ok,I.os,I.bare,⟨λb o e n hb hx=>?_,λb o e n hb hx=>?_,I.base.free,λb o e hx=>?_,I.base.tups,I.base.frzs,I.base.tbls⟩,(xWP _ hn' (λj y v' e1 e2 e3=>?_)),λy c e=>?_,I.free,I.freeC,λp hp=>?_,tracked (xWP oL hoL I.free) hs,by simpa using I.len⟩ (xWP _ hs (.inl rfl))
  ·exact(hs.2 b (ZA (Xz (YV e) I.ok.above))).trans (I.base.keep b o e n hb hx)
  ·obtain⟨sl,e1⟩:=I.base.slot b o e n hb hx;exact⟨sl,(hs.2 b (ZA (Xz (YV e) I.ok.above))).trans e1⟩
  ·obtain⟨o',e1⟩:=I.base.there b o e hx;exact⟨o',(hs.2 b (ZA (Xz (YV e) I.ok.above))).trans e1⟩
  ·by_cases hj:j=i
   ·subst hj;rw[hi]at e1;cases e1;rw[ZL hiσ]at e2;cases e2;exact(xWP u r (.inl ⟨hk,by simp⟩))
   ·rw[ZK (Yh hj)]at e2;obtain⟨u',r',q⟩:=hl j y v' e1 e2 e3;refine(xWP u' r' ?_);rcases q with⟨k,e⟩ | ⟨k,c,e,z⟩
    ·refine .inl ⟨k,?_⟩;have:y≠x:=λe=>hj (xZ hN e1 (e▸hi));simp[this,e]
    ·exact .inr (fN k c e (z.sameBut hs (cne y c e)))
  ·obtain⟨w',z⟩:=I.cell y c e;exact⟨w',z.sameBut hs (cne y c e)⟩
  ·obtain⟨e,n,ne,nf,d⟩:=I.pin p hp;exact(bK ((hs.2 p.1 ne).trans e) n ne nf d)
 ·have hfn:X.fn x=true:=by
   rcases hf with z | z
   ·exact z
   ·rw[z]at hk;cases hk
  obtain⟨c,hc⟩:=I.ok.has x (.inl hk);obtain⟨w',z⟩:=I.cell x c hc;refine wpAny_storeName_cell I.ok.kind hk hc z (λh' hc' hs=>?_);obtain⟨oc,hoc,hocd⟩:=id z;refine h { s with heap:=h' } ⟨I.ok,I.os,I.bare,⟨λb o e n hb hx=>?_,λb o e n hb hx=>?_,I.base.free,λb o e hx=>?_,I.base.tups,I.base.frzs,I.base.tbls⟩,(xWP m (hn.sameBut hs (Yh (cne x c hc))) (λj y v' e1 e2 e3=>?_)),λy c' e=>?_,I.free,I.freeC,λp hp=>?_,tracked (xWP oc hoc (I.freeC x c hc)) hs,by simpa using I.len⟩ (xWP c hs (.inr hc))
  ·exact(hs.2 b (ZA (Xz (YV e) (I.ok.cab x c hfn hc)))).trans (I.base.keep b o e n hb hx)
  ·obtain⟨sl,e1⟩:=I.base.slot b o e n hb hx;exact⟨sl,(hs.2 b (ZA (Xz (YV e) (I.ok.cab x c hfn hc)))).trans e1⟩
  ·obtain⟨o',e1⟩:=I.base.there b o e hx;exact⟨o',(hs.2 b (ZA (Xz (YV e) (I.ok.cab x c hfn hc)))).trans e1⟩
  ·by_cases hj:j=i
   ·subst hj;rw[hi]at e1;cases e1;rw[ZL hiσ]at e2;cases e2;exact(xWP u r (.inr (fN (.inl hk) c hc hc')))
   ·rw[ZK (Yh hj)]at e2;obtain⟨u',r',q⟩:=hl j y v' e1 e2 e3;refine(xWP u' r' ?_);rcases q with q | ⟨k,c',e,z'⟩
    ·exact .inl q
    ·refine .inr (fN k c' e (z'.sameBut hs ?_));rintro rfl;exact hj (xZ hN e1 (I.ok.inj _ _ _ e hc▸hi))
  ·by_cases hcc:c'=c
   ·subst hcc;exact⟨_,hc'⟩
   ·obtain⟨w2,z2⟩:=I.cell y c' e;exact⟨w2,z2.sameBut hs hcc⟩
  ·obtain⟨e,n,ne,nf,d⟩:=I.pin p hp;refine(bK ((hs.2 p.1 ?_).trans e) n ne nf d);intro q;rw[q,hoc]at e;have q':oc=p.2:=Option.some.inj e;exact d w' (by rw[<-q'];exact hocd)
theorem jF{M:Model}{A:Around}{E:Value->Shared->Prop}{i:Nat}{x:Str}{v:V}{u:Value}{Q:Unit->Shared->Prop}(I:Inv X pins σ H s)(hN:X.N.Nodup)(hi:X.N[i]?=some x)(hx:Loc X.env.scope x)(r:RelV v u)
  (h:∀s',Inv X pins (σ.set i (some v)) H s'->Q () s') (hf:X.fn x=true\/X.env.scope.names.lookup x=some .local:=by first | exact .inl rfl | exact .inr rfl | assumption):wpAny M A (storeName X.env x u) Q E s :=
 DW I hN hi hx r (λs' I' _=>h s' I') hf
theorem Inv.call'{s':Shared}{ch:List Addr}(I:Inv X pins σ H s)(ho:s'.os=s.os)(u:Un (frs X.stack) ch H H' s.heap s'.heap)(hok:HOk X.prog X.w H' s'.heap)(hg:AllBare s'.gens)
  (hch:∀b∈ch,(b∈X.ex\/X.s₀.heap.objs.size<=b)/\b≠X.env.locals/\(∀x c,X.env.cells.lookup x=some c->c≠b)/\∀p∈X.pn++pins,p.1≠b):Inv X pins σ H' s':=by
 obtain⟨h',g',d',t',o'⟩:=s';have e:o'=s.os:=ho;subst e;exact I.call (g':=g') (t':=t') (d':=d') u hok hg hch
end
abbrev XK:=Value->Option Addr->Hp->Prop
abbrev St:=List (Option V)
abbrev VK:=V->Hp->Prop
abbrev TE:=St->Hp->VK->Prop
abbrev TT:=St->Hp->(Bool->Hp->Prop)->Prop
abbrev TA:=St->Hp->(List V->Hp->Prop)->Prop
structure Ends where
 nx:St->Hp->Prop
 rt:VK
 bk:St->Hp->Prop:=λ_ _=>False
 ct:St->Hp->Prop:=λ_ _=>False
abbrev TS:=Ends->St->Hp->Prop
def V.gi(x:V)(k:Int->Prop):Prop:=match x with | .int i=>k i | _=>False
def V.gr(x:V)(k:Addr->Prop):Prop:=match x with | .ref i=>k i | _=>False
def V.gb(x:V)(k:Bool->Prop):Prop:=match x with | .bl i=>k i | _=>False
def V.gs(x:V)(k:Str->Prop):Prop:=match x with | .str i=>k i | _=>False
theorem dC{x:V}{k:Int->Prop}(h:x.gi k):∃i,x=.int i/\k i:=by cases x<;>first | exact(xWP _ rfl h) | exact h.elim
theorem bV{x:V}{k:Addr->Prop}(h:x.gr k):∃i,x=.ref i/\k i:=by cases x<;>first | exact(xWP _ rfl h) | exact h.elim
theorem i5{x:V}{k:Bool->Prop}(h:x.gb k):∃i,x=.bl i/\k i:=by cases x<;>first | exact(xWP _ rfl h) | exact h.elim
theorem M7{x:V}{k:Str->Prop}(h:x.gs k):∃i,x=.str i/\k i:=by cases x<;>first | exact(xWP _ rfl h) | exact h.elim
def LC(xs:List V)(k:V->List V->Prop):Prop:=match xs with | v::r=>k v r | []=>False
def L0(xs:List V)(k:Prop):Prop:=match xs with | []=>k | _::_=>False
theorem J2{xs:List V}{k:V->List V->Prop}(h:LC xs k):∃v r,xs=v::r/\k v r:=by cases xs<;>first | exact(bM _ _ rfl h) | exact h.elim
theorem J3{xs:List V}{k:Prop}(h:L0 xs k):xs=[]/\k:=by cases xs<;>first | exact⟨rfl,h⟩ | exact h.elim
theorem N0{xs:List V}{k:V->Prop}(h:LC xs λv r=>L0 r (k v)):∃v,xs=[v]/\k v:=by
 obtain⟨v,r,rfl,h⟩:=J2 h;obtain⟨rfl,h⟩:=J3 h;exact(xWP _ rfl h)
theorem SJ{xs:List V}{k:V->V->Prop}(h:LC xs λv r=>LC r λw r=>L0 r (k v w)):∃v w,xs=[v,w]/\k v w:=by
 obtain⟨v,r,rfl,h⟩:=J2 h;obtain⟨w,rfl,h⟩:=N0 h;exact(bM _ _ rfl h)
def St.at:St->Nat->(V->Prop)->Prop
 |[],_,_=>False
 |o::_,0,k=>o.elim False k
 |_::l,i+1,k=>St.at l i k
theorem tI:∀{σ:St}{i:Nat}{k:V->Prop},St.at σ i k->∃v,σ[i]?=some (some v)/\k v
 |[],_,_,h=>h.elim
 |none::_,0,_,h=>h.elim
 |some v::_,0,_,h=>(xWP v rfl h)
 |_::l,i+1,k,h=>tI (σ:=l) h
theorem tH:∀{σ:St}{i:Nat}{k:V->Prop}{v:V},σ[i]?=some (some v)->k v->St.at σ i k
 |some v::_,0,_,_,rfl,h=>h
 |_::l,i+1,k,_,e,h=>tH (σ:=l) e h
structure If(c:Bool)(A B:Prop):Prop where
 t:c=true->A
 f:c=false->B
theorem iF{A B:Prop}(h:B):If false A B:=⟨λz=>(by cases z),λ_=>h⟩
theorem iT{A B:Prop}(h:A):If true A B:=⟨λ_=>h,λz=>(by cases z)⟩
def Sc(b:Bool)(p:Prop):Prop:=match b with | true=>p | false=>False
theorem NZ{b:Bool}{p:Prop}(h:Sc b p):b=true/\p:=by cases b<;>first | exact⟨rfl,h⟩ | exact h.elim
def EP(X:Cx)(pins:List (!16))(σ:St)(Q:VK)(u:Value)(s':Shared):Prop:=∃v H',Inv X pins σ H' s'/\RelV v u/\Q v H'
def TP(X:Cx)(pins:List (!16))(σ:St)(Q:Bool->Hp->Prop)(b:Bool)(s':Shared):Prop:=∃H',Inv X pins σ H' s'/\Q b H'
def AP(X:Cx)(pins:List (!16))(σ:St)(Q:List V->Hp->Prop)(us:List Value)(s':Shared):Prop:=∃vs H',Inv X pins σ H' s'/\bD vs us/\Q vs H'
def SP(X:Cx)(pins:List (!16))(D:Ends)(f:Flow)(s':Shared):Prop :=
 match f with
 |.next=>∃σ' H',Inv X pins σ' H' s'/\D.nx σ' H'
 |.brk=>∃σ' H',Inv X pins σ' H' s'/\D.bk σ' H'
 |.cont=>∃σ' H',Inv X pins σ' H' s'/\D.ct σ' H'
 |.ret u=>∃v σ' H',Inv X pins σ' H' s'/\RelV v u/\D.rt v H'
def PE(X:Cx)(e:Expr)(t:TE):Prop :=
 ∀(pins:List (!16)) (s:Shared) (σ:St) (H:Hp) (Q:VK),Inv X pins σ H s->t σ H Q->wpAny (!3) X.A (eval e X.env) (EP X pins σ Q) X.xe s
def PT(X:Cx)(e:Expr)(t:TT):Prop :=
 ∀(pins:List (!16)) (s:Shared) (σ:St) (H:Hp) (Q:Bool->Hp->Prop),Inv X pins σ H s->t σ H Q->wpAny (!3) X.A (isTrue e X.env (eval e X.env)) (TP X pins σ Q) X.xe s
def PW(X:Cx)(e:Expr)(t:TT):Prop :=
 ∀(whole:Sem Value) (pins:List (!16)) (s:Shared) (σ:St) (H:Hp) (Q:Bool->Hp->Prop),Inv X pins σ H s->t σ H Q->wpAny (!3) X.A (isTrue e X.env whole) (TP X pins σ Q) X.xe s
theorem u7{X:Cx}{e:Expr}{t:TT}(h:PW X e t):PT X e t:=h _
def PA(X:Cx)(es:List Expr)(t:TA):Prop :=
 ∀(pos:Pos) (pins:List (!16)) (s:Shared) (σ:St) (H:Hp) (Q:List V->Hp->Prop),Inv X pins σ H s->t σ H Q->wpAny (!3) X.A (spliced (backTo pos (starEach es X.env))) (AP X pins σ Q) X.xe s
def PS(X:Cx)(st:Stmt)(t:TS):Prop :=
 ∀(pins:List (!16)) (s:Shared) (σ:St) (H:Hp) (D:Ends),Inv X pins σ H s->t D σ H->wpAny (!3) X.A (exec st X.env) (SP X pins D) X.xe s
def PSs(X:Cx)(st:List Stmt)(t:TS):Prop :=
 ∀(pins:List (!16)) (s:Shared) (σ:St) (H:Hp) (D:Ends),Inv X pins σ H s->t D σ H->wpAny (!3) X.A (execs st X.env) (SP X pins D) X.xe s
theorem thn{α:Type}{t:Sem α}{Q Q':α->Shared->Prop}{M:Model}{A:Around}{E:Value->Shared->Prop}{s:Shared}(h:wpAny M A t Q E s)(hQ:∀a s,Q a s->Q' a s):wpAny M A t Q' E s:=ZX h hQ λ_ _ x=>x
theorem cW{X:Cx}{pins:List (!16)}{σ:St}{Q:VK}{t:Sem Value}{Q':Value->Shared->Prop}{M:Model}{A:Around}{E:Value->Shared->Prop}{s:Shared}(h:wpAny M A t (EP X pins σ Q) E s)(k:∀u s' v H',Inv X pins σ H' s'->RelV v u->Q v H'->Q' u s'):wpAny M A t Q' E s:=thn h λ_ _ ⟨_,_,a,b,c⟩=>k _ _ _ _ a b c
theorem FR{X:Cx}{pins:List (!16)}{σ:St}{Q:Bool->Hp->Prop}{t:Sem Bool}{Q':Bool->Shared->Prop}{M:Model}{A:Around}{E:Value->Shared->Prop}{s:Shared}(h:wpAny M A t (TP X pins σ Q) E s)(k:∀b s' H',Inv X pins σ H' s'->Q b H'->Q' b s'):wpAny M A t Q' E s:=thn h λ_ _ ⟨_,a,b⟩=>k _ _ _ a b
theorem pP{X:Cx}{pins:List (!16)}{σ:St}{Q:List V->Hp->Prop}{t:Sem (List Value)}{Q':List Value->Shared->Prop}{M:Model}{A:Around}{E:Value->Shared->Prop}{s:Shared}(h:wpAny M A t (AP X pins σ Q) E s)(k:∀us s' vs H',Inv X pins σ H' s'->bD vs us->Q vs H'->Q' us s'):wpAny M A t Q' E s:=thn h λ_ _ ⟨_,_,a,b,c⟩=>k _ _ _ _ a b c
section
variable{X:Cx}
def KI(i:Nat):TE:=λσ H Q=>St.at σ i λv=>Q v H
def tC(v:V):TE:=λ_ H Q=>Q v H
theorem OY{i:Nat}{x:Str}{pos:Pos}(hN:X.N[i]?=some x)(hv:Vis X.env.scope x)(hd:(!48)=false:=by decide)(hcd:(x==("__classdict__" : Str))=false:=by decide):PE X (.Name x pos) (KI i):=by
 sleep 2;obtain⟨v,e,z1⟩:=tI h;have h:=z1;obtain⟨m,hn,hl⟩:=I.loc;obtain⟨u,r,l⟩:=hl i x v hN e hv;have fin:EP X pins σ Q u s:=(aG v H I r h)
 rcases l with⟨hk,hm⟩ | ⟨hk,c,hc,hcell⟩
 ·exact wpAny_Name (wpAny_loadName_local I.ok.kind hk hn hm fin) hd
 ·rcases hk with hk | hk
  ·exact wpAny_Name (wpAny_loadName_cell I.ok.kind hk hc hcell fin) hd
  ·exact wpAny_Name (wpAny_loadName_free I.ok.kind hk hc hcell fin hcd) hd
theorem b0{i j pos}:PE X (.Constant (.int i) j pos) (tC (.int i)):=λ_ _ _ H _ I h=>wpAny_Constant_int (aG (.int i) H (I.tok _) ⟨_,rfl⟩ h)
theorem NQ{b j pos}:PE X (.Constant (.bool b) j pos) (tC (.bl b)):=λ_ _ _ H _ I h=>Constant_bool (aG (.bl b) H I rfl h)
theorem AD{j pos}:PE X (.Constant .none j pos) (tC .non):=λ_ _ _ H _ I h=>Constant_none (aG .non H I rfl h)
theorem O0{x j pos}:PE X (.Constant (.str x) j pos) (tC (.str x)):=λ_ _ _ H _ I h=>Calls.Constant_str (aG (.str x) H (I.tok _) ⟨_,rfl⟩ h)
def Gl(X:Cx)(x:Str):Prop:=X.env.kindOf x=some .globalImplicit
theorem v5{E:Value->Shared->Prop}{pins:List (!16)}{s:Shared}{σ:St}{H:Hp}{x:Str}{u:Value}{pos:Pos}{Q:Value->Shared->Prop}(I:Inv X pins σ H s)(hg:Gl X x)(hm:X.mg x=some u)(h:Q u s)
  (hd:(!48)=false:=by decide):wpAny (!3) X.A (eval (.Name x pos) X.env) Q E s :=
 Calls.Name_function_global I.ok.kind hg (Calls.loadGlobal_global (by rw[I.ok.glob];exact I.mod.glob.keeps I.bk) hm h) hd
theorem kQ{E:Value->Shared->Prop}{pins:List (!16)}{s:Shared}{σ:St}{H:Hp}{x:Str}{u:Value}{pos:Pos}{Q:Value->Shared->Prop}(I:Inv X pins σ H s)(hg:Gl X x)(hm:X.mg x=none)(hv:bootBuiltins x=some u)(h:Q u s)
  (hn:x≠"__name__":=by decide) (hd:(!48)=false:=by decide):wpAny (!3) X.A (eval (.Name x pos) X.env) Q E s:=by
 obtain⟨mb,h1,h2⟩:=I.mod.blt;exact Calls.Name_function_global I.ok.kind hg (Calls.loadGlobal_builtin (by rw[I.ok.glob];exact I.mod.glob.keeps I.bk) hm (by rw[I.ok.blt];exact h1.keeps I.bk) ((h2 x hn).trans hv) h) hd
theorem LN{x:Str}{v:V}{u:Value}{pos:Pos}(hg:Gl X x)(hm:X.mg x=some u)(r:RelV v u)(hd:(!48)=false:=by decide):PE X (.Name x pos) (tC v) :=
 λ_ _ _ H _ I h=>v5 I hg hm (aG v H I r h) hd
theorem LQ{x:Str}{v:V}{u:Value}{pos:Pos}(hg:Gl X x)(hm:X.mg x=none)(hv:bootBuiltins x=some u)(r:RelV v u)(hn:x≠"__name__":=by decide)(hd:(!48)=false:=by decide):PE X (.Name x pos) (tC v) :=
 λ_ _ _ H _ I h=>kQ I hg hm hv (aG v H I r h) hn hd
variable{a b:Expr}{ta tb:TE}{pos:Pos}
def PC(X:Cx)(op:CmpOp)(a b:Expr)(t:TE):Prop :=
 ∀(pins:List (!16)) (s:Shared) (σ:St) (H:Hp) (Q:VK),Inv X pins σ H s->t σ H Q ->
  wpAny (!3) X.A (eval a X.env) (λv s₁=>wpAny (!3) X.A (eval b X.env) (λu s₂=>wpAny (!3) X.A (compareOp op v u) (EP X pins σ Q) X.xe s₂) X.xe s₁) X.xe s
def tB(t:TE):TT:=λσ H Q=>t σ H λx H1=>x.gb λc=>Q c H1
theorem O2{op:CmpOp}{t:TE}(h:PC X op a b t)(h1:behindInMarks op b=false:=by first | exact nobehind _ (!1) (!1) | rfl):PE X (.Compare a [op] [b] pos) t:=λpins s σ H Q I hw=>wpAny_Compare1 (h pins s σ H Q I hw) h1
theorem OQ{op:CmpOp}{t:TE}(h:PC X op a b t)(h1:behindInMarks op b=false:=by first | exact nobehind _ (!1) (!1) | rfl):PT X (.Compare a [op] [b] pos) (tB t):=by
 intro pins s σ H Q I hw;refine wpAny_isTrue_Compare1 (thn (h pins s σ H _ I hw) λv s1 h1=>thn h1 λu s2 h2=>cW h2 λc s3 x H1 I1 r1 q1=>?_) h1;obtain⟨d,rfl,z1⟩:=i5 q1;have q:=z1;cases r1;exact wpAny_truthy_bool (xWP H1 I1 q)
variable{tA tB':TT}{rest:List Expr}
def S6(t u:TT):TT:=λσ H Q=>t σ H λc H1=>If c (u σ H1 Q) (Q false H1)
def tOr(t u:TT):TT:=λσ H Q=>t σ H λc H1=>If c (Q true H1) (u σ H1 Q)
def KJ(t:TT):TT:=λσ H Q=>t σ H λc H1=>Q (!c) H1
theorem qC(ha:PT X a tA):PW X (.BoolOp .And [a] pos) tA:=by
 intro wh pins s σ H Q I h;refine isTrue_and (thn (ha pins s σ H Q I h) λc s1 e=>?_);cases c with
 |true=>exact isTrue_and_nil e
 |false=>exact e
theorem GW(ha:PT X a tA):PW X (.BoolOp .Or [a] pos) tA:=by
 intro wh pins s σ H Q I h;refine isTrue_or (thn (ha pins s σ H Q I h) λc s1 e=>?_);cases c with
 |false=>exact isTrue_or_nil e
 |true=>exact e
theorem rX(ha:PT X a tA)(hb:PW X (.BoolOp .And (b::rest) pos) tB'):PW X (.BoolOp .And (a::b::rest) pos) (S6 tA tB'):=by
 intro wh pins s σ H Q I h;refine isTrue_and (FR (ha pins s σ H _ I h) λc s1 H1 I1 q1=>?_);cases c with
 |true=>exact hb wh pins s1 σ H1 Q I1 (q1.t rfl)
 |false=>exact(xWP H1 I1 (q1.f rfl))
theorem GX(ha:PT X a tA)(hb:PW X (.BoolOp .Or (b::rest) pos) tB'):PW X (.BoolOp .Or (a::b::rest) pos) (tOr tA tB'):=by
 intro wh pins s σ H Q I h;refine isTrue_or (FR (ha pins s σ H _ I h) λc s1 H1 I1 q1=>?_);cases c with
 |true=>exact(xWP H1 I1 (q1.t rfl))
 |false=>exact hb wh pins s1 σ H1 Q I1 (q1.f rfl)
theorem jU(ha:PT X a tA):PT X (.UnaryOp .Not a pos) (KJ tA):=by
 sleep 2;exact isTrue_not (ha pins s σ H (λc H1=>Q (!c) H1) I h)
def QY(ta tb:TE):TE:=λσ H Q=>ta σ H λx H1=>x.gb λc=>If c (tb σ H1 Q) (Q (.bl false) H1)
def SU(ta tb:TE):TE:=λσ H Q=>ta σ H λx H1=>x.gb λc=>If c (Q (.bl true) H1) (tb σ H1 Q)
theorem vQ{op}{t:TE}(h:PE X a t):PE X (.BoolOp op [a] pos) t:=λpins s σ H Q I hw=>BoolOp_one (h pins s σ H Q I hw)
theorem AE(ha:PE X a ta)(hb:PE X (.BoolOp .And (b::rest) pos) tb):PE X (.BoolOp .And (a::b::rest) pos) (QY ta tb):=by
 sleep 2;refine BoolOp_and (cW (ha pins s σ H _ I h) λv s1 x H1 I1 r1 q1=>?_);obtain⟨c,rfl,z1⟩:=i5 q1;have q1:=z1;cases r1;refine wpAny_truthy_bool ?_;cases c with
 |true=>exact hb pins s1 σ H1 Q I1 (q1.t rfl)
 |false=>exact(aG (.bl false) H1 I1 rfl (q1.f rfl))
theorem RL(ha:PE X a ta)(hb:PE X (.BoolOp .Or (b::rest) pos) tb):PE X (.BoolOp .Or (a::b::rest) pos) (SU ta tb):=by
 sleep 2;refine BoolOp_or (cW (ha pins s σ H _ I h) λv s1 x H1 I1 r1 q1=>?_);obtain⟨c,rfl,z1⟩:=i5 q1;have q1:=z1;cases r1;refine wpAny_truthy_bool ?_;cases c with
 |false=>exact hb pins s1 σ H1 Q I1 (q1.f rfl)
 |true=>exact(aG (.bl true) H1 I1 rfl (q1.t rfl))
def tIf(t:TT)(ta tb:TE):TE:=λσ H Q=>t σ H λc H1=>If c (ta σ H1 Q) (tb σ H1 Q)
theorem kK{c:Expr}(hc:PT X c tA)(ha:PE X a ta)(hb:PE X b tb):PE X (.IfExp c a b pos) (tIf tA ta tb):=by
 sleep 2;refine wpAny_IfExp (FR (hc pins s σ H _ I h) λd s1 H1 I1 q1=>?_);cases d with
 |true=>exact ha pins s1 σ H1 Q I1 (q1.t rfl)
 |false=>exact hb pins s1 σ H1 Q I1 (q1.f rfl)
end
def SqL(H:Hp)(a:Addr)(xs:List V):Prop:=Rd H a (.lst xs)
def SqT(H:Hp)(a:Addr)(xs:List V):Prop:=Rd H a (.tup xs)
def T7:Value->Option V
 |.none=>some .non
 |.bool b=>some (.bl b)
 |.int i _=>some (.int i)
 |.str x _=>some (.str x)
 |.bytes b _=>some (.byt b)
 |.float b _=>some (.flt b)
 |.ref a=>some (.ref a)
 |.type n=>some (.ty n)
 |_=>none
theorem RelV.abs{x:V}{u:Value}(r:RelV x u):T7 u=some x:=by
 cases x with
 |non=>cases r;rfl
 |bl _=>cases r;rfl
 |int _=>obtain⟨t,rfl⟩:=r;rfl
 |str _=>obtain⟨t,rfl⟩:=r;rfl
 |byt _=>obtain⟨t,rfl⟩:=r;rfl
 |flt _=>obtain⟨t,rfl⟩:=r;rfl
 |ref _=>cases r;rfl
 |ty _=>cases r;rfl
theorem RelV.inj{x y:V}{u:Value}(r:RelV x u)(q:RelV y u):x=y:=Option.some.inj (r.abs.symm.trans q.abs)
theorem bD.inj:∀{xs ys:List V}{us:List Value},bD xs us->bD ys us->xs=ys
 |_,_,_,.nil,.nil=>rfl
 |_,_,_,.cons r t,.cons r' t'=>by rw[r.inj r',bD.inj t t']
section
variable{X:Cx}{pins:List (!16)}{σ:St}{H:Hp}{s:Shared}{a:Addr}{xs ys:List V}
theorem SqL.of(h:H a=some (.lst xs)):SqL H a xs:=.inl h
theorem SqT.of(h:H a=some (.tup xs)):SqT H a xs:=.inl h
theorem Inv.list(I:Inv X pins σ H s)(h:SqL H a xs):∃its:List Value,bD xs its/\PlainL s.heap a its.toArray/\xs.length<=ZW:=by
 obtain⟨z,its,n,r,e⟩:=Rd.ok h I.hok;exact(aM its r (aO _ n e rfl rfl rfl) z)
theorem Inv.tuple(I:Inv X pins σ H s)(h:SqT H a xs):∃its:List Value,bD xs its/\IsTup s.heap a its.toArray/\xs.length<=ZW:=by
 obtain⟨z,its,r,p⟩:=Rd.ok h I.hok;exact(aM its r p z)
theorem Inv.list_inj(I:Inv X pins σ H s)(h:SqL H a xs)(h':SqL H a ys):xs=ys:=by
 obtain⟨its,r,⟨o,n,e,_,_,d⟩,_⟩:=I.list h;obtain⟨its',r',⟨o',n',e',_,_,d'⟩,_⟩:=I.list h';rw[e]at e';cases e';rw[d]at d';injection d' with d1 _;have:its=its':=by simpa using congrArg Array.toList d1
 subst this;exact r.inj r'
theorem Inv.tuple_inj(I:Inv X pins σ H s)(h:SqT H a xs)(h':SqT H a ys):xs=ys:=by
 obtain⟨its,r,⟨o,e,_,n,d⟩,_⟩:=I.tuple h;obtain⟨its',r',⟨o',e',_,n',d'⟩,_⟩:=I.tuple h';rw[e]at e';cases e';rw[d]at d';injection d' with d1 _;have:its=its':=by simpa using congrArg Array.toList d1
 subst this;exact r.inj r'
end
abbrev Cx.wish(X:Cx)(E:Value->Shared->Prop):Cx:={ X with xe:=E }
abbrev Cx.nox(X:Cx):Cx:=X.wish λ_ _=>False
theorem Cx.Ok.wish{X:Cx}(ok:X.Ok)(E:Value->Shared->Prop):(X.wish E).Ok :=
 ⟨ok.mod,ok.kind,ok.glob,ok.blt,ok.above,ok.inj,ok.has,ok.cab,ok.hd,ok.frames,ok.stk,ok.exf,ok.bs,ok.bsz,ok.noex,ok.exfs,ok.funs,ok.frf⟩
theorem Cx.Ok.unwish{X:Cx}{E:Value->Shared->Prop}(ok:(X.wish E).Ok):X.Ok :=
 ⟨ok.mod,ok.kind,ok.glob,ok.blt,ok.above,ok.inj,ok.has,ok.cab,ok.hd,ok.frames,ok.stk,ok.exf,ok.bs,ok.bsz,ok.noex,ok.exfs,ok.funs,ok.frf⟩
section
variable{X:Cx}{pins:List (!16)}{σ:St}{H:Hp}{s:Shared}{E:Value->Shared->Prop}
theorem Inv.wish(I:Inv X pins σ H s)(E:Value->Shared->Prop):Inv (X.wish E) pins σ H s:=⟨I.ok.wish E,I.os,I.bare,I.base,I.loc,I.cell,I.free,I.freeC,I.pin,I.hok,I.len⟩
theorem Inv.unwish(I:Inv (X.wish E) pins σ H s):Inv X pins σ H s:=⟨I.ok.unwish,I.os,I.bare,I.base,I.loc,I.cell,I.free,I.freeC,I.pin,I.hok,I.len⟩
theorem SP.unwish{D:Ends}{f:Flow}{s':Shared}(h:SP (X.wish E) pins D f s'):SP X pins D f s':=by
 cases f with
 |next=>obtain⟨σ',H',I,q⟩:=h;exact(bM σ' H' I.unwish q)
 |brk=>obtain⟨σ',H',I,q⟩:=h;exact(bM σ' H' I.unwish q)
 |cont=>obtain⟨σ',H',I,q⟩:=h;exact(bM σ' H' I.unwish q)
 |ret u=>obtain⟨v,σ',H',I,r,q⟩:=h;exact(jN v σ' H' I.unwish r q)
theorem PSs.nox{st:List Stmt}{t:TS}(h:PSs X.nox st t):PSs X st t:=λpins s σ H D I hw =>
 ZX (h pins s σ H D (I.wish _) hw) (λ_ _ q=>q.unwish) λ_ _ z=>False.elim z
end
section
variable{X:Cx}{st:Stmt}{rest:List Stmt}{t u:TS}{e:Expr}{te:TE}{pos:Pos}
def FT:TS:=λD σ H=>D.nx σ H
def DR(t u:TS):TS:=λD σ H=>t { D with nx:=u D } σ H
theorem fF:PSs X [] FT:=λ_ _ σ H _ I h=>wpAny_execs_nil (bM σ H I h)
theorem b9(h1:PS X st t)(h2:PSs X rest u):PSs X (st::rest) (DR t u):=by
 sleep 9;refine wpAny_execs_cons (thn (h1 pins s σ H { D with nx:=u D } I h) λf s1 q=>?_);cases f with
 |next =>
  obtain⟨σ',H',I',q⟩:=q;exact h2 pins s1 σ' H' D I' q
 |ret v=>exact q
 |brk=>exact q
 |cont=>exact q
theorem dR(h1:PS X st t):PSs X [st] t:=by
 sleep 9;refine wpAny_execs_cons (thn (h1 pins s σ H D I h) λf s1 q=>?_);cases f with
 |next=>exact wpAny_execs_nil q
 |ret v=>exact q
 |brk=>exact q
 |cont=>exact q
theorem Inv.quiet{pins:List (!16)}{σ:St}{H:Hp}{s:Shared}(I:Inv X pins σ H s):interactive X.env=false:=by simp[interactive,I.ok.kind]
def QV(te:TE):TS:=λD σ H=>te σ H λ_ H1=>D.nx σ H1
theorem qD(he:PE X e te)(hs:swapsWith e none pos.line X.env=pure false:=by rfl):PS X (.Expr e pos) (QV te):=by
 sleep 9;exact wpAny_Expr_any (cW (he pins s σ H _ I h) λv s1 x H1 I1 r1 q1=>(bM σ H1 I1 q1)) I.quiet hs
def SR(te:TE):TS:=λD σ H=>te σ H D.rt
theorem OR(he:PE X e te):PS X (.Return (some e) pos) (SR te):=by
 sleep 9;exact wpAny_Return_some (cW (he pins s σ H _ I h) λv s1 x H1 I1 r1 q1=>(jN x σ H1 I1 r1 q1))
def KM(c:TT)(t u:TS):TS:=λD σ H=>c σ H λb H1=>If b (t D σ H1) (u D σ H1)
theorem jG{c:Expr}{a b:List Stmt}{tc:TT}(hc:PT X c tc)(ha:PSs X a t)(hb:PSs X b u):PS X (.If c a b pos) (KM tc t u):=by
 sleep 9;refine wpAny_If (FR (hc pins s σ H _ I h) λd s1 H1 I1 q1=>?_);cases d with
 |true=>exact ha pins s1 σ H1 D I1 (q1.t rfl)
 |false=>exact hb pins s1 σ H1 D I1 (q1.f rfl)
def FU:TS:=λ_ _ _=>False
theorem m8:PS X st FU:=λ_ _ _ _ _ _ h=>h.elim
theorem fZ{sts:List Stmt}:PSs X sts FU:=λ_ _ _ _ _ _ h=>h.elim
end
abbrev TG:=V->St->Hp->(St->Hp->Prop)->Prop
abbrev TGs:=List V->St->Hp->(St->Hp->Prop)->Prop
def PG(X:Cx)(target:Expr)(t:TG):Prop :=
 ∀(pins:List (!16)) (s:Shared) (σ:St) (H:Hp) (v:V) (u:Value) (Q:St->Hp->Prop),Inv X pins σ H s->RelV v u->t v σ H Q ->
  wpAny (!3) X.A (assign target X.env u) (λ_ s'=>∃σ' H',Inv X pins σ' H' s'/\Q σ' H') X.xe s
def PGs(X:Cx)(ts:List Expr)(t:TGs):Prop :=
 ∀(pins:List (!16)) (s:Shared) (σ:St) (H:Hp) (vs:List V) (us:List Value) (Q:St->Hp->Prop),Inv X pins σ H s->bD vs us->t vs σ H Q ->
  wpAny (!3) X.A (assignInOrder ((assignEach ts X.env).map (·.2)) us) (λ_ s'=>∃σ' H',Inv X pins σ' H' s'/\Q σ' H') X.xe s
abbrev J0:=V->V->V->Hp->(Hp->Prop)->Prop
def QL(X:Cx)(t:J0):Prop :=
 ∀(pins:List (!16)) (s:Shared) (σ:St) (H:Hp) (o i v:V) (ov iv u:Value) (Q:Hp->Prop),Inv X pins σ H s->RelV o ov->RelV i iv->RelV v u->t o i v H Q ->
  wpAny (!3) X.A (setItem ov iv u) (λ_ s'=>∃H',Inv X pins σ H' s'/\Q H') X.xe s
abbrev TIp:=V->V->Hp->VK->Prop
def PIp(X:Cx)(op:Operator)(t:TIp):Prop :=
 ∀(pins:List (!16)) (s:Shared) (σ:St) (H:Hp) (x y:V) (v u:Value) (Q:VK),Inv X pins σ H s->RelV x v->RelV y u->t x y H Q ->
  wpAny (!3) X.A (inplaceOp op v u) (EP X pins σ Q) X.xe s
section
variable{X:Cx}{pos:Pos}
def cS(i:Nat):TG:=λv σ H Q=>Q (σ.set i (some v)) H
theorem CD{i:Nat}{x:Str}(hN:X.N.Nodup)(hi:X.N[i]?=some x)(hx:Loc X.env.scope x)(hf:X.fn x=true\/X.env.scope.names.lookup x=some .local:=by first | exact .inl rfl | exact .inr rfl | assumption):PG X (.Name x pos) (cS i):=by
 intro pins s σ H v u Q I r h;exact wpAny_assign_Name (jF I hN hi hx r (λs' I'=>(bM _ H I' h)) hf)
def T5:TGs:=λvs σ H Q=>L0 vs (Q σ H)
def R1(t:TG)(u:TGs):TGs:=λvs σ H Q=>LC vs λv r=>t v σ H λσ' H'=>u r σ' H' Q
theorem LK:PGs X [] T5:=by
 intro pins s σ H vs us Q I r h;obtain⟨e,h⟩:=J3 h;subst e;cases r;exact assignInOrder_nil (bM σ H I h)
theorem HE{e:Expr}{es:List Expr}{t:TG}{u:TGs}(h1:PG X e t)(h2:PGs X es u)
  (hs:(assignEach (e::es) X.env).map (·.2)=assign e X.env::(assignEach es X.env).map (·.2):=by rfl):PGs X (e::es) (R1 t u):=by
 intro pins s σ H vs us Q I r h;obtain⟨v,vr,e1,z1⟩:=J2 h;have h:=z1;subst e1;cases r with
 |cons r rr =>
  rw[hs];refine assignInOrder_cons (thn (h1 pins s σ H _ _ _ I r h) λ_ s1 ⟨σ1,H1,I1,q1⟩=>?_);exact h2 pins s1 σ1 H1 _ _ Q I1 rr q1
def QA(n:Nat)(t:TGs):TG:=λv σ H Q=>v.gr λa=>∃xs,SqT H a xs/\xs.length=n/\t xs σ H Q
theorem HF{es:List Expr}{k:Nat}{t:TGs}{n:Nat}(hc:X.calm=true)(h:PGs X es t)
  (hn:(assignEach es X.env).length=n:=by rfl) (hst:(assignEach es X.env).findIdx? (·.1)=none:=by rfl):PG X (.Tuple es k pos) (QA n t):=by
 intro pins s σ H v u Q I r hw;obtain⟨a,e1,z1⟩:=bV hw;obtain⟨xs,hq,hl,hw2⟩:=z1;subst e1;cases r;obtain⟨its,rv,ht,hz⟩:=I.tuple hq;refine assign_Tuple_tuple (I.ok.hd hc) ht (by simp[hn,<-hl,rv.length]) hst λh' hx=>?_;have I1:Inv X pins σ H { s with heap:=h' }:=I.kept (t':=s.toks) λb o e=>hx b o (ZA (YV e)) e;exact h pins _ σ H xs _ Q I1 (by simpa using rv) hw2
def T4(to ti:TE)(t:J0):TG:=λv σ H Q=>to σ H λo H1=>ti σ H1 λi H2=>t o i v H2 λH3=>Q σ H3
theorem eI{o i:Expr}{to ti:TE}{t:J0}(ho:PE X o to)(hi:PE X i ti)(hs:QL X t)
  (ha:∀v,assign (.Subscript o i pos) X.env v=(do
   let ov <-holding [v] (eval o X.env)
   let iv <-holding [v,ov] (eval i X.env)
   standAt pos
   holding [v,ov,iv] (setItem ov iv v)
   release [v,ov,iv] []):=by intro _;rfl):PG X (.Subscript o i pos) (T4 to ti t):=by
 intro pins s σ H v u Q I r h;rw[ha];refine ZZ (ZU (cW (ho pins s σ H _ I h) λov s1 x H1 I1 r1 q1=>?_));refine ZZ (ZU (cW (hi pins s1 σ H1 _ I1 q1) λiv s2 y H2 I2 r2 q2=>?_));refine ZZ (wpAny_standAt (ZZ (ZU (thn (hs pins s2 σ H2 x y v ov iv u _ I2 r1 r2 r q2) λ_ s3 ⟨H3,I3,q3⟩=>?_))));exact wpAny_release (bM σ H3 I3 q3)
def DT(te:TE)(g:TG):TS:=λD σ H=>te σ H λx H1=>g x σ H1 D.nx
theorem dD{tg e:Expr}{te:TE}{g:TG}(he:PE X e te)(hg:PG X tg g)(hs:swapsWithSole [tg] e pos.line X.env=pure false:=by rfl)(hw:swappedStores [tg] e X.env=pure none:=by rfl)
  (h1:(assignEach [tg] X.env).map (·.2)=[assign tg X.env]:=by rfl):PS X (.Assign [tg] e pos) (DT te g):=by
 sleep 9;refine wpAny_Assign_stores (cW (he pins s σ H _ I h) λv s1 x H1 I1 r1 q1=>?_) hs hw;rw[h1];exact thn (hg pins s1 σ H1 x v _ I1 r1 q1) λ_ s2 q=>q
theorem G0{i:Nat}{x:Str}{e:Expr}{te:TE}{pos':Pos}(hN:X.N.Nodup)(hi:X.N[i]?=some x)(hx:Loc X.env.scope x)(he:PE X e te)(hs:swapsWith e (some (.Name x pos')) pos.line X.env=pure false:=by rfl)(hf:X.fn x=true\/X.env.scope.names.lookup x=some .local:=by first | exact .inl rfl | exact .inr rfl | assumption) :
  PS X (.Assign [.Name x pos'] e pos) (DT te (cS i)):=by
 sleep 9;refine wpAny_Assign_Name (cW (he pins s σ H _ I h) λv s1 y H1 I1 r1 q1=>?_) hs;exact jF I1 hN hi hx r1 (λs2 I2=>(bM _ H1 I2 q1)) hf
def SS(i j:Nat)(ta:TA):TS:=λD σ H=>ta σ H λvs H1=>LC vs λv v_r=>LC v_r λw w_r=>L0 w_r <| D.nx ((σ.set i (some v)).set j (some w)) H1
theorem OS{i j:Nat}{x y:Str}{a b:Expr}{ta:TA}{px py pt:Pos}{kt k2 pt2}(hc:X.calm=true)(hN:X.N.Nodup)(hi:X.N[i]?=some x)(hj:X.N[j]?=some y)(hij:i≠j)
  (hx:X.env.scope.names.lookup x=some .local) (hy:X.env.scope.names.lookup y=some .local) (ha:PA X [a,b] ta)
  (hw:swappedStores [.Tuple [.Name x px,.Name y py] kt pt] (.Tuple [a,b] k2 pt2) X.env=pure (some [x,y]))
  (hs:swapsWithSole [.Tuple [.Name x px,.Name y py] kt pt] (.Tuple [a,b] k2 pt2) pos.line X.env=pure false:=by rfl) :
  PS X (.Assign [.Tuple [.Name x px,.Name y py] kt pt] (.Tuple [a,b] k2 pt2) pos) (SS i j ta):=by
 sleep 9;rw[exec_Assign_arm];refine ZZ (wpAny_standAt ?_);rw[hs];refine ZZ (ZY ?_);rw[Ya (!1)];refine ZZ (Tuple_ (pP (ha _ pins s σ H _ I h) λus s1 vs H1 I1 r1 q1=>?_));obtain⟨v,w,e1,z1⟩:=SJ q1;have q1:=z1;subst e1;obtain⟨u1,u2,rfl,rv,rw'⟩:∃u1 u2,us=[u1,u2]/\RelV v u1/\RelV w u2:=by
  cases r1 with
  |cons p q =>
   cases q with
   |cons p' q' =>
    cases q';exact(aG _ _ rfl p p')
 refine wpAny_newObj_type ?_ (!9);have I2:Inv X pins σ H1 { s1 with heap:=s1.heap.push { cls:=.type "tuple",data:=.seq [u1,u2].toArray } }:=I1.kept (t':=s1.toks) λb o e=>YW _ e;rw[hw];refine ZZ (ZY ?_);show wpAny (!3) X.A (do rule "assign.swapped-stores";let items <-unpackItems (.ref s1.heap.objs.size) 2 none;assignInOrder [λv=>bindName X.env y v,λv=>bindName X.env x v] items.reverse;pure Flow.next) _ _ _;refine ZZ (wpAny_rule (ZZ (unpackItems_tuple (items:=#[u1,u2]) (I.ok.hd hc) (IsTup.new s1.heap _) λh' hx'=>?_)));have I3:=I2.kept (h':=h') (t':=s1.toks) λb o e=>hx' b o (ZA (YV e)) e;show wpAny _ _ (assignInOrder [λv=>bindName X.env y v,λv=>bindName X.env x v] [u2,u1] >>= λ_=>pure Flow.next) _ _ _;refine ZZ (assignInOrder_cons (wpAny_bindName (jF I3 hN hj (.inl hy) rw' (λs2 I4=>?_) (.inr hy))));refine assignInOrder_cons (wpAny_bindName (jF I4 hN hi (.inl hx) rv (λs3 I5=>assignInOrder_nil (ZY ?_)) (.inr hx)));rw[List.set_comm _ _ (Yh hij)]at I5;exact(bM _ H1 I5 q1)
def S0(i:Nat)(te:TE)(ti:TIp):TS:=λD σ H=>St.at σ i λx=>te σ H λy H1=>ti x y H1 λz H2=>D.nx (σ.set i (some z)) H2
theorem OT{i:Nat}{x:Str}{e:Expr}{te:TE}{op:Operator}{ti:TIp}{pos':Pos}(hN:X.N.Nodup)(hi:X.N[i]?=some x)(hx:Loc X.env.scope x)(he:PE X e te)(ho:PIp X op ti)(hf:X.fn x=true\/X.env.scope.names.lookup x=some .local:=by first | exact .inl rfl | exact .inr rfl | assumption) :
  PS X (.AugAssign (.Name x pos') op e pos) (S0 i te ti):=by
 sleep 9;obtain⟨v,e1,z1⟩:=tI h;have h:=z1;obtain⟨m,hn,hl⟩:=I.loc;have vis:Vis X.env.scope x:=by rcases hx with k | k;exact .inl k;exact .inr (.inl k)
 obtain⟨u,r,l⟩:=hl i x v hi e1 vis;refine wpAny_AugAssign_Name ?_;have go:wpAny (!3) X.A (eval e X.env) (λw s₂=>wpAny (!3) X.A (inplaceOp op u w) (λr s₃=>wpAny (!3) X.A (storeName X.env x r) (λ_=>SP X pins D .next) X.xe s₃) X.xe s₂) X.xe s:=by
  refine cW (he pins s σ H _ I h) λw s1 y H1 I1 r1 q1=>?_;refine cW (ho pins s1 σ H1 v y u w _ I1 r r1 q1) λz s2 zv H2 I2 r2 q2=>?_;exact jF I2 hN hi hx r2 (λs3 I3=>(bM _ H2 I3 q2)) hf
 rcases l with⟨hk,hm⟩ | ⟨hk,c,hc,hcell⟩
 ·exact wpAny_loadName_local I.ok.kind hk hn hm go
 ·rcases hk with hk | hk
  ·exact wpAny_loadName_cell I.ok.kind hk hc hcell go
  ·rcases hx with k | k
   ·have:X.env.scope.names.lookup x=some .free:=hk;rw[k]at this;cases this
   ·have:X.env.scope.names.lookup x=some .free:=hk;rw[k]at this;cases this
def QX(to ti te:TE)(tget:V->V->Hp->VK->Prop)(tip:TIp)(tset:J0):TS:=λD σ H=>to σ H λo H1=>ti σ H1 λi H2=>tget o i H2 λx H3=>te σ H3 λy H4=>tip x y H4 λz H5=>tset o i z H5 λH6=>D.nx σ H6
def SH(X:Cx)(t:V->V->Hp->VK->Prop):Prop :=
 ∀(pins:List (!16)) (s:Shared) (σ:St) (H:Hp) (o i:V) (ov iv:Value) (Q:VK),Inv X pins σ H s->RelV o ov->RelV i iv->t o i H Q ->
  wpAny (!3) X.A (getItem ov iv) (EP X pins σ Q) X.xe s
theorem iR{o i e:Expr}{to ti te:TE}{tget:V->V->Hp->VK->Prop}{tip:TIp}{tset:J0}{op:Operator}{tpos:Pos}(ho:PE X o to)(hi:PE X i ti)(hg:SH X tget)(he:PE X e te)(hp:PIp X op tip)(hs:QL X tset)
  (ha:∀ov iv new,augStore i ov iv new=(do holding [new,ov,iv] (setItem ov iv new);release [new,ov,iv] [];pure .next):=by intros;rfl):PS X (.AugAssign (.Subscript o i tpos) op e pos) (QX to ti te tget tip tset):=by
 sleep 9;refine wpAny_AugAssign_SubscriptAny (cW (ho pins s σ H _ I h) λov s1 x1 H1 I1 r1 q1=>?_) ha;refine cW (hi pins s1 σ H1 _ I1 q1) λiv s2 x2 H2 I2 r2 q2=>?_;refine cW (hg pins s2 σ H2 x1 x2 ov iv _ I2 r1 r2 q2) λold s3 x3 H3 I3 r3 q3=>?_;refine cW (he pins s3 σ H3 _ I3 q3) λv s4 x4 H4 I4 r4 q4=>?_;refine cW (hp pins s4 σ H4 x3 x4 old v _ I4 r3 r4 q4) λnew s5 x5 H5 I5 r5 q5=>?_;exact thn (hs pins s5 σ H5 x1 x2 x5 ov iv new _ I5 r1 r2 r5 q5) λ_ s6 ⟨H6,I6,q6⟩=>(bM σ H6 I6 q6)
def ipI(f:Int->Int->Int):TIp:=λx y H Q=>x.gi λi=>y.gi λj=>Q (.int (f i j)) H
theorem mS:PIp X .Add (ipI λi j=>i+j):=by
 intro pins s σ H x y v u Q I r1 r2 h;obtain⟨i,e1,z1⟩:=dC h;obtain⟨j,e2,z2⟩:=dC z1;have q:=z2;subst e1;subst e2;obtain⟨t,rfl⟩:=r1;obtain⟨t',rfl⟩:=r2;exact iadd_int (aG (.int _) H (I.tok _) ⟨_,rfl⟩ q)
theorem IT:PIp X .Sub (ipI λi j=>i-j):=by
 intro pins s σ H x y v u Q I r1 r2 h;obtain⟨i,e1,z1⟩:=dC h;obtain⟨j,e2,z2⟩:=dC z1;have q:=z2;subst e1;subst e2;obtain⟨t,rfl⟩:=r1;obtain⟨t',rfl⟩:=r2;exact isub_int (aG (.int _) H (I.tok _) ⟨_,rfl⟩ q)
end
section
variable{X:Cx}{pos:Pos}
def N6(c:TT)(tb:TS):TS:=λD σ H=>∃W:Nat->St->Hp->Prop,(∃m,W m σ H)/\∀m σ H,W m σ H ->
 c σ H λb H1=>If b (∃N:St->Hp->Prop,(∀σ' H',N σ' H'->∃m',m' < m/\W m' σ' H')/\tb { D with nx:=N,ct:=N,bk:=D.nx } σ H1) (D.nx σ H1)
theorem xN{c:Expr}{body:List Stmt}{tc:TT}{tb:TS}(hp:PassesOwn (!3) X.A X.env X.xe)(hc:PT X c tc)(hb:PSs X body tb):PS X (.While c body [] pos) (N6 tc tb):=by
 sleep 9;obtain⟨W,⟨m0,w0⟩,turn⟩:=h;refine wpAny_While (codeAny_whileLoop (λn s'=>∃σ' H',Inv X pins σ' H' s'/\W n σ' H') ?_ m0 (bM σ H I w0));rintro n s1 ⟨σ1,H1,I1,w1⟩;refine wpAny_passesOwn hp (FR (hc pins s1 σ1 H1 _ I1 (turn n σ1 H1 w1)) λb s2 H2 I2 q2=>?_);cases b with
 |true =>
  obtain⟨N,hN,q2⟩:=q2.t rfl;rw[Yb rfl];refine wpAny_passesOwn hp (thn (hb pins s2 σ1 H2 _ I2 q2) λf s3 q3=>?_);cases f with
  |next =>
   obtain⟨σ3,H3,I3,n3⟩:=q3;obtain⟨m',hm,w3⟩:=hN σ3 H3 n3;exact(vB m' hm σ3 H3 I3 w3)
  |cont =>
   obtain⟨σ3,H3,I3,n3⟩:=q3;obtain⟨m',hm,w3⟩:=hN σ3 H3 n3;exact(vB m' hm σ3 H3 I3 w3)
  |brk=>exact q3
  |ret v=>exact q3
 |false =>
  rw[Ya YT];exact wpAny_execs_nil (bM σ1 H2 I2 (q2.f rfl))
end
structure It where
 go:Nat->Hp->Prop
 yld:Nat->Hp->V->Hp->Prop
 stop:Nat->Hp->Prop
def pU(X:Cx)(pins:List (!16))(H:Hp)(b:Addr):Prop :=
 H b=none/\b≠X.env.locals/\b∉X.fs/\(b∈X.ex\/X.s₀.heap.objs.size<=b)/\(∀x c,X.env.cells.lookup x=some c->c≠b)/\∀p∈X.pn++pins,p.1≠b
theorem Inv.fpOk{X:Cx}{pins:List (!16)}{σ:St}{H H':Hp}{s:Shared}{b:Addr}(I:Inv X pins σ H s)(hb:s.heap.objs.size<=b)(hn:H' b=none):pU X pins H' b:=by
 refine(cN hn (Nat.ne_of_gt (Xz I.lt hb)) (I.nofs hb) (.inr (YQ I.sz hb)) (λx c e z=>?_) (λp hp z=>?_))
 ·obtain⟨v,q⟩:=I.cell x c e;exact Yg (Xz q.lt (by rw[z];exact hb)) (YY _)
 ·exact Yg (Xz (YV (I.pin p hp).1) (by rw[z];exact hb)) (YY _)
structure Turn(P:Program)(w:World)(K:PySem.W.Frag)(tg:Expr)(J:It)(fp:List Addr)(it:Addr)(tn:Nat->Heap->Prop):Prop where
 mem:it∈fp
 obj:∀i h,tn i h->∀b∈fp,∃o,h.get? b=some o/\∀v,o.data≠.cell v
 keep:∀i h h',tn i h->(∀b∈fp,∀o,h.get? b=some o->h'.get? b=some o)->tn i h'
 item:∀(X:Cx),X.prog=P->X.w=w->X.K=K->X.calm=true->∀(i:Nat) (pins:List (!16)) (s:Shared) (σ:St) (H:Hp) (E:Value->Shared->Prop),Inv X pins σ H s->(∀b∈fp,pU X pins H b)->tn i s.heap->J.go i H ->
  wpAny (model P w) X.A (pyNext (.ref it)) (λr s1=>∃u,r=some u /\
   wpAny (model P w) X.A (letOwnedTupleGo tg (.ref it) u) (λ_ s2=>∃x H',Inv X pins σ H' s2/\RelV x u/\J.yld i H x H'/\tn (i+1) s2.heap/\∀b∈fp,H' b=none) E s1) E s
 done:∀(X:Cx),X.prog=P->X.w=w->X.K=K->X.calm=true->∀(i:Nat) (pins:List (!16)) (s:Shared) (σ:St) (H:Hp) (E:Value->Shared->Prop),Inv X pins σ H s->(∀b∈fp,pU X pins H b)->tn i s.heap->J.stop i H ->
  wpAny (model P w) X.A (pyNext (.ref it)) (λr s1=>r=none/\Inv X pins σ H s1) E s
 self:∀(A:Around) (i:Nat) (s:Shared) (Q:Value->Shared->Prop) (E:Value->Shared->Prop),tn i s.heap->Q (.ref it) s->wpAny (model P w) A (pyIter (.ref it)) Q E s
abbrev TI:=St->Hp->(It->Hp->Prop)->Prop
def PIE(X:Cx)(pins:List (!16))(σ:St)(tg:Expr)(R:It->Hp->Prop)(itv:Value)(s2:Shared):Prop :=
 ∃(it:Addr) (fp:List Addr) (tn:Nat->Heap->Prop) (J:It) (H':Hp),itv=.ref it/\Inv X pins σ H' s2/\Turn X.prog X.w X.K tg J fp it tn/\tn 0 s2.heap/\(∀b∈fp,pU X pins H' b)/\R J H'
def PI(X:Cx)(tg iter:Expr)(wi:TI):Prop :=
 ∀(pins:List (!16)) (s:Shared) (σ:St) (H:Hp) (R:It->Hp->Prop),Inv X pins σ H s->wi σ H R ->
  wpAny (!3) X.A (eval iter X.env) (λv s1=>wpAny (!3) X.A (pyIter v) (PIE X pins σ tg R) X.xe s1) X.xe s
theorem CV{M:Model}{A:Around}{E:Value->Shared->Prop}{s:Shared}{tg:Expr}{it:Addr}{u:Value}{o:Obj}{n:String}{vs:Array Value}{Q:Unit->Shared->Prop}(ho:s.heap.get? it=some o)(hc:o.cls=.type n)(hd:o.data=.fields vs)
  (hn:["enumerate","zip","dict_itemiterator","dict_reverseitemiterator","odict_iterator","itertools.zip_longest","itertools.pairwise"].contains n=false) (hQ:Q () s):wpAny M A (letOwnedTupleGo tg (.ref it) u) Q E s:=by
 unfold letOwnedTupleGo;cases tg<;>first
  |exact ZY hQ
  |(cases u<;>first
    |exact ZY hQ
    |(refine ZZ (wpAny_load ho ?_);rw[hc,hd];show wpAny M A (if (["enumerate","zip","dict_itemiterator","dict_reverseitemiterator","odict_iterator","itertools.zip_longest","itertools.pairwise"].contains n&&vs[0]?==some (rawInt _))=true then _ else _) Q E s;rw[Ya (by intro h;rw[hn,Bool.false_and]at h;cases h)];exact ZY hQ))
def Itl(a:Addr):It :=
 ⟨λi H=>∃xs x,SqL H a xs/\xs[i]?=some x,λi H x H'=>H'=H/\∀xs,SqL H a xs->xs[i]?=some x,λi H=>∃xs,SqL H a xs/\xs.length<=i⟩
def Itt(a:Addr):It :=
 ⟨λi H=>∃xs x,SqT H a xs/\xs[i]?=some x,λi H x H'=>H'=H/\∀xs,SqT H a xs->xs[i]?=some x,λi H=>∃xs,SqT H a xs/\xs.length<=i⟩
def Itr(lo:Int)(n:Nat):It:=⟨λi _=>i<n,λi H x H'=>H'=H/\x=.int (lo+i),λi _=>n<=i⟩
theorem DP{P:Program}{w:World}{K:PySem.W.Frag}{tg:Expr}(a it:Addr):Turn P w K tg (Itl a) [it] it (λi h=>h.IsListIter it a i) where
 mem:=by simp
 obj:=λi h st b hb=>by
  have e:b=it:=by simpa using hb
  subst e;obtain⟨o,e,c,d⟩:=st;exact(xWP o e (λv z=>by rw[d]at z;cases z))
 keep:=λi h h' st k=>st.at λo e=>k it (!5) o e
 item:=by
  sleep 1;subst hP hw hK;obtain⟨xs,x,hq,hx⟩:=hg;obtain⟨its,rv,p,hz⟩:=I.list hq;obtain⟨u,hu,ru⟩:=rv.get hx;obtain⟨f0,f1,f2,f3,f4,f5⟩:=hf it (!5);refine wpAny_pyNext_list_item st p.isList (x:=u) (by simpa using hu) λh' st' sb=>?_;have I1:Inv X pins σ H { s with heap:=h' }:=I.turned (t':=s.toks) (λb o hb e=>(sb.2 b hb).trans e) f0 f1 f3 f4 f5;obtain⟨o,e,c,d⟩:=id st';exact(xWP u rfl (CV (s:={ s with heap:=h' }) e c d (!1) (bO x H I1 ru ⟨rfl,λys hy=>by rw[I.list_inj hy hq];exact hx⟩ st' (λb hb=>(hf b hb).1))))
 done:=by
  sleep 1;subst hP hw hK;obtain⟨xs,hq,hx⟩:=hg;obtain⟨its,rv,p,hz⟩:=I.list hq;obtain⟨f0,f1,f2,f3,f4,f5⟩:=hf it (!5);have hl:=rv.length;exact wpAny_pyNext_list_end (I.ok.hd hc) st p.isList (!41) λh' eb=>⟨rfl,I.turned (t':=s.toks) (λb o hb e=>eb b o hb e) f0 f1 f3 f4 f5⟩
 self:=λ_ _ _ _ _ st h=>wpAny_pyIter_listiter st h
theorem zP{P:Program}{w:World}{K:PySem.W.Frag}{tg:Expr}(a it:Addr):Turn P w K tg (Itt a) [it] it (λi h=>h.IsTupleIter it a i) where
 mem:=by simp
 obj:=λi h st b hb=>by
  have e:b=it:=by simpa using hb
  subst e;obtain⟨o,e,c,d⟩:=st;exact(xWP o e (λv z=>by rw[d]at z;cases z))
 keep:=λi h h' st k=>st.at λo e=>k it (!5) o e
 item:=by
  sleep 1;subst hP hw hK;obtain⟨xs,x,hq,hx⟩:=hg;obtain⟨its,rv,p,hz⟩:=I.tuple hq;obtain⟨u,hu,ru⟩:=rv.get hx;obtain⟨f0,f1,f2,f3,f4,f5⟩:=hf it (!5);refine wpAny_pyNext_tuple_item st (show s.heap.IsTuple a its.toArray from p) (x:=u) (by simpa using hu) λh' st' sb=>?_;have I1:Inv X pins σ H { s with heap:=h' }:=I.turned (t':=s.toks) (λb o hb e=>(sb.2 b hb).trans e) f0 f1 f3 f4 f5;obtain⟨o,e,c,d⟩:=id st';exact(xWP u rfl (CV (s:={ s with heap:=h' }) e c d (!1) (bO x H I1 ru ⟨rfl,λys hy=>by rw[I.tuple_inj hy hq];exact hx⟩ st' (λb hb=>(hf b hb).1))))
 done:=by
  sleep 1;subst hP hw hK;obtain⟨xs,hq,hx⟩:=hg;obtain⟨its,rv,p,hz⟩:=I.tuple hq;obtain⟨f0,f1,f2,f3,f4,f5⟩:=hf it (!5);have hl:=rv.length;exact wpAny_pyNext_tuple_end (I.ok.hd hc) st (show s.heap.IsTuple a its.toArray from p) (!41) λh' eb=>⟨rfl,I.turned (t':=s.toks) (λb o hb e=>eb b o hb e) f0 f1 f3 f4 f5⟩
 self:=λ_ _ _ _ _ st h=>wpAny_pyIter_tupleiter st h
theorem zQ{P:Program}{w:World}{K:PySem.W.Frag}{tg:Expr}(it:Addr)(lo:Int)(n:Nat):Turn P w K tg (Itr lo n) [it] it (λi h=>IsRangeIter h it (lo+(i:Nat)*1) ((n:Int)-(i:Nat)) 1) where
 mem:=by simp
 obj:=λi h st b hb=>by
  have e:b=it:=by simpa using hb
  subst e;exact(xWP _ st (λv z=>by
   have z':Data.fields _=Data.cell v:=z;cases z'))
 keep:=λi h h' st k=>k it (!5) _ st
 item:=by
  sleep 1;subst hP hw hK;obtain⟨f0,f1,f2,f3,f4,f5⟩:=hf it (!5);have W:=Walks.range (prog:=X.prog) (w:=X.w) (I.ok.hd hc) it lo 1 n;refine W.item i s _ _ hg st λv h' tk hv st' kk=>?_;obtain⟨t,rfl⟩:=hv;have I1:Inv X pins σ H { s with heap:=h',toks:=tk }:=I.turned (λb o hb e=>kk b o (by simpa using hb) e) f0 f1 f3 f4 f5;refine(xWP _ rfl (CV (s:={ s with heap:=h',toks:=tk }) (n:="range_iterator") st' rfl rfl (!1) (bO (.int (lo+i)) H I1 ⟨t,?_⟩ ⟨rfl,rfl⟩ st' (λb hb=>(hf b hb).1))));rw[Int.mul_one]
 done:=by
  sleep 1;subst hP hw hK;obtain⟨f0,f1,f2,f3,f4,f5⟩:=hf it (!5);exact wpAny_pyNext_range_end (I.ok.hd hc) st (by have:n<=i:=hg;lia) λh' eb=>⟨rfl,I.turned (t':=s.toks) (λb o hb e=>eb b o hb e) f0 f1 f3 f4 f5⟩
 self:=λ_ _ _ _ _ st h=>wpAny_pyIter_rangeiter st h
section
variable{X:Cx}{tg:Expr}
def RZ(tl:TE):TI:=λσ H R=>tl σ H λx H1=>x.gr λa=>(∃xs,SqL H1 a xs)/\R (Itl a) H1
def T3(tl:TE):TI:=λσ H R=>tl σ H λx H1=>x.gr λa=>(∃xs,SqT H1 a xs)/\R (Itt a) H1
theorem bE{l:Expr}{tl:TE}(hl:PE X l tl):PI X tg l (RZ tl):=by
 intro pins s σ H R I h;refine cW (hl pins s σ H _ I h) λv s1 x H1 I1 r1 q1=>?_;obtain⟨a,e,z1⟩:=bV q1;obtain⟨⟨xs,hq⟩,q⟩:=z1;subst e;cases r1;obtain⟨its,rv,p,hz⟩:=I1.list hq;refine wpAny_pyIter_list p.isList ?_;refine(a7 s1.heap.objs.size ([s1.heap.objs.size]) _ _ H1 rfl (I1.kept (t':=s1.toks) λb o e=>YW _ e) (DP a _) (aM _ (YU _ rfl) rfl rfl) ⟨ λb hb=>?_,q⟩);have e:b=s1.heap.objs.size:=by simpa using hb
 subst e;exact I1.fpOk (ZC _) (I1.hok.fresh (ZC _))
theorem OV{l:Expr}{tl:TE}(hl:PE X l tl):PI X tg l (T3 tl):=by
 intro pins s σ H R I h;refine cW (hl pins s σ H _ I h) λv s1 x H1 I1 r1 q1=>?_;obtain⟨a,e,z1⟩:=bV q1;obtain⟨⟨xs,hq⟩,q⟩:=z1;subst e;cases r1;obtain⟨its,rv,p,hz⟩:=I1.tuple hq;refine wpAny_pyIter_tuple (show s1.heap.IsTuple a its.toArray from p) ?_;refine(a7 s1.heap.objs.size ([s1.heap.objs.size]) _ _ H1 rfl (I1.kept (t':=s1.toks) λb o e=>YW _ e) (zP a _) (aM _ (YU _ rfl) rfl rfl) ⟨ λb hb=>?_,q⟩);have e:b=s1.heap.objs.size:=by simpa using hb
 subst e;exact I1.fpOk (ZC _) (I1.hok.fresh (ZC _))
theorem GU{pins:List (!16)}{σ:St}{H:Hp}{s:Shared}{R:It->Hp->Prop}{E:Value->Shared->Prop}{lo hi:Int}{t u v:Tok}{tk:Nat}(I:Inv X pins σ H s)(h1 : -(2 ^ 62)<=lo)(h2:lo<2 ^ 62)(h3 : -(2 ^ 62)<=hi)(h4:hi<2 ^ 62)
  (q:R (Itr lo (hi-lo).toNat) H):wpAny (!3) X.A (pyIter (.ref s.heap.objs.size)) (PIE X pins σ tg R) E { s with heap:=s.heap.push { cls:=.type "range",data:=.fields #[.int lo t,.int hi u,.int 1 v] },toks:=tk }:=by
 refine wpAny_pyIter_range (IsRange.new ..) (small_one h1 h2 h3 h4) ?_;have I1:Inv X pins σ H { s with heap:=s.heap.push { cls:=.type "range",data:=.fields #[.int lo t,.int hi u,.int 1 v] },toks:=tk }:=I.kept λb o e=>YW _ e;refine(a7 ((s.heap.push { cls:=.type "range",data:=.fields #[.int lo t,.int hi u,.int 1 v] }).objs.size) ([(s.heap.push { cls:=.type "range",data:=.fields #[.int lo t,.int hi u,.int 1 v] }).objs.size]) _ _ H rfl (I1.kept (t':=tk) λb o e=>YW _ e) (zQ _ lo (hi-lo).toNat) ?_ ⟨ λb hb=>?_,q⟩)
 ·have e1:lo+((0:Nat):Int)*1=lo:=by simp
  have e2:(((hi-lo).toNat:Nat):Int)-((0:Nat):Int)=Builtin.Range.rangeSize lo hi 1:=by rw[rangeSize_one];split<;>lia
  show IsRangeIter _ _ (lo+((0:Nat):Int)*1) ((((hi-lo).toNat:Nat):Int)-((0:Nat):Int)) 1;rw[e1,e2];exact YU _ rfl
 ·have e:b=(s.heap.push { cls:=.type "range",data:=.fields #[.int lo t,.int hi u,.int 1 v] }).objs.size:=by simpa using hb
  subst e;exact I1.fpOk (ZC _) (I1.hok.fresh (ZC _))
def RY(ta:TA):TI:=λσ H R=>ta σ H λvs H1=>∃j:Int,vs=[.int j]/\-(2 ^ 62)<=j/\j<2 ^ 62/\R (Itr 0 j.toNat) H1
theorem EC{a:Expr}{ta:TA}{p pos:Pos}(hg:Gl X "range")(hm:X.mg "range" = none)(ha:PA X [a] ta)(hs:starEach [a] X.env=[(false,eval a X.env)]:=by rfl):PI X tg (.Call (.Name "range" p) [a] [] pos) (RY ta):=by
 intro pins s σ H R I h;refine Call_ (kQ I hg hm boot_range (PyProof.Rows.callWith_type1 (pP (ha pos pins s σ H _ I h) λus s1 vs H1 I1 r1 q1=>?_) hs rfl));obtain⟨j,e,q1,q2,q⟩:=q1;subst e;cases r1 with
 |cons r rr =>
  cases rr;obtain⟨t,rfl⟩:=r;exact call_range_1 (GU I1 (by lia) (by lia) q1 q2 (by simpa using q))
def SW(wi:TI)(g:TG)(tb:TS):TS:=λD σ H=>wi σ H λJ H1=>∃W:Nat->Nat->St->Hp->Prop,(∃m,W 0 m σ H1)/\∀i m σ H,W i m σ H ->
 (J.stop i H/\D.nx σ H)\/(J.go i H/\∃N:St->Hp->Prop,(!45)/\∀x H',J.yld i H x H'->g x σ H' λσ2 H2=>tb { D with nx:=N,ct:=N,bk:=D.nx } σ2 H2)
def r9(fp:List Addr)(h:Heap):List (!16):=fp.filterMap λb=>(h.get? b).map λo=>(b,o)
theorem jY{fp:List Addr}{h:Heap}{b:Addr}{o:Obj}(hb:b∈fp)(e:h.get? b=some o):(b,o)∈r9 fp h:=List.mem_filterMap.mpr (xWP b hb (by rw[e];rfl))
theorem EM{fp:List Addr}{h:Heap}{p:Addr×Obj}(hp:p∈r9 fp h):p.1∈fp/\h.get? p.1=some p.2:=by
 obtain⟨b,hb,e⟩:=List.mem_filterMap.mp hp;cases q:h.get? b with
 |none=>rw[q]at e;cases e
 |some o =>
  rw[q]at e;have e':(b,o)=p:=Option.some.inj e;subst e';exact⟨hb,q⟩
theorem Inv.pinned{pins:List (!16)}{σ:St}{H:Hp}{s:Shared}{fp:List Addr}(I:Inv X pins σ H s)(hf:∀b∈fp,pU X pins H b)(ho:∀b∈fp,∃o,s.heap.get? b=some o/\∀v,o.data≠.cell v):Inv X (pins++r9 fp s.heap) σ H s :=
 I.pins_of λp hp=>(Zf.mp hp).elim (λz=>I.pin p (ZO _ z)) λz=>by
  obtain⟨hb,e⟩:=EM z;obtain⟨f0,f1,f2,_⟩:=hf p.1 hb;obtain⟨o,e',d⟩:=ho p.1 hb;rw[e]at e';cases e';exact(bK e f0 f1 f2 d)
theorem Inv.unpinned{pins pl:List (!16)}{σ:St}{H:Hp}{s:Shared}(I:Inv X (pins++pl) σ H s):Inv X pins σ H s:=I.pins_of λp hp=>I.pin p (ZO _ (ZP _ hp))
theorem G1{iter:Expr}{body:List Stmt}{wi:TI}{g:TG}{tb:TS}{pos:Pos}(hp:PassesOwn (!3) X.A X.env X.xe)(hc:X.calm=true)(hi:PI X tg iter wi)(hg:PG X tg g)(hb:PSs X body tb)
  (hs:∀x,foldedSetIterable iter X.env x=pure x:=by intro _;rfl):PS X (.For tg iter body [] pos) (SW wi g tb):=by
 sleep 9;refine wpAny_For (thn (hi pins s σ H _ I h) λv s1 h1=>thn h1 λitv s2 h2=>?_) hs;obtain⟨it,fp,tn,J,H2,e,I2,T,st2,f2,W,⟨m0,w0⟩,turn⟩:=h2;subst e;have stat:∀{H':Hp},(∀b∈fp,H' b=none)->∀b∈fp,pU X pins H' b:=λhn b hb=>⟨hn b hb,(f2 b hb).2⟩
 refine codeAny_forLoop_any (λn s'=>∃i σ' H',Inv X pins σ' H' s'/\tn i s'.heap/\(∀b∈fp,H' b=none)/\W i n σ' H') ?_ m0 (cI 0 σ H2 I2 st2 (λb hb=>(f2 b hb).1) w0);rintro n s3 ⟨i,σ3,H3,I3,st3,fr3,w3⟩;rcases turn i n σ3 H3 w3 with⟨stop,qn⟩ | ⟨go,N,hN,step⟩
 ·refine wpAny_passesOwn hp (thn (T.done X rfl rfl rfl hc i pins s3 σ3 H3 X.xe I3 (stat fr3) st3 stop) λr s4 ⟨hr,I4⟩=>?_);subst hr;exact wpAny_execs_nil (bM σ3 H3 I4 qn)
 ·refine wpAny_passesOwn hp (thn (T.item X rfl rfl rfl hc i pins s3 σ3 H3 X.xe I3 (stat fr3) st3 go) λr s4 ⟨u,hr,h4⟩=>?_);subst hr;refine wpAny_passesOwn hp (thn h4 λ_ s5 ⟨x,H5,I5,r5,y5,st5,fr5⟩=>?_);have I5':=I5.pinned (stat fr5) (T.obj _ _ st5);refine wpAny_passesOwn hp (thn (hg _ s5 σ3 H5 x u _ I5' r5 (step x H5 y5)) λ_ s6 ⟨σ6,H6,I6,q6⟩=>?_);refine wpAny_passesOwn hp (thn (hb _ s6 σ6 H6 _ I6 q6) λf s7 q7=>?_);have again:∀{σ7:St}{H7:Hp},Inv X (pins++r9 fp s5.heap) σ7 H7 s7->N σ7 H7->∃m,m<n/\∃i σ' H',Inv X pins σ' H' s7/\tn i s7.heap/\(∀b∈fp,H' b=none)/\W i m σ' H':=λ{σ7 H7} I7 n7=>by
   obtain⟨m',hm,w7⟩:=hN σ7 H7 n7;refine(nZ m' hm (i+1) σ7 H7 I7.unpinned (T.keep _ _ _ st5 λb hb o e=>(I7.pin (b,o) (ZO _ (ZO _ (jY hb e)))).1) (λb hb=>?_) w7);obtain⟨o,e,d⟩:=T.obj _ _ st5 b hb;exact(I7.pin (b,o) (ZO _ (ZO _ (jY hb e)))).2.1
  cases f with
  |next=>obtain⟨σ7,H7,I7,n7⟩:=q7;exact again I7 n7
  |cont=>obtain⟨σ7,H7,I7,n7⟩:=q7;exact again I7 n7
  |brk=>obtain⟨σ7,H7,I7,q7⟩:=q7;exact(bM σ7 H7 I7.unpinned q7)
  |ret v=>obtain⟨x7,σ7,H7,I7,r7,q7⟩:=q7;exact(jN x7 σ7 H7 I7.unpinned r7 q7)
end
theorem eY{a:Addr}{xs:List V}{g:TG}{tb:TS}{D:Ends}{σ:St}{H:Hp}(Pv:Nat->St->Hp->Prop)(h0:Pv 0 σ H)(hl:∀i σ H,i<=xs.length->Pv i σ H->SqL H a xs)
  (hs:∀i x σ H,xs[i]?=some x->Pv i σ H->g x σ H λσ2 H2=>tb { D with nx:=Pv (i+1),ct:=Pv (i+1),bk:=D.nx } σ2 H2) (hd:∀σ H,Pv xs.length σ H->D.nx σ H) :
  ∃W:Nat->Nat->St->Hp->Prop,(∃m,W 0 m σ H)/\∀i m σ H,W i m σ H ->
   ((Itl a).stop i H/\D.nx σ H)\/((Itl a).go i H/\∃N:St->Hp->Prop,(!45)/\∀x H',(Itl a).yld i H x H'->g x σ H' λσ2 H2=>tb { D with nx:=N,ct:=N,bk:=D.nx } σ2 H2):=by
 refine(xWP (λi m σ H=>m=xs.length-i/\i<=xs.length/\Pv i σ H) (aM xs.length (!5) (YZ _) h0) ?_);rintro i m σ H ⟨rfl,hi,p⟩;have q:=hl i σ H hi p;by_cases hlt:i<xs.length
 ·refine .inr (fN (bM xs (xs[i]) q (by simp[hlt])) (Pv (i+1)) (λσ' H' p'=>(cC (xs.length-(i+1)) (by omega) rfl hlt p')) (λx H' y=>?_));obtain⟨e,y⟩:=y;subst e;exact hs i x σ _ (y xs q) p
 ·have e:i=xs.length:=by lia
  subst e;exact .inl ⟨(xWP xs q (ZC _)),hd σ H p⟩
theorem cK{lo:Int}{n:Nat}{g:TG}{tb:TS}{D:Ends}{σ:St}{H:Hp}(Pv:Nat->St->Hp->Prop)(h0:Pv 0 σ H)
  (hs:∀i σ H,i<n->Pv i σ H->g (.int (lo+i)) σ H λσ2 H2=>tb { D with nx:=Pv (i+1),ct:=Pv (i+1),bk:=D.nx } σ2 H2) (hd:∀σ H,Pv n σ H->D.nx σ H) :
  ∃W:Nat->Nat->St->Hp->Prop,(∃m,W 0 m σ H)/\∀i m σ H,W i m σ H ->
   ((Itr lo n).stop i H/\D.nx σ H)\/((Itr lo n).go i H/\∃N:St->Hp->Prop,(!45)/\∀x H',(Itr lo n).yld i H x H'->g x σ H' λσ2 H2=>tb { D with nx:=N,ct:=N,bk:=D.nx } σ2 H2):=by
 refine(xWP (λi m σ H=>m=n-i/\i<=n/\Pv i σ H) (aM n (!5) (YZ _) h0) ?_);rintro i m σ H ⟨rfl,hi,p⟩;by_cases hlt:i<n
 ·refine .inr (fN hlt (Pv (i+1)) (λσ' H' p'=>(cC (n-(i+1)) (by omega) rfl hlt p')) (λx H' y=>?_));obtain⟨e,y⟩:=y;subst e y;exact hs i σ _ hlt p
 ·have e:i=n:=by lia
  subst e;exact .inl ⟨ZC _,hd σ H p⟩
abbrev R2:=V->V->Hp->VK->Prop
def OpR(X:Cx)(f:Value->Value->Sem Value)(r:R2):Prop :=
 ∀(pins:List (!16)) (s:Shared) (σ:St) (H:Hp) (x y:V) (v u:Value) (Q:VK),Inv X pins σ H s->RelV x v->RelV y u->r x y H Q ->
  wpAny (!3) X.A (f v u) (EP X pins σ Q) X.xe s
def UnR(X:Cx)(f:Value->Sem Value)(r:V->Hp->VK->Prop):Prop :=
 ∀(pins:List (!16)) (s:Shared) (σ:St) (H:Hp) (x:V) (v:Value) (Q:VK),Inv X pins σ H s->RelV x v->r x H Q ->
  wpAny (!3) X.A (f v) (EP X pins σ Q) X.xe s
def fY(X:Cx)(f:Value)(r:List V->Hp->VK->Prop):Prop :=
 ∀(pins:List (!16)) (s:Shared) (σ:St) (H:Hp) (xs:List V) (us:List Value) (Q:VK),Inv X pins σ H s->bD xs us->r xs H Q ->
  wpAny (!3) X.A (call f us) (EP X pins σ Q) X.xe s
def T8(X:Cx)(r:V->Hp->(Bool->Hp->Prop)->Prop):Prop :=
 ∀(pins:List (!16)) (s:Shared) (σ:St) (H:Hp) (x:V) (v:Value) (Q:Bool->Hp->Prop),Inv X pins σ H s->RelV x v->r x H Q ->
  wpAny (!3) X.A (truthy v) (TP X pins σ Q) X.xe s
def tOp(r:R2)(ta tb:TE):TE:=λσ H Q=>ta σ H λx H1=>tb σ H1 λy H2=>r x y H2 Q
def tUn(r:V->Hp->VK->Prop)(ta:TE):TE:=λσ H Q=>ta σ H λx H1=>r x H1 Q
def rI(C:Int->Int->Prop)(g:Int->Int->V):R2:=λx y H Q=>x.gi λi=>y.gi λj=>C i j/\Q (g i j) H
def rI0(g:Int->Int->V):R2:=λx y H Q=>x.gi λi=>y.gi λj=>Q (g i j) H
def rU(g:Int->V):V->Hp->VK->Prop:=λx H Q=>x.gi λi=>Q (g i) H
section
variable{X:Cx}{a b c:Expr}{ta tb tc:TE}{pos:Pos}
theorem QI(ha:PE X a ta)(hb:PE X b tb){pins:List (!16)}{s:Shared}{σ:St}{H:Hp}{R:V->V->Hp->Prop}(I:Inv X pins σ H s)
  (h:ta σ H λx H1=>tb σ H1 λy H2=>R x y H2) {Q:Value->Shared->Prop}{f:Value->Value->Sem Value}
  (hf:∀v u s2 x y H2,Inv X pins σ H2 s2->RelV x v->RelV y u->R x y H2->wpAny (!3) X.A (f v u) Q X.xe s2) :
  wpAny (!3) X.A (eval a X.env) (λv s₁=>wpAny (!3) X.A (eval b X.env) (λu s₂=>wpAny (!3) X.A (f v u) Q X.xe s₂) X.xe s₁) X.xe s:=by
 refine cW (ha pins s σ H _ I h) λv s1 x H1 I1 r1 q1=>?_;refine cW (hb pins s1 σ H1 _ I1 q1) λu s2 y H2 I2 r2 q2=>?_;exact hf v u s2 x y H2 I2 r1 r2 q2
theorem sC{op:Operator}{r:R2}(ho:OpR X (binaryOp op) r)(ha:PE X a ta)(hb:PE X b tb):PE X (.BinOp a op b pos) (tOp r ta tb):=by
 sleep 2;exact wpAny_BinOp (QI ha hb I h λv u s2 x y H2 I2 rx ry q=>ho pins s2 σ H2 x y v u Q I2 rx ry q)
theorem RK{op:UnaryOp}{r:V->Hp->VK->Prop}(ho:UnR X (unaryOp op) r)(ha:PE X a ta):PE X (.UnaryOp op a pos) (tUn r ta):=by
 sleep 2;exact UnaryOp_ (cW (ha pins s σ H _ I h) λv s1 x H1 I1 r1 q1=>ho pins s1 σ H1 x v Q I1 r1 q1)
theorem opI{f:Value->Value->Sem Value}{C:Int->Int->Prop}{g:Int->Int->Int}
  (rule:∀(i j:Int) (t u:Tok) (s:Shared) (Q:Value->Shared->Prop) (E:Value->Shared->Prop),C i j->Q (.int (g i j) s.toks) { s with toks:=s.toks+1 }->wpAny (!3) X.A (f (.int i t) (.int j u)) Q E s) :
  OpR X f (rI C λi j=>.int (g i j)):=by
 sleep 4;obtain⟨i,rfl,z1⟩:=dC h;obtain⟨j,rfl,z2⟩:=dC z1;obtain⟨hc,q⟩:=z2;sleep 13;obtain⟨t',rfl⟩:=ry;exact rule i j t t' s _ _ hc (aG (.int (g i j)) H (I.tok _) ⟨_,rfl⟩ q)
theorem O9{f:Value->Value->Sem Value}{g:Int->Int->Int}
  (rule:∀(i j:Int) (t u:Tok) (s:Shared) (Q:Value->Shared->Prop) (E:Value->Shared->Prop),Q (.int (g i j) s.toks) { s with toks:=s.toks+1 }->wpAny (!3) X.A (f (.int i t) (.int j u)) Q E s) :
  OpR X f (rI0 λi j=>.int (g i j)):=by
 sleep 4;obtain⟨i,rfl,z1⟩:=dC h;obtain⟨j,rfl,z2⟩:=dC z1;have q:=z2;sleep 13;obtain⟨t',rfl⟩:=ry;exact rule i j t t' s _ _ (aG (.int (g i j)) H (I.tok _) ⟨_,rfl⟩ q)
theorem LR{f:Value->Value->Sem Value}{g:Int->Int->Bool}
  (rule:∀(i j:Int) (t u:Tok) (s:Shared) (Q:Value->Shared->Prop) (E:Value->Shared->Prop),Q (.bool (g i j)) s->wpAny (!3) X.A (f (.int i t) (.int j u)) Q E s) :
  OpR X f (rI0 λi j=>.bl (g i j)):=by
 sleep 4;obtain⟨i,rfl,z1⟩:=dC h;obtain⟨j,rfl,z2⟩:=dC z1;have q:=z2;sleep 13;obtain⟨t',rfl⟩:=ry;exact rule i j t t' s _ _ (aG (.bl (g i j)) H I rfl q)
def UA(i j:Int):Prop:=0<j/\j<1073741824
def NB(i j:Int):Prop:=0<=j/\j<=1000000/\i.natAbs<2 ^ 64
def QO(i j:Int):Prop:=(-(2 ^ 64)<i/\i<2 ^ 64)\/(-(2 ^ 64)<j/\j<2 ^ 64)
theorem QO.ok{i j:Int}(h:QO i j):IntMulOk i j:=by
 rcases h with⟨h1,h2⟩ | ⟨h1,h2⟩
 ·exact .of_left (intBits_le_64 h1 h2)
 ·exact .of_right (intBits_le_64 h1 h2)
theorem aX:OpR X (binaryOp .Add) (rI0 λi j=>.int (i+j)):=O9 λ_ _ _ _ _ _ _ q=>add_int q
theorem O5:OpR X (binaryOp .Sub) (rI0 λi j=>.int (i-j)):=O9 λ_ _ _ _ _ _ _ q=>sub_int q
theorem O6:OpR X (binaryOp .Mult) (rI QO λi j=>.int (i*j)):=opI λ_ _ _ _ _ _ _ hc q=>mul_int q hc.ok
theorem bS:OpR X (binaryOp .FloorDiv) (rI UA λi j=>.int (i / j)):=opI λi j _ _ _ _ _ hc q=>by
 have h1:(0:Int)<j:=hc.1;have h2:j<1073741824:=hc.2;exact floordiv_int (by lia) (by rw[Int.fdiv_eq_ediv_of_nonneg i (by lia)];exact q) (.inl (PyProof.noPylong_small (by omega)))
theorem O7:OpR X (binaryOp .Mod) (rI (λ_ j=>0<j) λi j=>.int (i%j)):=opI λi j _ _ _ _ _ hc q=>by
 have h1:(0:Int)<j:=hc;exact mod_int' (by lia) (by rw[Int.fmod_eq_emod_of_nonneg i (by lia)];exact q)
theorem vR:OpR X (binaryOp .Pow) (rI NB λi j=>.int (i ^ j.toNat)):=opI λ_ _ _ _ _ _ _ hc q=>pow_int_small hc.1 hc.2.1 hc.2.2 q
theorem O4:OpR X (binaryOp .BitXor) (rI0 λi j=>.int (Builtin.bitXor i j)):=O9 λ_ _ _ _ _ _ _ q=>xor_int q
theorem unI{f:Value->Sem Value}{g:Int->Int}
  (rule:∀(i:Int) (t:Tok) (s:Shared) (Q:Value->Shared->Prop) (E:Value->Shared->Prop),Q (.int (g i) s.toks) { s with toks:=s.toks+1 }->wpAny (!3) X.A (f (.int i t)) Q E s) :
  UnR X f (rU λi=>.int (g i)):=by
 intro pins s σ H x v Q I rx h;obtain⟨i,rfl,q⟩:=dC h;sleep 13;exact rule i t s _ _ (aG (.int (g i)) H (I.tok _) ⟨_,rfl⟩ q)
theorem N4:UnR X (unaryOp .USub) (rU λi=>.int (-i)):=unI λ_ _ _ _ _ q=>neg_int q
end
def Q8:V->V->Bool
 |.non,.non=>true | .non,.int _=>true | .int _,.non=>true | .non,.bl _=>true | .bl _,.non=>true | .non,.str _=>true | .str _,.non=>true
 |.int _,.int _=>true | .bl _,.bl _=>true | .str _,.str _=>true | .byt _,.byt _=>true
 |.int _,.str _=>true | .str _,.int _=>true | .bl _,.str _=>true | .str _,.bl _=>true
 |_,_=>false
def rEq:R2:=λx y H Q=>Sc (Q8 x y) <| Q (.bl (decide (x=y))) H
def rNe:R2:=λx y H Q=>Sc (Q8 x y) <| Q (.bl (!decide (x=y))) H
theorem C3{i j:Int}:decide (V.int i=V.int j)=(i==j):=by
 rw[Xh];simp
theorem JL{i j:Bool}:decide (V.bl i=V.bl j)=(i==j):=by
 rw[Xh];simp
theorem C2{i j:Str}:decide (V.str i=V.str j)=(i==j):=by
 rw[Xh];simp
theorem C4{i j:Array UInt8}:decide (V.byt i=V.byt j)=(i.toList==j.toList):=by
 rw[Xh];cases i;cases j;simp
section
variable{X:Cx}{a b c:Expr}{ta tb tc:TE}{pos:Pos}
theorem bU{pins:List (!16)}{σ:St}{H:Hp}{s:Shared}{Q:VK}{k k':Bool}(I:Inv X pins σ H s)(q:Q (.bl k) H)(e:k=k'):EP X pins σ Q (.bool k') s:=by
 subst e;exact(aG (.bl k) H I rfl q)
theorem dF:OpR X (compareOp .Eq) rEq:=by
 sleep 4;obtain⟨hs,q⟩:=NZ h;cases x with
 |non =>
  cases rx;cases y with
  |non=>cases ry;exact PySem.EqNone.eq_none_none (bU I q (!5))
  |bl j=>cases ry;exact PySem.EqNone.eq_none_bool (bU I q (!5))
  |int j=>obtain⟨t',rfl⟩:=ry;exact PySem.EqNone.eq_none_int (bU I q (!5))
  |str j=>obtain⟨t',rfl⟩:=ry;exact PySem.EqNone.eq_none_str (bU I q (!5))
  |_=>exact Yg (show false=true from hs) YT
 |bl i =>
  cases rx;cases y with
  |non=>cases ry;exact PySem.EqNone.eq_bool_none (bU I q (!5))
  |bl j=>cases ry;exact eq_bool (bU I q JL)
  |str j=>obtain⟨t',rfl⟩:=ry;exact PySem.EqMixed.eq_bool_str (bU I q (!5))
  |_=>exact Yg (show false=true from hs) YT
 |int i =>
  sleep 13;cases y with
  |non=>cases ry;exact PySem.EqNone.eq_int_none (bU I q (!5))
  |int j=>obtain⟨t',rfl⟩:=ry;exact eq_int (bU I q C3)
  |str j=>obtain⟨t',rfl⟩:=ry;exact PySem.EqMixed.eq_int_str (bU I q (!5))
  |_=>exact Yg (show false=true from hs) YT
 |str i =>
  sleep 13;cases y with
  |non=>cases ry;exact PySem.EqNone.eq_str_none (bU I q (!5))
  |bl j=>cases ry;exact PySem.EqMixed.eq_str_bool (bU I q (!5))
  |int j=>obtain⟨t',rfl⟩:=ry;exact PySem.EqMixed.eq_str_int (bU I q (!5))
  |str j=>obtain⟨t',rfl⟩:=ry;exact eq_str (bU I q C2)
  |_=>exact Yg (show false=true from hs) YT
 |byt i =>
  sleep 13;cases y with
  |byt j=>obtain⟨t',rfl⟩:=ry;exact PySem.W.eq_bytes (bU I q C4)
  |_=>exact Yg (show false=true from hs) YT
 |_=>cases y<;>exact Yg (show false=true from hs) YT
theorem fX:OpR X (compareOp .NotEq) rNe:=by
 sleep 4;obtain⟨hs,q⟩:=NZ h;cases x with
 |non =>
  cases rx;cases y with
  |non=>cases ry;exact PySem.EqNone.ne_none_none (bU I q (!5))
  |bl j=>cases ry;exact PySem.EqNone.ne_none_bool (bU I q (!5))
  |int j=>obtain⟨t',rfl⟩:=ry;exact PySem.EqNone.ne_none_int (bU I q (!5))
  |str j=>obtain⟨t',rfl⟩:=ry;exact PySem.EqNone.ne_none_str (bU I q (!5))
  |_=>exact Yg (show false=true from hs) YT
 |bl i =>
  cases rx;cases y with
  |non=>cases ry;exact PySem.EqNone.ne_bool_none (bU I q (!5))
  |bl j=>cases ry;exact ne_bool (bU I q (congrArg not JL))
  |str j=>obtain⟨t',rfl⟩:=ry;exact PySem.EqMixed.ne_bool_str (bU I q (!5))
  |_=>exact Yg (show false=true from hs) YT
 |int i =>
  sleep 13;cases y with
  |non=>cases ry;exact PySem.EqNone.ne_int_none (bU I q (!5))
  |int j=>obtain⟨t',rfl⟩:=ry;exact ne_int (bU I q (congrArg not C3))
  |str j=>obtain⟨t',rfl⟩:=ry;exact PySem.EqMixed.ne_int_str (bU I q (!5))
  |_=>exact Yg (show false=true from hs) YT
 |str i =>
  sleep 13;cases y with
  |non=>cases ry;exact PySem.EqNone.ne_str_none (bU I q (!5))
  |bl j=>cases ry;exact PySem.EqMixed.ne_str_bool (bU I q (!5))
  |int j=>obtain⟨t',rfl⟩:=ry;exact PySem.EqMixed.ne_str_int (bU I q (!5))
  |str j=>obtain⟨t',rfl⟩:=ry;exact ne_str (bU I q (congrArg not C2))
  |_=>exact Yg (show false=true from hs) YT
 |byt i =>
  sleep 13;cases y with
  |byt j=>obtain⟨t',rfl⟩:=ry;exact PySem.W.ne_bytes (bU I q (congrArg not C4))
  |_=>exact Yg (show false=true from hs) YT
 |_=>cases y<;>exact Yg (show false=true from hs) YT
theorem lT:OpR X (compareOp .Lt) (rI0 λi j=>.bl (decide (i<j))):=LR λ_ _ _ _ _ _ _ q=>lt_int q
theorem lU:OpR X (compareOp .LtE) (rI0 λi j=>.bl (decide (i<=j))):=LR λ_ _ _ _ _ _ _ q=>le_int q
theorem HI:OpR X (compareOp .Gt) (rI0 λi j=>.bl (decide (j<i))):=LR λ_ _ _ _ _ _ _ q=>gt_int q
theorem RO:OpR X (compareOp .GtE) (rI0 λi j=>.bl (decide (j<=i))):=LR λ_ _ _ _ _ _ _ q=>ge_int q
theorem jX:OpR X (compareOp .Is) (λx y H Q=>y=.non/\Q (.bl (decide (x=.non))) H):=by
 sleep 4;obtain⟨rfl,q⟩:=h;cases ry;refine is_none_gen (bU I q ?_);cases x<;>first
  |(cases rx;rfl)
  |(obtain⟨t,rfl⟩:=rx;rfl)
theorem jW:OpR X (compareOp .IsNot) (λx y H Q=>y=.non/\Q (.bl (!decide (x=.non))) H):=by
 sleep 4;obtain⟨rfl,q⟩:=h;cases ry;refine isnot_none_gen (bU I q ?_);cases x<;>first
  |(cases rx;rfl)
  |(obtain⟨t,rfl⟩:=rx;rfl)
theorem iI(b:Expr){op:CmpOp}(h:op≠.In:=by decide)(h2:op≠.NotIn:=by decide):behindInMarks op b=false:=by
 have e1:(op==CmpOp.In)=false:=by cases op<;>first | rfl | exact Yg rfl h
 have e2:(op==CmpOp.NotIn)=false:=by cases op<;>first | rfl | exact Yg rfl h2
 cases b<;>simp[behindInMarks,e1,e2]
theorem CF{op:CmpOp}{r:R2}(ho:OpR X (compareOp op) r)(ha:PE X a ta)(hb:PE X b tb)(hm:behindInMarks op b=false):PE X (.Compare a [op] [b] pos) (tOp r ta tb):=by
 sleep 2;exact wpAny_Compare1 (QI ha hb I h λv u s2 x y H2 I2 rx ry q=>ho pins s2 σ H2 x y v u Q I2 rx ry q) hm
def xC(t:TE):TT:=λσ H Q=>t σ H λx H'=>x.gb λk=>Q k H'
theorem dQ{op:CmpOp}{r:R2}(ho:OpR X (compareOp op) r)(ha:PE X a ta)(hb:PE X b tb)(hm:behindInMarks op b=false):PT X (.Compare a [op] [b] pos) (xC (tOp r ta tb)):=by
 sleep 2;refine wpAny_isTrue_Compare1 (cW (ha pins s σ H _ I h) λv s1 x H1 I1 r1 q1=>cW (hb pins s1 σ H1 _ I1 q1) λu s2 y H2 I2 r2 q2 =>
  cW (ho pins s2 σ H2 x y v u _ I2 r1 r2 q2) λc s3 z H3 I3 r3 zz=>?_) hm
 obtain⟨k,e,q3⟩:=i5 zz;subst e;cases r3;exact wpAny_truthy_bool (xWP H3 I3 q3)
def rJ(r r':R2)(ta tb tc:TE):TE:=λσ H Q=>ta σ H λx H1=>tb σ H1 λy H2=>r x y H2 λz H3=>z.gb λk =>
 If k (tc σ H3 λw' H4=>r' y w' H4 Q) (Q (.bl false) H3)
theorem xP{op op':CmpOp}{r r':R2}(ho:OpR X (compareOp op) r)(ho':OpR X (compareOp op') r')(ha:PE X a ta)(hb:PE X b tb)(hc:PE X c tc)
  (hm:lastMarks [op,op'] [b,c]=false:=by with_unfolding_all rfl):PE X (.Compare a [op,op'] [b,c] pos) (rJ r r' ta tb tc):=by
 sleep 2;refine Compare_chain (cW (ha pins s σ H _ I h) λv s1 x H1 I1 r1 q1=>chain_link (cW (hb pins s1 σ H1 _ I1 q1) λu s2 y H2 I2 r2 q2 =>
  cW (ho pins s2 σ H2 x y v u _ I2 r1 r2 q2) λd s3 z H3 I3 r3 zz=>?_)) hm
 obtain⟨k,e,q3⟩:=i5 zz;subst e;cases r3;refine wpAny_truthy_bool ?_;cases k with
 |false=>exact ite_ff (aG (.bl false) H3 I3 rfl (q3.f rfl))
 |true=>exact ite_tt (chain_last (thn (hc pins s3 σ H3 _ I3 (q3.t rfl)) λw' s4 ⟨z',H4,I4,r4,q4⟩=>ho' pins s4 σ H4 y z' u w' Q I4 r2 r4 q4))
theorem kI{op op':CmpOp}{r r':R2}(ho:OpR X (compareOp op) r)(ho':OpR X (compareOp op') r')(ha:PE X a ta)(hb:PE X b tb)(hc:PE X c tc)
  (hm:lastMarks [op,op'] [b,c]=false:=by with_unfolding_all rfl):PT X (.Compare a [op,op'] [b,c] pos) (xC (rJ r r' ta tb tc)):=by
 sleep 2;refine isTrue_chain (cW (ha pins s σ H _ I h) λv s1 x H1 I1 r1 q1=>test_link (cW (hb pins s1 σ H1 _ I1 q1) λu s2 y H2 I2 r2 q2 =>
  cW (ho pins s2 σ H2 x y v u _ I2 r1 r2 q2) λd s3 z H3 I3 r3 zz=>?_)) hm
 obtain⟨k,e,q3⟩:=i5 zz;subst e;cases r3;refine wpAny_truthy_bool ?_;cases k with
 |false =>
  obtain⟨k',e',z1⟩:=i5 (q3.f rfl);have q':=z1;cases e';exact ite_ff (xWP H3 I3 q')
 |true =>
  refine ite_tt (test_last (thn (hc pins s3 σ H3 _ I3 (q3.t rfl)) λw' s4 ⟨z',H4,I4,r4,q4⟩=>thn (ho' pins s4 σ H4 y z' u w' _ I4 r2 r4 q4) λd' s5 ⟨z2,H5,I5,r5,zy⟩=>?_));obtain⟨k2,e2,q5⟩:=i5 zy;subst e2;cases r5;exact wpAny_truthy_bool (xWP H5 I5 q5)
def SF(x:V)(H:Hp)(k:Bool):Prop :=
 match x with
 |.non=>k=false
 |.bl b=>k=b
 |.int i=>k=(i != 0)
 |.str y=>y.length<=ZW/\k=((y.length:Int) != 0)
 |.byt y=>y.size<=ZW/\k=((y.size:Int) != 0)
 |.ref p=>(∃xs,SqL H p xs/\k=!xs.isEmpty)\/(∃xs,SqT H p xs/\k=!xs.isEmpty)\/∃kvs,H p=some (.dK kvs)/\k=!kvs.isEmpty
 |_=>False
theorem AZ{κ:Type}{kvs:List (κ×V)}{vs:List (κ×Value)}(r:KV kvs vs):(!vs.isEmpty)=!kvs.isEmpty:=by
 cases r<;>rfl
theorem sU{xs:List V}{its:List Value}(r:bD xs its):(!its.toArray.isEmpty)=!xs.isEmpty:=by
 cases r<;>simp
theorem jZ:(ZW:Nat)<2 ^ 63:=by rw[sizeLine_eq];decide
theorem N5:T8 X (λx H Q=>∃k,SF x H k/\Q k H):=by
 intro pins s σ H x v Q I rx h;obtain⟨k,e,q⟩:=h;have hl:=jZ;have hs:ZW=16777216:=sizeLine_eq;cases x with
 |non =>
  cases rx;have e':k=false:=e;subst e';exact truthy_none (xWP H I q)
 |bl b =>
  cases rx;have e':k=b:=e;subst e';exact wpAny_truthy_bool (xWP H I q)
 |int i =>
  sleep 13;have e':k=(i != 0):=e;subst e';exact PySem.P.truthy_int (xWP H I q)
 |str y =>
  sleep 13;obtain⟨hy,e'⟩:y.length<=ZW/\k=((y.length:Int) != 0):=e;subst e';exact PySem.P.truthy_str (by lia) (xWP H (I.tok _) q)
 |byt y =>
  sleep 13;obtain⟨hy,e'⟩:y.size<=ZW/\k=((y.size:Int) != 0):=e;subst e';exact PySem.W.truthy_bytes (by lia) (xWP H (I.tok _) q)
 |ref p =>
  cases rx;have e':(∃xs,SqL H p xs/\k=!xs.isEmpty)\/(∃xs,SqT H p xs/\k=!xs.isEmpty)\/∃kvs,H p=some (.dK kvs)/\k=!kvs.isEmpty:=e;rcases e' with⟨xs,hx,e'⟩ | ⟨xs,hx,e'⟩ | ⟨kvs,hx,e'⟩
  ·subst e';obtain⟨its,r,pl,hz⟩:=I.list hx;have hlen:=r.length;exact wpAny_truthy_list pl.isList (by simp only[ZF];lia) (xWP H (I.tok _) (by rw[sU r];exact q))
  ·subst e';obtain⟨its,r,pl,hz⟩:=I.tuple hx;have hlen:=r.length;exact truthy_tuple pl (by simp only[ZF];lia) (xWP H (I.tok _) (by rw[sU r];exact q))
  ·subst e';obtain⟨hz,hS,vs,r,m⟩:kvs.length<=ZW/\(p==sysModules)=false/\∃vs,KV kvs vs/\s.heap.DictOf (cQ X.prog X.w) p vs:=I.hok p _ hx;have hlen:kvs.length=vs.length:=Paired.length r;exact wpAny_truthy_dict hS m (by lia) (xWP H (I.tok _) (by rw[AZ r];exact q))
 |_=>exact(show False from e).elim
theorem bT(ha:PE X a ta)(he:∀whole,isTrue a X.env whole=(do let v <-whole;standAt a.pos;holding [v] (truthy v))) :
  PT X a (λσ H Q=>ta σ H λx H'=>∃k,SF x H' k/\Q k H'):=by
 sleep 2;exact isTrue_plain (cW (ha pins s σ H _ I h) λv s1 x H1 I1 r1 q1=>N5 pins s1 σ H1 x v Q I1 r1 q1) (he _)
theorem vals1{x:V}{us:List Value}(r:bD [x] us):∃u,us=[u]/\RelV x u:=by
 cases r with
 |cons r1 r2=>cases r2;exact(xWP _ rfl r1)
theorem vals2{x y:V}{us:List Value}(r:bD [x,y] us):∃u w',us=[u,w']/\RelV x u/\RelV y w':=by
 cases r with
 |cons r1 r2 =>
  cases r2 with
  |cons r3 r4=>cases r4;exact(aG _ _ rfl r1 r3)
theorem uX(hc:X.calm=true):fY X (.builtin "min") (λxs H Q=>∃i j,xs=[.int i,.int j]/\Q (.int (if j<i then j else i)) H):=by
 sleep 3;obtain⟨i,j,rfl,q⟩:=h;obtain⟨u,w',rfl,⟨t,rfl⟩,⟨t',rfl⟩⟩:=vals2 r;refine min_two_ints (I.ok.hd hc) λh' tk k=>(aG _ H (I.kept k) ?_ q)
 by_cases hj:j<i
 ·rw[Yb hj,Yb hj];exact⟨_,rfl⟩
 ·rw[Ya hj,Ya hj];exact⟨_,rfl⟩
theorem iB:fY X (.type "int") (λxs H Q=>(∃i,xs=[.int i]/\Q (.int i) H)\/∃k,xs=[.bl k]/\Q (.int (if k then 1 else 0)) H):=by
 sleep 3;rcases h with⟨i,rfl,q⟩ | ⟨k,rfl,q⟩
 ·obtain⟨u,rfl,t,rfl⟩:=vals1 r;exact call_int_int (aG (.int i) H I ⟨_,rfl⟩ q)
 ·obtain⟨u,rfl,r1⟩:=vals1 r;cases r1;exact call_int_bool (aG (.int (if k then 1 else 0)) H (I.tok _) ⟨_,rfl⟩ q)
end
structure E9(h:Heap)(x dx C:Addr)(mA:Str->Option Value):Prop where
 obj:h.get? x=some (PySem.W.instObj C dx)
 ns:h.Ns1 dx mA
 ne:dx≠x
theorem ER{h:Heap}{dx:Addr}{mA:Str->Option Value}(n:h.Ns1 dx mA):∃od,h.get? dx=some od/\∀name,PySem.W.lookIn name od=some (mA name):=by
 obtain⟨o,es,ep,ho,hd,hk,_,hm⟩:=n;refine(xWP o ho (λname=>?_));have e:=hm name;unfold nsFind findBy at e;rw[<-Array.find?_toList]at e;unfold PySem.W.lookIn;rw[hd];dsimp only;split
 ·rename_i y q
  rw[q]at e;exact congrArg some e
 ·rename_i q
  rw[q]at e;have a:es.toList.any (·.refKey)=false:=by
   rw[List.any_eq_false];intro y hy;obtain⟨z,t,hkey⟩:=hk y (Array.mem_toList_iff.mp hy);simp[DictEntry.refKey,hkey]
  have a':¬es.toList.any (·.refKey)=true:=by rw[a];exact YT
  rw[Ya a'];exact congrArg some e
theorem E9.look{h:Heap}{x dx C:Addr}{mA:Str->Option Value}(I:E9 h x dx C mA):∃od,PySem.W.InstAt h x (PySem.W.instObj C dx) C (some od)/\∀name,PySem.W.lookIn name od=some (mA name) :=
 let⟨od,ho,hl⟩:=ER I.ns
 (xWP od ⟨I.obj,rfl,rfl,ho⟩ hl)
section
variable{prog:Program}{w:World}{A:Around}{E:Value->Shared->Prop}{s:Shared}{K:PySem.W.Frag}{x dx C f:Addr}{mA:Str->Option Value}{name:Str}{v:Value}
theorem get_map{expr:Bool}{Q:Value->Shared->Prop}(X:K.In s.heap)(I:E9 s.heap x dx C mA)(hg:PySem.W.plainGet K C name=true)(hh:PySem.W.hasDictIn K C=true)
  (ha:PySem.W.findIn K (.ref C) name=some none) (hv:mA name=some v) (hv':PySem.W.handedIn v=true) (h:Q v { s with toks:=s.toks+1 }) :
  wpAny (!17) A (getAttr (.ref x) name expr) Q E s:=by
 obtain⟨od,J,hl⟩:=I.look;exact PySem.W.get_value X J (PySem.W.plainGet_of hg).1 (PySem.W.findObj_own hh ha rfl (by rw[hl,hv])) hv' h
theorem K3{ns:List Str}{Q:Unit->Shared->Prop}(X:K.In s.heap)(I:E9 s.heap x dx C mA)
  (hs:PySem.W.findIn K (.ref C) "__setattr__" = some (some (.builtin "object.__setattr__"))) (hp:PySem.W.plainOver K C=true) (ht:PySem.W.takerIn K C name=some none) (hh:PySem.W.hasDictIn K C=true)
  (hw:PySem.Within mA ns) (hsz:ns.length<=ZW)
  (h:∀h',E9 h' x dx C (λy=>if y=name then some v else mA y)->Heap.SameBut dx s.heap h'->Q () { s with heap:=h',toks:=s.toks+2 }) :
  wpAny (!17) A (setAttr (.ref x) name v) Q E s:=by
 obtain⟨od,J,hl⟩:=I.look;refine PySem.W.set_plain X J hs (PySem.W.osa_open (s:={ s with toks:=s.toks+1 }) (r:=none) X J hp ht λb=>?_);obtain⟨cd,hc,hd'⟩:=PySem.W.any_some hh;have hx:s.heap.get? x=some ⟨.ref C,some dx,.plain,#[]⟩:=I.obj;refine ZZ (ZY (ZZ (ZZ (wpAny_loadPart hx (ZZ (PySem.W.Looks.here (s:={ s with toks:=s.toks+1 }) (PySem.W.looks_clsIn X hc) ?_))))));rw[hd'];refine ZY (a:=some dx) (ZZ (ZY (ZZ ?_)));refine wpAny_nsSet1 (s:={ s with toks:=s.toks+1 }) I.ns λh' hn2 hs2=>?_;obtain⟨oD,esD,epD,hoD,hdD,hcD⟩:=hn2.count (PySem.Within.cons name v hw);refine ZZ (wpAny_lookBehind hoD (by rw[hdD];exact pastItsLine_dict (YQ hcD (by rw[Yq];lia))) ?_);exact ZY (h _ ⟨(hs2.2 _ (Yh I.ne)).trans I.obj,hn2,I.ne⟩ hs2)
theorem IK{R:Result->Shared->Prop}{vs:List Value}{kw:List (Str×Value)}(X:K.In s.heap)(hm:PySem.W.makesIn K C=true)
  (hi:PySem.W.findIn K (.ref C) "__init__" = some (some (.ref f))) (hf:PySem.W.typeIn K (.ref f)=some (.type "function"))
  (h:codeAny (!17) (A.under (.builtin "type.__call__" ⟨.ref C::vs,kw⟩)) (.call (.ref f) ⟨.ref (!22)::vs,kw⟩) (PySem.W.InitBack (!22) R)
   { s with heap:=(s.heap.push PySem.W.emptyDict).push (PySem.W.instObj C s.heap.objs.size) }) :
  codeAny (!17) A (.call (.ref C) ⟨vs,kw⟩) R s:=by
 obtain⟨hh,g,d,t,os⟩:=s;exact PySem.W.make_core (PySem.W.makes_of X hm) (PySem.W.looks_findIn X hi) (λself=>PySem.W.bind_fn X self hf) (.inl rfl) h
end
def bB(f:Str)(v:V):List (Str×V)->List (Str×V)
 |[]=>[(f,v)]
 |(g,x)::r=>if g=f then (g,v)::r else (g,x)::bB f v r
theorem a9(f g:Str)(v:V):∀fs:List (Str×V),(bB f v fs).lookup g=if g=f then some v else fs.lookup g
 |[]=>by
  show List.lookup g [(f,v)]=_;by_cases h:g=f
  ·have hb:(g==f)=true:=beq_iff_eq.mpr h;simp only[List.lookup,hb,Yb h]
  ·have hb:(g==f)=false:=beq_eq_false_iff_ne.mpr h;simp only[List.lookup,hb,Ya h]
 |(k,x)::r=>by
  have ih:=a9 f g v r;rw[show bB f v ((k,x)::r)=(if k=f then (k,v)::r else (k,x)::bB f v r) from rfl];by_cases hk:k=f
  ·rw[Yb hk];by_cases h:g=k
   ·have hb:(g==k)=true:=beq_iff_eq.mpr h;simp only[List.lookup,hb,Yb (h.trans hk)]
   ·have hb:(g==k)=false:=beq_eq_false_iff_ne.mpr h;simp only[List.lookup,hb,Ya (λe:g=f=>h (e.trans hk.symm))]
  ·rw[Ya hk];by_cases h:g=k
   ·have hb:(g==k)=true:=beq_iff_eq.mpr h;simp only[List.lookup,hb,Ya (λe:g=f=>hk (h.symm.trans e))]
   ·have hb:(g==k)=false:=beq_eq_false_iff_ne.mpr h;simp only[List.lookup,hb];exact ih
theorem oU(f:Str)(v:V):∀fs:List (Str×V),f∈(bB f v fs).map (·.1)/\∀g,g∈fs.map (·.1)->g∈(bB f v fs).map (·.1)
 |[]=>⟨by simp[bB],λg h=>by simp at h⟩
 |(k,x)::r=>by
  obtain⟨i1,i2⟩:=oU f v r;rw[show bB f v ((k,x)::r)=(if k=f then (k,v)::r else (k,x)::bB f v r) from rfl];by_cases hk:k=f
  ·rw[Yb hk];subst hk;exact⟨by simp,λg h=>by simpa using h⟩
  ·rw[Ya hk];refine⟨?_,λg h=>?_⟩
   ·rw[ZJ];exact Zw _ i1
   ·rw[ZJ]at h ⊢;rcases Zn.mp h with e | e
    ·exact Zn.mpr (.inl e)
    ·exact Zw _ (i2 g e)
theorem pJ(f:Str)(v:V):∀fs:List (Str×V),(bB f v fs).length<=fs.length+1
 |[]=>by simp[bB]
 |(k,x)::r=>by
  have ih:=pJ f v r;rw[show bB f v ((k,x)::r)=(if k=f then (k,v)::r else (k,x)::bB f v r) from rfl];by_cases hk:k=f
  ·rw[Yb hk,Yq,Yq];lia
  ·rw[Ya hk,Yq,Yq];lia
theorem j7{v:V}{o:Option Value}(r:wU (some v) o):∃u,o=some u/\RelV v u:=by
 cases o with
 |none=>exact(show False from r).elim
 |some u=>exact(xWP u rfl r)
theorem EZ{v:V}{u:Value}(r:RelV v u):PySem.W.handedIn u=true:=by
 cases v with
 |non=>cases (show u=Value.none from r);rfl
 |bl b=>cases (show u=Value.bool b from r);rfl
 |int i=>obtain⟨t,e⟩:=(show ∃t,u=Value.int i t from r);cases e;rfl
 |str x=>obtain⟨t,e⟩:=(show ∃t,u=Value.str x t from r);cases e;rfl
 |byt b=>obtain⟨t,e⟩:=(show ∃t,u=Value.bytes b t from r);cases e;rfl
 |flt b=>obtain⟨t,e⟩:=(show ∃t,u=Value.float b t from r);cases e;rfl
 |ref a=>cases (show u=Value.ref a from r);rfl
 |ty n=>cases (show u=Value.type n from r);rfl
section
variable{P:Program}{w:World}{H H':Hp}{h h':Heap}{a C dx:Addr}{fs fs':List (Str×V)}
theorem nK(hok:HOk P w H h)(e:H a=some (.ins C dx fs)):∃mA,E9 h a dx C mA/\(∀f,wU (fs.lookup f) (mA f))/\PySem.Within mA (fs.map (·.1))/\fs.length<=1000/\H dx=some (.own a):=by
 obtain⟨d,z,ne,ob,mA,n,r,q⟩:=(show cD P w H h a (.ins C dx fs) from hok a _ e)
 exact(gO mA ⟨ob,n,ne⟩ r q z d)
end
structure Cls(K:PySem.W.Frag)(C:Addr):Prop where
 pg:PySem.W.plainGet K C Str.empty=true
 hd:PySem.W.hasDictIn K C=true
 po:PySem.W.plainOver K C=true
 sa:PySem.W.findIn K (.ref C) "__setattr__" = some (some (.builtin "object.__setattr__"))
theorem Cls.get{K:PySem.W.Frag}{C:Addr}(c:Cls K C)(f:Str):PySem.W.plainGet K C f=true:=c.pg
def iL(K:PySem.W.Frag)(C:Addr)(f:Str):Prop:=PySem.W.findIn K (.ref C) f=some none
theorem iL.taker{K:PySem.W.Frag}{C:Addr}{f:Str}(n:iL K C f):PySem.W.takerIn K C f=some none:=by
 unfold PySem.W.takerIn;rw[show PySem.W.findIn K (.ref C) f=some none from n];rfl
section
variable{X:Cx}{pins:List (!16)}{σ:St}{H:Hp}{s:Shared}{a C dx:Addr}{fs:List (Str×V)}{f:Str}{v:V}{A:Around}{E:Value->Shared->Prop}
theorem A2{b:Bool}{Q:Value->Shared->Prop}(I:Inv X pins σ H s)(e:H a=some (.ins C dx fs))(c:Cls X.K C)(n:iL X.K C f)(l:fs.lookup f=some v)
  (h:∀u s',Inv X pins σ H s'->RelV v u->Q u s'):wpAny (!3) A (getAttr (.ref a) f b) Q E s:=by
 obtain⟨mA,O,r,_,_,_⟩:=nK I.hok e;obtain⟨u,hu,ru⟩:=j7 (v:=v) (o:=mA f) (by rw[<-l];exact r f);exact get_map I.kIn O (c.get f) c.hd n hu (EZ ru) (h u _ (I.tok _) ru)
theorem z6{y:V}{u:Value}{Q:Unit->Shared->Prop}(I:Inv X pins σ H s)(e:H a=some (.ins C dx fs))(c:Cls X.K C)(n:iL X.K C f)(hl:fs.length<1000)(ry:RelV y u)
  (h:∀s',Inv X pins σ (upd H a (.ins C dx (bB f y fs))) s'->Q () s'):wpAny (!3) A (setAttr (.ref a) f u) Q E s:=by
 obtain⟨mA,O,r,wi,_,ho⟩:=nK I.hok e;have hz:(fs.map (·.1)).length<=ZW:=by rw[Zq,sizeLine_eq];lia
 refine K3 I.kIn O c.sa c.po n.taker c.hd wi hz λh' O' sb=>h _ ?_;have hd:∃o,h'.get? dx=some o:=let⟨o,_,_,e',_⟩:=O'.ns;⟨o,e'⟩;refine I.write (x:=a) (e:=dx) (by rw[e];exact True.intro) (.inr ho) (λb q hb z=>(sb.2 b hb).trans z) hd ?_;refine(wZ (by rw[aH O.ne];exact ho) ?_ O.ne O'.obj _ O'.ns (λg=>?_) (λg hg=>?_))
 ·have:=pJ f y fs;lia
 ·show wU ((bB f y fs).lookup g) (if g=f then some u else mA g);rw[a9];by_cases q:g=f
  ·rw[Yb q,Yb q];exact ry
  ·rw[Ya q,Ya q];exact r g
 ·by_cases q:g=f
  ·rw[q];exact(oU f y fs).1
  ·refine(oU f y fs).2 g (wi g λz=>hg ?_);show(if g=f then some u else mA g)=none;rw[Ya q];exact z
theorem J5(I:Inv X pins σ H s):Inv X pins σ (upd (upd H s.heap.objs.size (.own (!22))) (!22) (.ins C s.heap.objs.size []))
  { s with heap:=(s.heap.push PySem.W.emptyDict).push (PySem.W.instObj C s.heap.objs.size) }:=by
 have e1:(s.heap.push PySem.W.emptyDict).get? s.heap.objs.size=some PySem.W.emptyDict:=YU s.heap rfl;have e2:((s.heap.push PySem.W.emptyDict).push (PySem.W.instObj C s.heap.objs.size)).get? (!22)=some (PySem.W.instObj C s.heap.objs.size):=by
  have:=YU (s.heap.push PySem.W.emptyDict) (o:=PySem.W.instObj C s.heap.objs.size) rfl
  rwa [Heap.size_push]at this
 have e3:(s.heap.push PySem.W.emptyDict).Ns s.heap.objs.size (λ_=>none):=(cI PySem.W.emptyDict (#[]) _ e1 rfl (λe he=>Yg he (!5)) (λ_=>rfl))
 have I1:=I.laid (a:=s.heap.objs.size) (o:=.own (!22)) (h':=s.heap.push PySem.W.emptyDict) (t':=s.toks) (λb u q=>YW _ q) (ZC _) ⟨_,e1⟩;refine I1.laid (a:=s.heap.objs.size+1) (o:=.ins C s.heap.objs.size []) (t':=s.toks) (λb u q=>YW _ q) (Nat.le_of_eq (Heap.size_push _ _)) ?_;have ne:s.heap.objs.size≠s.heap.objs.size+1:=ZA (Nat.lt_succ_self _);refine(wZ (by rw[aH ne,aB]) (YZ _) ne e2 (λ_=>none) ((Heap.Ns1.of_empty e3).at λo q=>YW _ q) (λ_=>True.intro) (λy hy=>Yg rfl hy))
theorem M5{prog:Program}{w:World}{env:Env}{e:Expr}{f:Str}{pos:Pos}{s:Shared}{Q:Value->Shared->Prop}(hb:attributeBase e f env (eval e env)=eval e env)
  (h:wpAny (!17) A (eval e env) (λo s₁=>wpAny (!17) A (getAttr o f true) Q E s₁) E s):wpAny (!17) A (eval (.Attribute e f pos) env) Q E s :=
 Attribute_any_ h (by rw[arm_eval_Attribute,hb])
end
def SX(K:PySem.W.Frag)(ta:TE)(f:Str):TE:=λσ H Q=>ta σ H λx H1=>x.gr λa=>∃C dx fs v,H1 a=some (.ins C dx fs)/\Cls K C/\iL K C f/\fs.lookup f=some v/\Q v H1
def S9(K:PySem.W.Frag)(ta tv:TE)(f:Str):TS:=λD σ H=>tv σ H λy H1=>ta σ H1 λx H2=>x.gr λa=>∃C dx fs,H2 a=some (.ins C dx fs)/\Cls K C/\iL K C f/\fs.length<1000 /\
 D.nx σ (upd H2 a (.ins C dx (bB f y fs)))
section
variable{X:Cx}{o e value:Expr}{f:Str}{pos pos' tpos:Pos}{ta tv:TE}
theorem dH(he:PE X e ta)(hb:attributeBase e f X.env (eval e X.env)=eval e X.env):PE X (.Attribute e f pos) (SX X.K ta f):=by
 sleep 2;refine M5 hb (cW (he pins s σ H _ I h) λu s1 x H1 I1 rx zz=>?_);obtain⟨a,ex,C,dx,fs,v,ea,c,n,l,q⟩:=bV zz;subst ex;obtain rfl:u=Value.ref a:=rx;exact A2 I1 ea c n l λu' s2 I2 ru=>(aG v H1 I2 ru q)
theorem rY(ha:PE X o ta)(hv:PE X value tv)(hs:swapsWith value (some (.Attribute o f pos')) pos.line X.env=pure false):PS X (.Assign [.Attribute o f pos'] value pos) (S9 X.K ta tv f):=by
 sleep 9;refine plainObj_wpAny_Assign_Attribute (cW (hv pins s σ H _ I h) λu s1 y H1 I1 ry q=>cW (ha pins s1 σ H1 _ I1 q) λov s2 x H2 I2 rx zz=>?_) hs;obtain⟨a,ex,C,dx,fs,ea,c,n,l,q2⟩:=bV zz;subst ex;obtain rfl:ov=Value.ref a:=rx;exact z6 I2 ea c n l ry λs3 I3=>(bM σ _ I3 q2)
end
section
variable{X:Cx}{pins:List (!16)}{σ:St}{H:Hp}{s:Shared}{A:Around}{E:Value->Shared->Prop}{Q:Value->Shared->Prop}{c:Value}{b:Bool}
inductive pC(K:PySem.W.Frag)(H:Hp):V->Value->Prop where
 |non:pC K H .non (.type "NoneType")
 |bl (x:Bool):pC K H (.bl x) (.type "bool")
 |int (i:Int):pC K H (.int i) (.type "int")
 |str (x:Str):pC K H (.str x) (.type "str")
 |flt (x:UInt64):pC K H (.flt x) (.type "float")
 |lst {a:Addr}{xs:List V}(e:H a=some (.lst xs)):pC K H (.ref a) (.type "list")
 |frz {a:Addr}{o:Obj}{xs:List V}(e:H a=some (.frz o (.lst xs))):pC K H (.ref a) (.type "list")
 |tup {a:Addr}{xs:List V}(e:H a=some (.tup xs)):pC K H (.ref a) (.type "tuple")
 |dK {a:Addr}{kvs:List (Key×V)}(e:H a=some (.dK kvs)):pC K H (.ref a) (.type "dict")
 |dT {a:Addr}{kvs:List (List Key×V)}(e:H a=some (.dT kvs)):pC K H (.ref a) (.type "dict")
 |ins {a C dx:Addr}{fs:List (Str×V)}(e:H a=some (.ins C dx fs)) (cl:Cls K C) (ha:PySem.W.findIn K (.ref C) "__class__" = some (some (.builtin "object.__class__")))
   (hn:PySem.W.specialIn K (.builtin "object.__class__") "__get__" = some (some (.builtin "getset_descriptor.__get__"))) (htk:PySem.W.takesIn K (.builtin "object.__class__")=some true)
   (hm:PySem.W.mroIn K C (.type "object")=some true):pC K H (.ref a) (.ref C)
theorem EV{x:V}{u t:Value}(I:Inv X pins σ H s)(rx:RelV x u)(ty:pC X.K H x t)(e:PySem.W.kitOne X.K t c=some b)(h:∀tk,Q (.bool b) { s with toks:=tk }) :
  wpAny (!3) A (call (.builtin "isinstance") [u,c]) Q E s:=by
 cases ty with
 |non=>cases (show u=Value.none from rx);exact PySem.W.kia_one PySem.W.kitx_none I.kIn True.intro e (λz=>nomatch z) h
 |bl y=>cases (show u=Value.bool y from rx);exact PySem.W.kia_one PySem.W.kitx_bool I.kIn True.intro e (λz=>nomatch z) h
 |int i=>obtain⟨t,q⟩:=(show ∃t,u=Value.int i t from rx);cases q;exact PySem.W.kia_one PySem.W.kitx_int I.kIn True.intro e (λz=>nomatch z) h
 |str y=>obtain⟨t,q⟩:=(show ∃t,u=Value.str y t from rx);cases q;exact PySem.W.kia_one PySem.W.kitx_str I.kIn True.intro e (λz=>nomatch z) h
 |flt y=>obtain⟨t,q⟩:=(show ∃t,u=Value.float y t from rx);cases q;exact PySem.W.kia_one PySem.W.kitx_float I.kIn True.intro e (λz=>nomatch z) h
 |@lst a xs ea =>
  cases (show u=Value.ref a from rx);obtain⟨_,_,n,_,h1⟩:=(show cD X.prog X.w H s.heap a (.lst xs) from I.hok a _ ea)
  exact PySem.W.kia_one PySem.W.kitx_list I.kIn (xWP _ h1 rfl) e (λz=>nomatch z) h
 |@frz a ob xs ea =>
  cases (show u=Value.ref a from rx);obtain⟨_,_,_,n,_,h1⟩:=(show cD X.prog X.w H s.heap a (.frz ob (.lst xs)) from I.hok a _ ea)
  exact PySem.W.kia_one PySem.W.kitx_list I.kIn (xWP _ h1 rfl) e (λz=>nomatch z) h
 |@tup a xs ea =>
  cases (show u=Value.ref a from rx);obtain⟨_,_,_,p⟩:=(show cD X.prog X.w H s.heap a (.tup xs) from I.hok a _ ea)
  obtain⟨o,h1,h2,_⟩:=p;exact PySem.W.kia_one PySem.W.kitx_tuple I.kIn (xWP o h1 h2) e (λz=>nomatch z) h
 |@dK a kvs ea =>
  cases (show u=Value.ref a from rx);obtain⟨_,_,vs,_,p⟩:=(show cD X.prog X.w H s.heap a (.dK kvs) from I.hok a _ ea)
  obtain⟨o,es,ep,h1,h2,_⟩:=p;exact PySem.W.kia_one PySem.W.kitx_dict I.kIn (xWP o h1 h2.1) e (λz=>nomatch z) h
 |@dT a kvs ea =>
  cases (show u=Value.ref a from rx);obtain⟨_,_,xs,_,o,es,ep,h1,h2,_⟩:=(show cD X.prog X.w H s.heap a (.dT kvs) from I.hok a _ ea)
  exact PySem.W.kia_one PySem.W.kitx_dict I.kIn (xWP o h1 h2.1) e (λz=>nomatch z) h
 |@ins a C dx fs ea cl ha hn htk hm =>
  cases (show u=Value.ref a from rx);obtain⟨mA,O,_⟩:=nK I.hok ea;obtain⟨od,J,_⟩:=O.look;exact PySem.W.kia_one (PySem.W.kitx_own (cl.get _) cl.hd ha hn htk hm) I.kIn J e (λz=>nomatch z) h
end
structure fV(k:Nat)(A:Around):Prop where
 hd:A.handled=none
 dp:A.depth+3*k+5<recursionLimit
 un:A.units+16*k+200<cLine
 gd:A.guards=some []
theorem fV.mono{j k:Nat}{A:Around}(r:fV k A)(h:j<=k):fV j A:=⟨r.hd,by have:=r.dp;lia,by have:=r.un;lia,r.gd⟩
theorem fV.deeper{k:Nat}{A:Around}(r:fV (k+1) A)(env:Env):fV k (A.deeper env) :=
 ⟨r.hd,by have:=r.dp;show A.depth+1+3*k+5<_;lia,by have:=r.un;show A.units+3+16*k+200<_;lia,r.gd⟩
theorem AX{A:Around}{C:Addr}{us:List Value}{kw:List (Str×Value)}:(A.under (.builtin "type.__call__" ⟨.ref C::us,kw⟩)).depth=A.depth+1:=by
 first | rfl | simp[Around.under,Code.weight,Code.isCreation,Code.isGuard,Code.isCaller,Code.frames,Code.isFrame,guardIds]
theorem AV{A:Around}{C:Addr}{us:List Value}{kw:List (Str×Value)}:(A.under (.builtin "type.__call__" ⟨.ref C::us,kw⟩)).units=A.units+1:=by
 first | rfl | simp[Around.under,Code.cUnits,Code.frames,Code.isFrame]
theorem fV.make{k:Nat}{A:Around}(r:fV (k+1) A)(C:Addr)(us:List Value)(kw:List (Str×Value)):fV k (A.under (.builtin "type.__call__" ⟨.ref C::us,kw⟩)) :=
 ⟨r.hd,by have:=r.dp;rw[AX];lia,by have:=r.un;rw[AV];lia,by first | exact r.gd | (have:=r.gd;simpa[Around.under,Code.weight,Code.isCreation,Code.isGuard,Code.isCaller,Code.frames,Code.isFrame,guardIds] using this)⟩
theorem fV.depth{k:Nat}{A:Around}(r:fV k A):A.depth<recursionLimit:=by have:=r.dp;lia
theorem fV.units{k:Nat}{A:Around}(r:fV k A):A.units+64<cLine:=by have:=r.un;lia
theorem fV.units0{k:Nat}{A:Around}(r:fV k A):A.units<cLine:=by have:=r.un;lia
def DS:TA:=λ_ H Q=>Q [] H
def NC(ta:TE)(tr:TA):TA:=λσ H Q=>ta σ H λx H1=>tr σ H1 λxs H2=>Q (x::xs) H2
section
variable{X:Cx}{e:Expr}{es:List Expr}{te:TE}{t:TA}{pos:Pos}
theorem fP:PA X [] DS:=λ_ _ _ _ H Q I h=>Calls.spliced_nil (aG ([]) H I .nil h)
theorem c8(ha:PE X e te)(hr:PA X es t)(hs:starEach (e::es) X.env=(false,eval e X.env)::starEach es X.env:=by rfl):PA X (e::es) (NC te t):=by
 intro pos pins s σ H Q I h;rw[hs];show wpAny _ _ (spliced ((false,eval e X.env)::backTo pos (starEach es X.env))) _ _ s;refine Calls.spliced_cons (cW (ha pins s σ H _ I h) λu s1 x H1 I1 r1 q1=>?_);exact pP (hr pos pins s1 σ H1 _ I1 q1) λus s2 xs H2 I2 r2 q2=>(aG (x::xs) H2 I2 (.cons r1 r2) q2)
def SQ(t:TA):TE:=λσ H Q=>t σ H λxs H1=>xs.length<=ZW/\∀p,H1 p=none->Q (.ref p) (upd H1 p (.tup xs))
def SV(t:TA):TE:=λσ H Q=>t σ H λxs H1=>xs.length<=ZW/\∀p,H1 p=none->Q (.ref p) (upd H1 p (.lst xs))
theorem OZ{x1}(h:PA X es t):PE X (.Tuple es x1 pos) (SQ t):=by
 intro pins s σ H Q I hq;refine wpAny_Tuple_spliced (thn (h pos pins s σ H _ I hq) λus s1 ⟨xs,H1,I1,r,z,q⟩=>⟨by rw[<-r.length];exact z,?_⟩);have hf:H1 s1.heap.objs.size=none:=I1.hok.fresh (ZC _);refine(aG (.ref s1.heap.objs.size) (upd H1 s1.heap.objs.size (.tup xs)) (I1.laid (t':=s1.toks) (λb u e=>YW _ e) (ZC _) ?_) rfl (q _ hf));exact(fN z us r (aM _ (YU _ rfl) rfl ⟨ _,rfl⟩))
theorem O1(h:PA X es t):PE X (.List es pos) (SV t):=by
 intro pins s σ H Q I hq;refine wpAny_List_spliced (thn (h pos pins s σ H _ I hq) λus s1 ⟨xs,H1,I1,r,z,q⟩=>⟨by rw[<-r.length];exact z,?_⟩);have hf:H1 s1.heap.objs.size=none:=I1.hok.fresh (ZC _);refine(aG (.ref s1.heap.objs.size) (upd H1 s1.heap.objs.size (.lst xs)) (I1.laid (t':=s1.toks) (λb u e=>YW _ e) (ZC _) ?_) rfl (q _ hf));exact(fD z us 0 r (YU _ rfl))
end
abbrev Sp:=List V->Hp->VK->XK->Prop
abbrev CXT:=List Env->Hp->Shared->XK->Value->Shared->Prop
structure BH(P:Program)(w:World)(K:PySem.W.Frag)(mg:Str->Option Value)(base:Heap)(A:Around)(outer:List Env)(s:Shared)(H:Hp):Prop where
 frames:A.frames=some outer
 mod:Mod K mg base
 bs:∀b o,base.get? b=some o->s.heap.get? b=some o/\H b=none
 bsz:base.objs.size<=s.heap.objs.size
 funs:s.heap.FunFrames base outer
 frf:∀b∈frs outer,H b=none
 hok:HOk P w H s.heap
 bare:AllBare s.gens
def CE(outer:List Env)(P:Program)(w:World)(H:Hp)(s:Shared)(Q:VK)(u:Value)(s':Shared):Prop :=
 ∃v H',s'.os=s.os/\AllBare s'.gens/\Un (frs outer) [] H H' s.heap s'.heap/\HOk P w H' s'.heap/\RelV v u/\Q v H'
def CR(CX:CXT)(outer:List Env)(P:Program)(w:World)(H:Hp)(s:Shared)(Q:VK)(E:XK)(r:Result)(s':Shared):Prop :=
 match r with
 |.ok (.ret u)=>CE outer P w H s Q u s'
 |.ok _=>False
 |.error e=>CX outer H s E e s'
structure j8(P:Program)(w:World)(K:PySem.W.Frag)(mg:Str->Option Value)(base:Heap)(CX:CXT)(k:Nat)(f:Addr)(fd:FuncData)(ps:List Str)(sp:Sp):Prop where
 len:∀vs H Q E,sp vs H Q E->vs.length=ps.length
 run:∀(A:Around) (outer:List Env) (s:Shared) (H:Hp) (args:Args) (us:List Value) (vs:List V) (Q:VK) (E:XK),fV k A->BH P w K mg base A outer s H->BindsTo s fd args (ps.zip us)->bD vs us->sp vs H Q E ->
  codeAny (model P w) A (.call (.ref f) args) (CR CX outer P w H s Q E) s
theorem j8.imp{P:Program}{w:World}{K:PySem.W.Frag}{mg:Str->Option Value}{base:Heap}{CX:CXT}{k:Nat}{f:Addr}{fd:FuncData}{ps:List Str}{sp sp':Sp}(F:j8 P w K mg base CX k f fd ps sp)
  (h:∀vs H Q E,sp' vs H Q E->sp vs H Q E):j8 P w K mg base CX k f fd ps sp' :=
 ⟨λvs H Q E q=>F.len vs H Q E (h _ _ _ _ q),λA outer s H args us vs Q E hr he hb hv hs=>F.run A outer s H args us vs Q E hr he hb hv (h _ _ _ _ hs)⟩
theorem BH.make{P:Program}{w:World}{K:PySem.W.Frag}{mg:Str->Option Value}{base:Heap}{A:Around}{outer:List Env}{s:Shared}{H:Hp}(e:BH P w K mg base A outer s H)(C:Addr)(us:List Value)(kw:List (Str×Value)) :
  BH P w K mg base (A.under (.builtin "type.__call__" ⟨.ref C::us,kw⟩)) outer s H:=⟨by first | exact e.frames | (simpa[Around.under,Code.envs,Code.isFrame,pushEnvs] using e.frames),e.mod,e.bs,e.bsz,e.funs,e.frf,e.hok,e.bare⟩
section
variable{X:Cx}{pins:List (!16)}{σ:St}{H:Hp}{s s':Shared}
theorem Inv.env0(I:Inv X pins σ H s):BH X.prog X.w X.K X.mg X.base X.A X.stack s H :=
 ⟨I.ok.frames,I.ok.mod,I.bs,YQ I.ok.bsz I.sz,I.stack,I.stkFree,I.hok,I.bare⟩
theorem Inv.after{Q:VK}{u:Value}(I:Inv X pins σ H s)(h:CE X.stack X.prog X.w H s Q u s'):EP X pins σ Q u s':=by
 obtain⟨v,H',os,bare,un,hok,r,q⟩:=h;obtain⟨hh,g,d,t,os'⟩:=s';obtain rfl:os'=s.os:=os;exact(aG v H' (I.call (h':=hh) (g':=g) (d':=d) (t':=t) (ch:=[]) un hok bare (λb z=>Yg z (!5))) r q)
end
def ND(sp:Sp)(dvs:List V)(E:XK)(t:TA):TE:=λσ H Q=>t σ H λvs H1=>sp (vs++dvs) H1 Q E
def QU(C:Addr)(sp:Sp)(dvs:List V)(E:XK)(t:TA):TE:=λσ H Q=>t σ H λvs H1=>∀x dx,H1 x=none->H1 dx=none->dx≠x ->
 sp (.ref x::(vs++dvs)) (upd (upd H1 dx (.own x)) x (.ins C dx [])) (λv H2=>v=.non/\Q (.ref x) H2) E
def Binds(K:PySem.W.Frag)(fd:FuncData)(ps:List Str)(ds:List Value):Prop :=
 ∀(s:Shared) (us:List Value),K.In s.heap->(us++ds).length=ps.length->BindsTo s fd ⟨us,[]⟩ (ps.zip (us++ds))
theorem Binds.all{K:PySem.W.Frag}{fd:FuncData}{ps:List Str}(h:∀us:List Value,us.length=ps.length->bindArgs fd ⟨us,[]⟩=pure (ps.zip us)):Binds K fd ps []:=λs us _ hl=>by
 rw[List.append_nil]at hl ⊢;exact .of_eq (h us hl)
def pD(CX:CXT)(X:Cx)(E:XK):Prop:=∀(pins:List (!16)) (σ:St) (H:Hp) (s:Shared) (e:Value) (s':Shared),Inv X pins σ H s->CX X.stack H s E e s'->X.xe e s'
section
variable{X:Cx}{CX:CXT}{k:Nat}{f C:Addr}{fd:FuncData}{ps:List Str}{sp:Sp}{dvs:List V}{ds:List Value}{E:XK}{x m:Str}{p pos apos:Pos}{e o:Expr}{es:List Expr}{ta:TE}{t:TA}
theorem OL{pins:List (!16)}{σ:St}{H:Hp}{s:Shared}{Q:VK}{us:List Value}{vs:List V}(F:j8 X.prog X.w X.K X.mg X.base CX k f fd ps sp)(hr:fV k X.A)(hb:Binds X.K fd ps ds)(hd:bD dvs ds)(hx:pD CX X E)
  (I:Inv X pins σ H s) (r:bD vs us) (h:sp (vs++dvs) H Q E):wpAny (!3) X.A (call (.ref f) us) (EP X pins σ Q) X.xe s:=by
 have r2:bD (vs++dvs) (us++ds):=r.append hd;have hl:(us++ds).length=ps.length:=by rw[<-r2.length];exact F.len _ _ _ _ h
 refine wpAny_call (codeAny_mono (F.run X.A X.stack s H ⟨us,[]⟩ (us++ds) (vs++dvs) Q E hr I.env0 (hb s us I.kIn hl) r2 h) λr s' hq=>?_);cases r with
 |error e=>exact hx pins σ H s e s' I hq
 |ok fl =>
  cases fl with
  |ret u=>exact I.after hq
  |next=>exact False.elim hq
  |brk=>exact False.elim hq
  |cont=>exact False.elim hq
theorem LP(F:j8 X.prog X.w X.K X.mg X.base CX k f fd ps sp)(hr:fV k X.A)(hg:Gl X x)(hm:X.mg x=some (.ref f))(hk:PySem.W.keepIn X.K (.ref f)=true)(hb:Binds X.K fd ps ds)(hd:bD dvs ds)(hx:pD CX X E)
  (ha:PA X (e::es) t) (hdb:(!48)=false:=by decide) (he:starEach (e::es) X.env=(false,eval e X.env)::starEach es X.env:=by rfl) (hpl:(backTo pos (starEach es X.env)).any (·.1)=false:=by rfl) :
  PE X (.Call (.Name x p) (e::es) [] pos) (ND sp dvs E t):=by
 sleep 2;refine wpAny_Call_Name_kw (v5 I hg hm ?_ hdb);refine PySem.W.callWith_K (h₀:=X.base) I.ok.mod.kin hk (pP (ha pos pins s σ H _ I h) λus s1 vs H1 I1 r q=>⟨I1.kIn,?_⟩) he hpl;exact OL F hr hb hd hx I1 r q
structure Mk(K:PySem.W.Frag)(C f:Addr):Prop where
 makes:PySem.W.makesIn K C=true
 init:PySem.W.findIn K (.ref C) "__init__" = some (some (.ref f))
 fn:PySem.W.isFn K (.ref f)=true
 kp:PySem.W.keepIn K (.ref C)=true
theorem GP{pins:List (!16)}{σ:St}{H:Hp}{s:Shared}{Q:VK}{us:List Value}{vs:List V}(M:Mk X.K C f)(F:j8 X.prog X.w X.K X.mg X.base CX k f fd ps sp)(hr:fV (k+1) X.A)(hb:Binds X.K fd ps ds)(hd:bD dvs ds)
  (hx:pD CX X E) (I:Inv X pins σ H s) (r:bD vs us)
  (h:∀x dx,H x=none->H dx=none->dx≠x->sp (.ref x::(vs++dvs)) (upd (upd H dx (.own x)) x (.ins C dx [])) (λv H2=>v=.non/\Q (.ref x) H2) E) :
  wpAny (!3) X.A (call (.ref C) us) (EP X pins σ Q) X.xe s:=by
 have hq:=h (!22) s.heap.objs.size (I.hok.fresh (Nat.le_succ _)) (I.hok.fresh (ZC _)) (ZA (Nat.lt_succ_self _));have I2:=J5 (C:=C) I;have r2:bD (V.ref (!22)::(vs++dvs)) (Value.ref (!22)::(us++ds)):=.cons rfl (r.append hd);have hl:(Value.ref (!22)::us++ds).length=ps.length:=by
  have e:=r2.length;rw[F.len _ _ _ _ hq]at e;exact e.symm
 refine wpAny_call (IK (f:=f) I.kIn M.makes M.init (beq_iff_eq.mp M.fn) (codeAny_mono (F.run _ X.stack _ _ ⟨Value.ref (!22)::us,[]⟩ (Value.ref (!22)::(us++ds)) _ _ E (hr.make C us [])
  (I2.env0.make C us []) (hb _ (Value.ref (!22)::us) I2.kIn hl) r2 hq) λr s' hq'=>?_))
 cases r with
 |error e=>exact hx pins σ _ _ e s' I2 hq'
 |ok fl =>
  cases fl with
  |ret u =>
   obtain⟨v,H',I3,rv,ev,q3⟩:=I2.after hq';subst ev;exact⟨rv,(aG (V.ref (!22)) H' I3 rfl q3)⟩
  |next=>exact False.elim hq'
  |brk=>exact False.elim hq'
  |cont=>exact False.elim hq'
theorem LM(M:Mk X.K C f)(F:j8 X.prog X.w X.K X.mg X.base CX k f fd ps sp)(hr:fV (k+1) X.A)(hg:Gl X x)(hm:X.mg x=some (.ref C))(hb:Binds X.K fd ps ds)(hd:bD dvs ds)(hx:pD CX X E)
  (ha:PA X (e::es) t) (hdb:(!48)=false:=by decide) (he:starEach (e::es) X.env=(false,eval e X.env)::starEach es X.env:=by rfl) (hpl:(backTo pos (starEach es X.env)).any (·.1)=false:=by rfl) :
  PE X (.Call (.Name x p) (e::es) [] pos) (QU C sp dvs E t):=by
 sleep 2;refine wpAny_Call_Name_kw (v5 I hg hm ?_ hdb);refine PySem.W.callWith_K (h₀:=X.base) I.ok.mod.kin M.kp (pP (ha pos pins s σ H _ I h) λus s1 vs H1 I1 r q=>⟨I1.kIn,?_⟩) he hpl;exact GP M F hr hb hd hx I1 r q
end
def PK(X:Cx)(kws:List Keyword)(t:TA):Prop :=
 ∀(pos:Pos) (pins:List (!16)) (s:Shared) (σ:St) (H:Hp) (Q:List V->Hp->Prop),Inv X pins σ H s->t σ H Q->wpAny (!3) X.A (evalAll ((backToKw pos (keywordEach kws X.env)).map (·.2))) (AP X pins σ Q) X.xe s
section
variable{X:Cx}{CX:CXT}{k:Nat}{f C:Addr}{fd:FuncData}{ps ks:List Str}{sp:Sp}{E:XK}{x m:Str}{p pos apos kpos:Pos}{e o:Expr}{es:List Expr}{kws:List Keyword}{te ta:TE}{t tk:TA}{nm:Option Str}
theorem OU:PK X [] DS:=λ_ _ _ _ H Q I h=>wpAny_evalAll_nil (aG ([]) H I .nil h)
theorem LJ(ha:PE X e te)(hr:PK X kws t):PK X (⟨nm,e,kpos⟩::kws) (NC te t):=by
 intro pos pins s σ H Q I h;show wpAny _ _ (evalAll ((do let v <-eval e X.env;standAt pos;pure v)::(backToKw pos (keywordEach kws X.env)).map (·.2))) _ _ s;refine wpAny_evalAll_cons (ZZ (cW (ha pins s σ H _ I h) λu s1 x H1 I1 r1 q1=>ZZ (wpAny_standAt (ZY ?_))));exact pP (hr pos pins s1 σ H1 _ I1 q1) λus s2 xs H2 I2 r2 q2=>(aG (x::xs) H2 I2 (.cons r1 r2) q2)
variable{g:List Value->List Value->List Value}{gV:List V->List V->List V}
end
structure dU(N P:List Str)(sc:Scope):Prop where
 kind:sc.kind=.function
 co:sc.isCoroutine=false
 gen:sc.isGenerator=false
 nd:N.Nodup
 pre:N.take P.length=P
 par:∀x∈P,sc.names.lookup x=some .local\/sc.names.lookup x=some .cell
 nofree:∀y∈sc.names,y.2≠.free
theorem uY{kindOf:Str->Option NameKind}{x:Str}:∀{binds:List (Str×Value)}{m:Str->Option Value},(∀v,(x,v)∉binds)->bindL kindOf binds m x=m x
 |[],_,_=>rfl
 |(n,v)::r,m,h=>by
  unfold bindL;rw[uY λw hw=>h w (Zw _ hw)];split
  ·have:x≠n:=by rintro rfl;exact h v Zd
   simp[this]
  ·rfl
theorem u3{kindOf:Str->Option NameKind}{x:Str}:∀{binds:List (Str×Value)}{m:Str->Option Value},(∀v,(x,v)∉binds)->bindC kindOf binds m x=m x
 |[],_,_=>rfl
 |(n,v)::r,m,h=>by
  unfold bindC;rw[u3 λw hw=>h w (Zw _ hw)];split
  ·rfl
  ·have:x≠n:=by rintro rfl;exact h v Zd
   simp[this]
theorem uZ{kindOf:Str->Option NameKind}{x:Str}{v:Value}:∀{P:List Str}{vs:List Value}{i:Nat}{m:Str->Option Value},P.Nodup->P[i]?=some x->vs[i]?=some v->kindOf x=some .local ->
  bindL kindOf (P.zip vs) m x=some v
 |[],_,_,_,_,h,_,_=>by simp at h
 |_::_,[],_,_,_,_,h,_=>by simp at h
 |p::P,w::vs,0,m,nd,h1,h2,hk=>by
  simp at h1 h2;subst h1;subst h2;show bindL kindOf ((p,w)::P.zip vs) m p=_;unfold bindL;rw[uY λv hv=>(List.nodup_cons.mp nd).1 (List.of_mem_zip hv).1,Yb hk];simp
 |p::P,w::vs,i+1,m,nd,h1,h2,hk=>by
  show bindL kindOf ((p,w)::P.zip vs) m x=_;unfold bindL;exact uZ (i:=i) (List.nodup_cons.mp nd).2 (by simpa using h1) (by simpa using h2) hk
theorem u4{kindOf:Str->Option NameKind}{x:Str}{v:Value}:∀{P:List Str}{vs:List Value}{i:Nat}{m:Str->Option Value},P.Nodup->P[i]?=some x->vs[i]?=some v->kindOf x≠some .local ->
  bindC kindOf (P.zip vs) m x=some v
 |[],_,_,_,_,h,_,_=>by simp at h
 |_::_,[],_,_,_,_,h,_=>by simp at h
 |p::P,w::vs,0,m,nd,h1,h2,hk=>by
  simp at h1 h2;subst h1;subst h2;show bindC kindOf ((p,w)::P.zip vs) m p=_;unfold bindC;rw[u3 λv hv=>(List.nodup_cons.mp nd).1 (List.of_mem_zip hv).1,Ya hk];simp
 |p::P,w::vs,i+1,m,nd,h1,h2,hk=>by
  show bindC kindOf ((p,w)::P.zip vs) m x=_;unfold bindC;exact u4 (i:=i) (List.nodup_cons.mp nd).2 (by simpa using h1) (by simpa using h2) hk
def start(N:List Str)(vs:List V):St:=vs.map some++ZG (N.length-vs.length) none
def yO(CX:CXT)(P:Program)(w:World)(K:PySem.W.Frag)(mg:Str->Option Value)(base:Heap)(N:List Str)(qual:Str)(scope:Scope)(f:Addr)(cd:Value)(A:Around)(outer:List Env)(s:Shared)(H:Hp)(E:XK):Cx where
 prog:=P
 w:=w
 K:=K
 mg:=mg
 base:=base
 A:=A.deeper (envOfC qual scope s.heap.objs.size f cd)
 N:=N
 s₀:=s
 H₀:=H
 env:=envOfC qual scope s.heap.objs.size f cd
 outer:=outer
 stack:=envOfC qual scope s.heap.objs.size f cd::outer
 ex:=[]
 calm:=true
 fn:=λ_=>true
 pn:=[]
 xe:=λe s'=>wpAny (model P w) (A.deeper (envOfC qual scope s.heap.objs.size f cd)) (leaving (envOfC qual scope s.heap.objs.size f cd) e) (λ_ s''=>CX outer H s E e s'') (λe' s''=>CX outer H s E e' s'') s'
theorem yT{sc:Scope}{n:Nat}{x:Str}(h:sc.names.lookup x=some .cell):∃c,(cellsFrom n sc.names []).lookup x=some c:=by
 have q:=PySem.W.cellsFrom_some sc.names n [] (.inl h);exact Option.isSome_iff_exists.mp q
theorem EW{CX:CXT}{P:Program}{w:World}{K:PySem.W.Frag}{mg:Str->Option Value}{base:Heap}{N ps:List Str}{qual:Str}{scope:Scope}{f:Addr}{cd:Value}{A:Around}{outer:List Env}{s s1:Shared}{H:Hp}{E:XK}{us:List Value}{vs:List V}
  (S:dU N ps scope) (hd:A.handled=none) (e0:BH P w K mg base A outer s H) (hl:vs.length=ps.length) (r:bD vs us)
  (x:InCallC s s.heap.objs.size (bindL (envOfC qual scope s.heap.objs.size f cd).kindOf (ps.zip us) λ_=>none) (cellsFrom (!22) scope.names []) (bindC (envOfC qual scope s.heap.objs.size f cd).kindOf (ps.zip us) λ_=>none) s1) :
  Inv (yO CX P w K mg base N qual scope f cd A outer s H E) [] (start N vs) H s1:=by
 have hpl:ps.length<=N.length:=by have:=congrArg List.length S.pre;rw[Yw]at this;lia
 obtain⟨h1,tk,rfl,hk⟩:=x.done;have noA:∀b:Addr,b∉(yO CX P w K mg base N qual scope f cd A outer s H E).ex:=λb z=>Yg (show b∈([]:List Addr) from z) (!5);refine⟨⟨e0.mod,S.kind,rfl,rfl,ZC _,λy z c h1 h2=>?_,λy hy=>?_,λy c _ h=>?_,λ_=>hd,Around.frames_deeper e0.frames,.inr ⟨rfl,rfl⟩,λb z=>Yg z (noA b),e0.bs,e0.bsz,λb _ _=>noA b,λb z=>Yg z (noA b),e0.funs,e0.frf⟩,
  rfl,e0.bare,Un.kept hk,(xWP _ x.toInCall.ns (λi y v h1 h2 h3=>?_)),λy c h=>⟨_,x.cell y c h⟩,e0.hok.fresh (ZC _),λy c h=>?_,λp hp=>Yg (show p∈([]:List (!16)) from hp) (!5),e0.hok.kept hk,?_⟩
 ·exact name_of_addr x.apart (PySem.mem_of_lookup h1) (PySem.mem_of_lookup h2)
 ·have hy:scope.names.lookup y=some .cell\/scope.names.lookup y=some .free:=hy;rcases hy with hy | hy
  ·exact yT hy
  ·exact Yg rfl (S.nofree _ (PySem.mem_of_lookup hy))
 ·exact YX (x.above y c (PySem.mem_of_lookup h))
 ·have hi:i<vs.length:=by
   unfold start at h2;by_cases hi:i<vs.length
   ·exact hi
   ·rw[Zy (by simpa using hi)]at h2;rw[List.getElem?_replicate]at h2;split at h2<;>cases h2
  have ha:vs[i]?=some v:=by
   unfold start at h2;rw[Zx (by simpa using hi),Zk]at h2;cases e:vs[i]? with
   |none=>rw[e]at h2;cases h2
   |some a=>rw[e]at h2;cases h2;rfl
  obtain⟨u,hu,rv⟩:=r.get ha;have hp:ps[i]?=some y:=by
   rw[<-S.pre,List.getElem?_take_of_lt (by lia)];exact h1
  have ndP:ps.Nodup:=by rw[<-S.pre];exact S.nd.sublist (List.take_sublist _ _)
  refine(xWP u rv ?_);rcases S.par y (Zg hp) with k | k
  ·exact .inl ⟨k,uZ ndP hp hu k⟩
  ·obtain⟨c,e⟩:=yT (n:=s.heap.objs.size+1) k;refine .inr (fN (.inl k) c e ?_);have q:=x.cell y c e;rw[u4 ndP hp hu (by show scope.names.lookup y≠_;rw[k];decide)]at q;exact q
 ·exact e0.hok.fresh (YX (x.above y c (PySem.mem_of_lookup h)))
 ·unfold start;show _=N.length;rw[Zm,Zq,List.length_replicate]
  lia
theorem R3{CX:CXT}{P:Program}{w:World}{K:PySem.W.Frag}{mg:Str->Option Value}{base:Heap}{k:Nat}{f:Addr}{name qual:Str}{params:Arguments}{body:List Stmt}{scope:Scope}{dV kV doc pm cdv ct oc:Value}{an od:Option Addr}
  {osl:Array (Option Value)}{N ps:List Str}{sp:Sp}(lk:K.lookup f=some ⟨oc,od,.func (PySem.W.fnOf name qual params body scope dV kV doc pm an cdv ct),osl⟩) (hcd:PySem.W.codeIn K cdv qual=true) (S:dU N ps scope)
  (len:∀vs H Q E,sp vs H Q E->vs.length=ps.length)
  (hbody:∀(A:Around) (outer:List Env) (s:Shared) (H:Hp) (vs:List V) (Q:VK) (E:XK),fV k (A.deeper (envOfC qual scope s.heap.objs.size f cdv))->sp vs H Q E ->
   ∃t,PSs (yO CX P w K mg base N qual scope f cdv A outer s H E) body t/\t { nx:=λ_ H'=>Q .non H',rt:=Q } (start N vs) H) :
  j8 P w K mg base CX (k+1) f (PySem.W.fnOf name qual params body scope dV kV doc pm an cdv ct) ps sp:=by
 refine⟨len,λA outer s H args us vs Q E hr e0 hb r hsp=>?_⟩;have hl:=len _ _ _ _ hsp;have KX:K.In s.heap:=e0.mod.kin.keeps λb o e=>(e0.bs b o e).1;have lim:s.heap.NoLimit:=e0.mod.nolimit.keeps λb o e=>(e0.bs b o e).1;have hkind:∀y∈ps.zip us,scope.names.lookup y.1=some .local\/(scope.names.lookup y.1=some .cell/\((cellsFrom (!22) scope.names []).lookup y.1).isSome=true):=λ⟨n,v⟩ hy=>by
  rcases S.par n (List.of_mem_zip hy).1 with q | q
  ·exact .inl q
  ·exact .inr ⟨q,PySem.W.cellsFrom_some _ _ _ (.inl q)⟩
 refine codeAny_call_function hr.depth (KX _ _ lk) rfl S.co S.gen rfl (PySem.W.codeRec_of KX hcd) (hb _ _ _ _ ?_);refine wpAny_newFunctionEnv_cells S.kind hkind λenv he s1 x=>?_;subst he;refine⟨lim.keeps x.toInCall.keep,codeAny_func ?_⟩;obtain⟨t,ht,hq⟩:=hbody A outer s H vs Q E (hr.deeper _) hsp;have I:Inv (yO CX P w K mg base N qual scope f cdv A outer s H E) [] (start N vs) H s1:=EW S hr.hd e0 hl r x;refine ZX (ht [] s1 (start N vs) H _ I hq) (λfl s' hs=>?_) λe s' hs=>hs;have fin:∀{σ':St}{H':Hp}{v:V}{u:Value},Inv (yO CX P w K mg base N qual scope f cdv A outer s H E) [] σ' H' s'->RelV v u->Q v H'->CE outer P w H s Q u s' :=
  λ{σ' H' v u} J rv q=>(cG v H' J.os J.bare J.base J.hok rv q)
 cases fl with
 |ret u =>
  obtain⟨v,σ',H',J,rv,q⟩:=hs;exact fin J rv q
 |next =>
  obtain⟨σ',H',J,q⟩:=hs;exact fin (v:=V.non) (u:=Value.none) J rfl q
 |brk =>
  obtain⟨_,_,_,q⟩:=hs;exact False.elim q
 |cont =>
  obtain⟨_,_,_,q⟩:=hs;exact False.elim q
section
variable{X:Cx}{x:Str}{p pos:Pos}{e:Expr}{es:List Expr}{t:TA}{id T:String}{r:List V->Hp->VK->Prop}
def tCB(r:List V->Hp->VK->Prop)(t:TA):TE:=λσ H Q=>t σ H λvs H1=>r vs H1 Q
theorem bC(hc:fY X (.builtin id) r)(hg:Gl X x)(hm:X.mg x=none)(hv:bootBuiltins x=some (.builtin id))(ha:PA X (e::es) t)(hn:x≠"__name__":=by decide)(hdb:(!48)=false:=by decide)
  (he:starEach (e::es) X.env=(false,eval e X.env)::starEach es X.env:=by rfl) (hpl:(backTo pos (starEach es X.env)).any (·.1)=false:=by rfl):PE X (.Call (.Name x p) (e::es) [] pos) (tCB r t):=by
 sleep 2;refine wpAny_Call_Name_kw (kQ I hg hm hv ?_ hn hdb);exact PyProof.Rows.callWith_builtin1 (pP (ha pos pins s σ H _ I h) λus s1 vs H1 I1 r1 q1=>hc pins s1 σ H1 vs us Q I1 r1 q1) he hpl
theorem a8(hc:fY X (.type T) r)(hg:Gl X x)(hm:X.mg x=none)(hv:bootBuiltins x=some (.type T))(ha:PA X (e::es) t)(hn:x≠"__name__":=by decide)(hdb:(!48)=false:=by decide)
  (he:starEach (e::es) X.env=(false,eval e X.env)::starEach es X.env:=by rfl) (hpl:(backTo pos (starEach es X.env)).any (·.1)=false:=by rfl):PE X (.Call (.Name x p) (e::es) [] pos) (tCB r t):=by
 sleep 2;refine wpAny_Call_Name_kw (kQ I hg hm hv ?_ hn hdb);exact PyProof.Rows.callWith_type1 (pP (ha pos pins s σ H _ I h) λus s1 vs H1 I1 r1 q1=>hc pins s1 σ H1 vs us Q I1 r1 q1) he hpl
end
end L2
namespace HT
open PySem PyProof.Rows
section
open PySem.SeqAt
open PySem.AutoSeq1 (wpAny_loadPart')
open PySem.MeetsSeq PySem.MeetsSeq2 PySem.MeetsSeq3
end
section
variable{prog:Program}{w:World}{A:Around}{E:Value->Shared->Prop}{s:Shared}
def sIx(n d:Nat):Option Int->Nat
 |none=>d
 |some v=>if v<0 then (v+(n:Int)).toNat else min v.toNat n
theorem mY(n d:Nat):sIx n d none=d:=rfl
theorem qB(n d k:Nat):sIx n d (some (k:Int))=min k n:=by
 show(if (k:Int)<0 then ((k:Int)+(n:Int)).toNat else min (k:Int).toNat n)=min k n;rw[Ya (by lia),Int.toNat_natCast]
end
end HT
namespace L2
open PySem PySem.Spec PyProof.Rows
abbrev TO:=St->Hp->(Option Int->Hp->Prop)->Prop
def PO(X:Cx)(e:Option Expr)(t:TO):Prop :=
 ∀(pins:List (!16)) (s:Shared) (σ:St) (H:Hp) (Q:Option Int->Hp->Prop),Inv X pins σ H s->t σ H Q ->
  wpAny (!3) X.A (evalPart e X.env) (λu s'=>∃o H',Inv X pins σ H' s'/\IsPart u o/\Q o H') X.xe s
def KL:TO:=λ_ H Q=>Q none H
def QT(t:TE):TO:=λσ H Q=>t σ H λx H1=>x.gi λi=>Q (some i) H1
theorem intsAre_of{ns:List Int}:∀{us:List Value},bD (!39) us->IntsAre us ns:=by
 induction ns with
 |nil=>intro us r;rw[List.map_nil]at r;cases r;exact .nil
 |cons n ns ih =>
  intro us r;rw[ZJ]at r;cases r with
  |cons r1 r2 =>
   obtain⟨t,e⟩:=r1;subst e;exact .cons n t (ih r2)
section
variable{X:Cx}{e:Expr}{te:TE}{lo hi:Option Expr}{tl th:TO}{pos p2:Pos}
theorem qG:PO X none KL:=by
 sleep 2;rw[evalPart_none];exact ZY (aG none H I .none h)
theorem qF(h:PE X e te):PO X (some e) (QT te):=by
 intro pins s σ H Q I hw;rw[evalPart_some];refine cW (h pins s σ H _ I hw) λu s1 x H1 I1 r1 q1=>?_;obtain⟨i,rfl,z1⟩:=dC q1;have q:=z1;obtain⟨t,rfl⟩:=r1;exact(aG (some i) H1 I1 (.int i t) q)
def SlR(X:Cx)(r:V->Option Int->Option Int->Hp->VK->Prop):Prop :=
 ∀(pins:List (!16)) (s:Shared) (σ:St) (H:Hp) (x:V) (v vl vu:Value) (lo hi:Option Int) (sl:Addr) (Q:VK),Inv X pins σ H s->RelV x v->s.heap.IsSliceOf sl vl vu .none->IsPart vl lo->IsPart vu hi->r x lo hi H Q ->
  ∃T id,typeLookup (.type T) "__getitem__" = pure (some (.builtin id))/\s.TypeIs v T/\wpAny (!3) X.A (getItem v (.ref sl)) (EP X pins σ Q) X.xe s
def tSl(r:V->Option Int->Option Int->Hp->VK->Prop)(te:TE)(tl th:TO):TE:=λσ H Q=>te σ H λx H1=>tl σ H1 λl H2=>th σ H2 λu H3=>r x l u H3 Q
theorem nA{r:V->Option Int->Option Int->Hp->VK->Prop}(hr:SlR X r)(he:PE X e te)(hl:PO X lo tl)(hu:PO X hi th):PE X (.Subscript e (.Slice lo hi none p2) pos) (tSl r te tl th):=by
 sleep 2;refine Subscript_ (cW (he pins s σ H _ I h) λv s1 x H1 I1 r1 q1=>?_);refine wpAny_Slice (thn (hl pins s1 σ H1 _ I1 q1) λvl s2 ⟨l,H2,I2,pl,q2⟩=>thn (hu pins s2 σ H2 _ I2 q2) λvu s3 ⟨u,H3,I3,pu,q3⟩=>?_);rw[evalPart_none];refine ZY ?_;have I4:Inv X pins σ H3 { s3 with heap:=s3.heap.push { cls:=.type "slice",data:=.fields #[vl,vu,.none] } }:=I3.kept (t':=s3.toks) λb ob q=>YW _ q;obtain⟨T,id,hT,ht,hg⟩:=hr pins { s3 with heap:=s3.heap.push { cls:=.type "slice",data:=.fields #[vl,vu,.none] } } σ H3 x v vl vu l u s3.heap.objs.size Q I4 r1 (Heap.IsSliceOf.new ..) pl pu q3;show wpAny (!3) X.A (subscriptTail e (.Slice lo hi none p2) v (.ref s3.heap.objs.size)) (EP X pins σ Q) X.xe { s3 with heap:=s3.heap.push { cls:=.type "slice",data:=.fields #[vl,vu,.none] } };exact tail_any (ops:=[.ref s3.heap.objs.size,v]) ht hT hg (by with_unfolding_all rfl)
def pR(xs:List V)(lo hi:Option Int):List V:=(xs.drop (HT.sIx xs.length 0 lo)).take (HT.sIx xs.length xs.length hi-HT.sIx xs.length 0 lo)
theorem yP(xs:List V)(lo hi:Option Int):(pR xs lo hi).length<=xs.length:=by
 unfold pR;rw[Yw,Yp]
 lia
end
def ixN(n:Nat)(i:Int):Option Nat:=if 0<=i then (if i<n then some i.toNat else none) else if -(n:Int)<=i then some (i+n).toNat else none
def atI{α:Type}(xs:List α)(i:Int):Option α:=(ixN xs.length i).bind λj=>xs[j]?
theorem CT{n:Nat}{i:Int}{j:Nat}(h:ixN n i=some j):seqIndex? i n=some j/\j<n/\-(n:Int)<=i/\i<n:=by
 unfold ixN at h;by_cases h0:0<=i
 ·rw[Yb h0]at h;by_cases h1:i<n
  ·rw[Yb h1]at h;have e:i.toNat=j:=Option.some.inj h;exact(bN (by rw[seqIndex_of h0 h1,e]) (by lia) (by lia) h1)
  ·rw[Ya h1]at h;cases h
 ·rw[Ya h0]at h;by_cases h1 : -(n:Int)<=i
  ·rw[Yb h1]at h;have e:(i+n).toNat=j:=Option.some.inj h;exact(bN (by rw[seqIndex_neg (by lia) h1,e]) (by lia) h1 (by lia))
  ·rw[Ya h1]at h;cases h
theorem qO{α:Type}{xs:List α}{i:Int}{v:α}(h:atI xs i=some v):∃j,seqIndex? i xs.length=some j/\xs[j]?=some v/\j<xs.length/\-(xs.length:Int)<=i/\i<xs.length:=by
 unfold atI at h;cases e:ixN xs.length i with
 |none=>rw[e]at h;cases h
 |some j =>
  rw[e]at h;obtain⟨h1,h2,h3,h4⟩:=CT e;exact(gO j h1 h h2 h3 h4)
theorem dA{α:Type}{xs:List α}{j:Nat}{v:α}(h:xs[j]?=some v):atI xs (j:Int)=some v:=by
 have hj:j<xs.length:=(Zj.mp h).1;have e:ixN xs.length (j:Int)=some j:=by
  unfold ixN;rw[Yb (by lia),Yb (by lia)];simp
 unfold atI;rw[e];exact h
def DC(b:Expr):Prop:=∀o i,subscripted b false o i=operate [o,i] (getItem o i)
def IxR(X:Cx)(r:R2):Prop :=
 ∀(value slice:Expr) (pins:List (!16)) (s:Shared) (σ:St) (H:Hp) (x y:V) (v u:Value) (Q:VK),Inv X pins σ H s->RelV x v->RelV y u->r x y H Q ->
  subscripted slice false v u=operate [v,u] (getItem v u)->wpAny (!3) X.A (subscriptTail value slice v u) (EP X pins σ Q) X.xe s
def MtR(X:Cx)(id:String)(r:V->List V->Hp->VK->Prop):Prop :=
 ∀(pins:List (!16)) (s:Shared) (σ:St) (H:Hp) (x:V) (xs:List V) (v:Value) (us:List Value) (Q:VK),Inv X pins σ H s->RelV x v->bD xs us->r x xs H Q ->
  wpAny (!3) X.A (call (.builtin id) (v::us)) (EP X pins σ Q) X.xe s
section
variable{X:Cx}{a b:Expr}{ta tb:TE}{pos:Pos}
theorem IxR.or{r r':R2}(h:IxR X r)(h':IxR X r'):IxR X (λx y H Q=>r x y H Q\/r' x y H Q):=by
 intro value slice pins s σ H x y v u Q I rx ry q hs;rcases q with q | q
 ·exact h value slice pins s σ H x y v u Q I rx ry q hs
 ·exact h' value slice pins s σ H x y v u Q I rx ry q hs
theorem iG{r:R2}(hr:IxR X r)(ha:PE X a ta)(hb:PE X b tb)(hs:DC b):PE X (.Subscript a b pos) (tOp r ta tb):=by
 sleep 2;exact Subscript_ (QI ha hb I h λv u s2 x y H2 I2 rx ry q=>hr a b pins s2 σ H2 x y v u Q I2 rx ry q (hs _ _))
def RE:R2:=λx y H Q=>x.gr λp=>y.gi λi=>∃xs v,SqL H p xs/\atI xs i=some v/\Q v H
def RC:R2:=λx y H Q=>x.gr λp=>y.gi λi=>∃xs v,SqT H p xs/\atI xs i=some v/\Q v H
def RD:R2:=λx y H Q=>x.gs λz=>y.gi λi=>∃c,z.length<=ZW/\atI z.cps.toList i=some c/\Q (.str ⟨#[c]⟩) H
theorem aJ:IxR X (RE):=by
 intro value slice pins s σ H x y v u Q I rx ry h hs;obtain⟨p,rfl,z1⟩:=bV h;obtain⟨i,rfl,z2⟩:=dC z1;obtain⟨xs,z,hq,he,q⟩:=z2;cases rx;obtain⟨t,rfl⟩:=ry;obtain⟨its,r,pl,hz⟩:=I.list hq;obtain⟨j,h1,h2,h3,h4,h5⟩:=qO he;obtain⟨w,ew,rw'⟩:=r.get h2;have hl:=r.length;have hn:=jZ;have fin:EP X pins σ Q w s:=(aG z H I rw' q)
 by_cases h0:0<=i
 ·have hj:i.toNat=j:=by
   rw[seqIndex_of h0 h5]at h1;exact Option.some.inj h1
  exact item_listR pl.isList h0 (by lia) (by rw[hj];simpa using ew) fin hs
 ·have hj:(i+(its.toArray.size:Int)).toNat=j:=by
   rw[seqIndex_neg (by lia) h4]at h1;rw[ZF,<-hl];exact Option.some.inj h1
  exact subscriptTail_builtinR (x:=w) pl.isList.typeIs slot_list_getitem.lookup
   (wpAny_getItem_list_neg (Q:=λr s'=>r=w/\EP X pins σ Q r s') pl.isList (by lia) (by rw[ZF]<;>lia) (by lia) (by rw[hj];simpa using ew) ⟨rfl,fin⟩) hs
theorem aI:IxR X (RC):=by
 intro value slice pins s σ H x y v u Q I rx ry h hs;obtain⟨p,rfl,z1⟩:=bV h;obtain⟨i,rfl,z2⟩:=dC z1;obtain⟨xs,z,hq,he,q⟩:=z2;cases rx;obtain⟨t,rfl⟩:=ry;obtain⟨its,r,pl,hz⟩:=I.tuple hq;obtain⟨j,h1,h2,h3,h4,h5⟩:=qO he;obtain⟨w,ew,rw'⟩:=r.get h2;have hl:=r.length;have hn:=jZ;have fin:EP X pins σ Q w s:=(aG z H I rw' q)
 exact subscriptTail_builtinR (x:=w) pl.typeIs slot_tuple_getitem.lookup
  (getItem_tuple (j:=j) (Q:=λr s'=>r=w/\EP X pins σ Q r s') pl (by lia) (by lia) (by rw[ZF,<-hl];exact h1) (by simpa using ew) ⟨rfl,fin⟩) hs
theorem P8:IxR X RD:=by
 intro value slice pins s σ H x y v u Q I rx ry h hs;obtain⟨z,rfl,z1⟩:=M7 h;obtain⟨i,rfl,z2⟩:=dC z1;obtain⟨c,hz,he,q⟩:=z2;sleep 13;obtain⟨t',rfl⟩:=ry;obtain⟨j,h1,h2,h3,h4,h5⟩:=qO he;have hl:z.cps.toList.length=z.length:=by simp[Str.length]
 rw[hl]at h1 h4 h5;have hn:=jZ;exact tail_any (typeIs_str s z t) slot_str_getitem.lookup (getItem_str (c:=c) (by
  have e1:decide (i < -(2 ^ 63:Int))=false:=Yc (by lia);have e2:decide (i>=2 ^ 63)=false:=Yc (by lia);rw[e1,e2,Bool.or_false]) (by rw[h1];simpa using h2) (aG (.str ⟨#[c]⟩) H (I.tok _) ⟨_,rfl⟩ q)) hs
def rIx:R2:=λx y H Q=>RE x y H Q\/RC x y H Q\/RD x y H Q
theorem mR:IxR X (rIx):=aJ.or (aI.or P8)
theorem AU(its:List Value)(n j:Nat)(u:Value):Obj.mapSeq (·.setIfInBounds j u) { cls:=.type "list",data:=.seq its.toArray n }={ cls:=.type "list",data:=.seq (its.set j u).toArray n }:=by
 simp[Obj.mapSeq]
theorem Inv.lst{pins:List (!16)}{σ:St}{H:Hp}{s:Shared}{p:Addr}{xs:List V}(I:Inv X pins σ H s)(h:H p=some (.lst xs)) :
  ∃(its:List Value) (n:Nat),bD xs its/\s.heap.get? p=some { cls:=.type "list",data:=.seq its.toArray n }/\xs.length<=ZW:=by
 obtain⟨z,its,n,r,e⟩:=I.hok p _ h;exact(aG its n r e z)
theorem Inv.lstUpd{pins:List (!16)}{σ:St}{H:Hp}{s:Shared}{p:Addr}{xs ys:List V}{its its':List Value}{n n':Nat}{f:Obj->Obj}(I:Inv X pins σ H s)(h:H p=some (.lst xs))
  (ho:s.heap.get? p=some { cls:=.type "list",data:=.seq its.toArray n }) (hf:f { cls:=.type "list",data:=.seq its.toArray n }={ cls:=.type "list",data:=.seq its'.toArray n' }) (r:bD ys its') (hz:ys.length<=ZW) (t:Nat) :
  Inv X pins σ (upd H p (.lst ys)) { s with heap:=s.heap.update p f,toks:=t }:=by
 have e:(s.heap.update p f).get? p=some { cls:=.type "list",data:=.seq its'.toArray n' }:=by
  rw[Heap.get?_update_self f ho (by rw[hf]<;>rfl),hf]
 refine I.write (x:=p) (e:=p) (by rw[h];trivial) (.inl rfl) (λb u hb q=>(Heap.get?_update_other _ _ (Yh hb)).trans q) ⟨_,e⟩ ?_;exact(fD hz its' n' r e)
def RB:V->V->V->Hp->(Hp->Prop)->Prop:=λo i v H Q=>o.gr λp=>i.gi λk=>∃xs j,H p=some (.lst xs)/\ixN xs.length k=some j/\Q (upd H p (.lst (xs.set j v)))
theorem set_list:QL X RB:=by
 intro pins s σ H o i v ov iv u Q I ro ri rv h;obtain⟨p,rfl,z1⟩:=bV h;obtain⟨k,rfl,z2⟩:=dC z1;obtain⟨xs,j,hp,hj,q⟩:=z2;cases ro;obtain⟨t,rfl⟩:=ri;obtain⟨its,n,r,ho,hz⟩:=I.lst hp;obtain⟨h1,h2,h3,h4⟩:=CT hj;have hl:=r.length;have hn:=jZ;have I':Inv X pins σ (upd H p (.lst (xs.set j v))) { s with heap:=s.heap.update p (Obj.mapSeq (·.setIfInBounds j u)) } :=
  I.lstUpd hp ho (AU its n j u) (r.set rv j) (by rw[ZR];exact hz) s.toks
 by_cases h0:0<=k
 ·have hk:k.toNat=j:=by
   rw[seqIndex_of h0 h4]at h1;exact Option.some.inj h1
  exact PySem.W.ki_setAt ho h0 (by lia) (by rw[ZF,<-hl];exact h4) (by rw[hk];exact(xWP _ I' q))
 ·have hk:(k+(its.toArray.size:Int)).toNat=j:=by
   rw[seqIndex_neg (by lia) h3]at h1;rw[ZF,<-hl];exact Option.some.inj h1
  exact PySem.W.ki_setBack ho (by lia) (by rw[ZF,<-hl];exact h3) (by lia) (by rw[hk];exact(xWP _ I' q))
theorem vN(lo hi:Option Int)(n:Nat):(sliceBounds lo hi none n).1=((HT.sIx n 0 lo:Nat):Int)/\(sliceBounds lo hi none n).2.1=((HT.sIx n n hi:Nat):Int)/\(sliceBounds lo hi none n).2.2=1:=by
 refine(xPP ?_ ?_ rfl)
 ·cases lo with
  |none=>simp[sliceBounds,HT.sIx]
  |some i =>
   simp only[sliceBounds,HT.sIx,Option.getD_none,show(1:Int)>0 by decide,if_true];by_cases h:i<0
   ·simp only[h,if_true]<;>lia
   ·simp only[h,if_false]<;>lia
 ·cases hi with
  |none=>simp[sliceBounds,HT.sIx]
  |some i =>
   simp only[sliceBounds,HT.sIx,Option.getD_none,show(1:Int)>0 by decide,if_true];by_cases h:i<0
   ·simp only[h,if_true]<;>lia
   ·simp only[h,if_false]<;>lia
theorem tL(its:List Value)(lo hi:Option Int):slicePick its.toArray lo hi none=((its.drop (HT.sIx its.length 0 lo)).take (HT.sIx its.length its.length hi-HT.sIx its.length 0 lo)).toArray:=by
 obtain⟨h1,h2,h3⟩:=vN lo hi its.toArray.size;unfold slicePick;rw[h1,h2,h3];simp only[sliceRange_one,pick_run,ZF]<;>rfl
def TB:V->Option Int->Option Int->Hp->VK->Prop:=λx lo hi H Q=>x.gr λa=>∃xs,SqL H a xs/\∀p,H p=none->Q (.ref p) (upd H p (.lst (pR xs lo hi)))
theorem qA:SlR X (TB):=by
 intro pins s σ H x v vl vu lo hi sl Q I rx hs pl pu h;obtain⟨a,rfl,z1⟩:=bV h;obtain⟨xs,hx,q⟩:=z1;cases rx;obtain⟨its,r,ht,hz⟩:=I.list hx;have hlen:=r.length;refine(aG ("list") _ slot_list_getitem.lookup ht.isList.typeIs ?_);refine wpAny_getItem_list_slice ht.isList hs pl pu .none (!5) ?_ (by rw[ZF]<;>lia);rw[tL,<-hlen];refine(aG (.ref s.heap.objs.size) _ (I.laid (t':=s.toks) (o:=.lst (pR xs lo hi)) (λb ob q=>YW _ q) (ZC _) ?_) rfl (q _ (I.hok.fresh (ZC _))));exact(fD (YQ (yP xs lo hi) hz) _ 0 ((r.drop (HT.sIx xs.length 0 lo)).take (HT.sIx xs.length xs.length hi-HT.sIx xs.length 0 lo)) (YU _ rfl))
def lV:V->Bool
 |.non=>true
 |.bl _=>true
 |.int _=>true
 |.str _=>true
 |_=>false
def eqV:V->V->Bool
 |.non,.non=>true
 |.bl a,.bl b=>a==b
 |.bl a,.int b=>(if a then 1 else 0)==b
 |.int a,.bl b=>a==(if b then 1 else 0)
 |.int a,.int b=>a==b
 |.str a,.str b=>a==b
 |_,_=>false
theorem QD{A:Around}{s:Shared}{y x:V}{u v:Value}(ry:RelV y u)(rx:RelV x v)(fy:lV y=true)(fx:lV x=true):SeqAt.EqAt A s u v (eqV y x):=by
 cases y with
 |non =>
  cases ry;cases x with
  |non=>cases rx;exact SeqAt.EqAt.same _
  |bl b=>cases rx;exact SeqAt.EqAt.none_bool b
  |int b=>obtain⟨t,rfl⟩:=rx;exact SeqAt.EqAt.none_int b t
  |str b=>obtain⟨t,rfl⟩:=rx;exact SeqAt.EqAt.none_str b t
  |_=>exact Yg (show false=true from fx) YT
 |bl a =>
  cases ry;cases x with
  |non=>cases rx;exact SeqAt.EqAt.bool_none a
  |bl b=>cases rx;exact SeqAt.EqAt.bool_bool a b
  |int b=>obtain⟨t,rfl⟩:=rx;exact SeqAt.EqAt.bool_int a b t
  |str b=>obtain⟨t,rfl⟩:=rx;exact SeqAt.EqAt.bool_str a b t
  |_=>exact Yg (show false=true from fx) YT
 |int a =>
  obtain⟨t',rfl⟩:=ry;cases x with
  |non=>cases rx;exact SeqAt.EqAt.int_none a t'
  |bl b=>cases rx;exact SeqAt.EqAt.int_bool a t' b
  |int b=>obtain⟨t,rfl⟩:=rx;exact SeqAt.EqAt.int_int a t' b t
  |str b=>obtain⟨t,rfl⟩:=rx;exact SeqAt.EqAt.int_str a t' b t
  |_=>exact Yg (show false=true from fx) YT
 |str a =>
  obtain⟨t',rfl⟩:=ry;cases x with
  |non=>cases rx;exact SeqAt.EqAt.str_none a t'
  |bl b=>cases rx;exact SeqAt.EqAt.str_bool a t' b
  |int b=>obtain⟨t,rfl⟩:=rx;exact SeqAt.EqAt.str_int a t' b t
  |str b=>obtain⟨t,rfl⟩:=rx;exact SeqAt.EqAt.str_str a t' b t
  |_=>exact Yg (show false=true from fx) YT
 |_=>exact Yg (show false=true from fy) YT
def eqU(x:V)(u:Value):Bool:=match u with
 |.none=>eqV .non x
 |.bool b=>eqV (.bl b) x
 |.int i _=>eqV (.int i) x
 |.str z _=>eqV (.str z) x
 |_=>false
theorem A6{x y:V}{u:Value}(r:RelV y u)(f:lV y=true):eqU x u=eqV y x:=by
 cases y with
 |non=>cases r;rfl
 |bl b=>cases r;rfl
 |int i=>obtain⟨t,rfl⟩:=r;rfl
 |str z=>obtain⟨t,rfl⟩:=r;rfl
 |_=>exact Yg (show false=true from f) YT
theorem wR{x:V}:∀{xs:List V}{us:List Value},bD xs us->xs.all lV=true->us.any (eqU x)=xs.any λy=>eqV y x
 |_,_,.nil,_=>rfl
 |y::xs,u::us,.cons r t,f=>by
  rw[List.all_cons,Xg]at f;rw[List.any_cons,List.any_cons,A6 r f.1,wR t f.2]
theorem nF{A:Around}{s:Shared}{x:V}{v:Value}(rx:RelV x v)(fx:lV x=true):∀{xs:List V}{us:List Value},bD xs us->xs.all lV=true->∀u∈us,SeqAt.EqAt A s u v (eqU x u)
 |_,_,.nil,_=>λu hu=>by cases hu
 |y::xs,u::us,.cons r t,f=>λu' hu=>by
  rw[List.all_cons,Xg]at f;rcases Zn.mp hu with rfl | hu
  ·rw[A6 r f.1];exact QD r rx f.1 fx
  ·exact nF rx fx t f.2 u' hu
def inV(x:V)(xs:List V):Bool:=xs.any λy=>eqV y x
def rIn(neg:Bool):R2:=λx y H Q=>y.gr λp=>∃xs,(SqL H p xs\/SqT H p xs)/\lV x=true/\xs.all lV=true/\Q (.bl (if neg then !inV x xs else inV x xs)) H
theorem vS:OpR X (compareOp .NotIn) (rIn true):=by
 sleep 4;obtain⟨p,rfl,z1⟩:=bV h;obtain⟨xs,hq,fx,fs,q⟩:=z1;cases ry;rcases hq with hq | hq
 ·obtain⟨its,r,pl,hz⟩:=I.list hq;refine SeqAt.notIn_listAt (eqU x) pl.isList (λw hw=>nF rx fx r fs w (by simpa using hw)) (aG (.bl _) H I rfl ?_);rw[show its.toArray.any (eqU x)=its.any (eqU x) by simp,wR r fs];exact q
 ·obtain⟨its,r,pl,hz⟩:=I.tuple hq;refine SeqAt.notIn_tupleAt (eqU x) pl (λw hw=>nF rx fx r fs w (by simpa using hw)) (aG (.bl _) H I rfl ?_);rw[show its.toArray.any (eqU x)=its.any (eqU x) by simp,wR r fs];exact q
theorem fU:fY X (.builtin "len") (λxs H Q=>∃p ys,xs=[.ref p]/\(SqL H p ys\/SqT H p ys)/\Q (.int ys.length) H):=by
 sleep 3;obtain⟨p,ys,rfl,hq,q⟩:=h;sleep 6;cases rx;have hn:=jZ;rcases hq with hq | hq
 ·obtain⟨its,r',pl,hz⟩:=I.list hq;have hlen:=r'.length;exact Calls.call_len_list pl.isList (by simp only[ZF]<;>lia) (aG (.int ys.length) H (I.tok _) ⟨s.toks+1,by rw[ZF,hlen]⟩ q)
 ·obtain⟨its,r',pl,hz⟩:=I.tuple hq;have hlen:=r'.length;exact len_tuple pl (by simp only[ZF]<;>lia) (aG (.int ys.length) H (I.tok _) ⟨s.toks+1,by rw[ZF,hlen]⟩ q)
theorem bL:fY X (.type "list") (λxs H Q=>∃p ys,xs=[.ref p]/\(SqL H p ys\/SqT H p ys)/\∀l,H l=none->Q (.ref l) (upd H l (.lst ys))):=by
 sleep 3;obtain⟨p,ys,rfl,hq,q⟩:=h;sleep 6;cases rx;have fin:∀(its:List Value),bD ys its->ys.length<=ZW->∀(h':Heap) (c':Nat),(∀b o',s.heap.get? b=some o'->h'.get? b=some o') ->
   h'.get? s.heap.objs.size=some { cls:=.type "list",dict:=none,data:=.seq its.toArray c',slots:=#[] }->EP X pins σ Q (.ref s.heap.objs.size) { s with heap:=h' }:=λits r' hz h' c' kp e =>
  (aG (.ref s.heap.objs.size) _ (I.laid (t':=s.toks) kp (ZC _) (show cD X.prog X.w _ h' _ (.lst ys) from(fD hz its c' r' e))) rfl (q _ (I.hok.fresh (ZC _))))
 rcases hq with hq | hq
 ·obtain⟨its,r',pl,hz⟩:=I.list hq;have hlen:=r'.length;obtain⟨o,ho,hc,n,hd⟩:=pl.isList;exact call_list_seq p (.inl rfl) ho hc hd (λh' c' kp e=>fin its r' hz h' c' kp e) (by simp only[ZF]<;>lia)
 ·obtain⟨its,r',pl,hz⟩:=I.tuple hq;have hlen:=r'.length;obtain⟨o,ho,hc,n,hd⟩:=pl;exact call_list_seq p (.inr rfl) ho hc hd (λh' c' kp e=>fin its r' hz h' c' kp e) (by simp only[ZF]<;>lia)
theorem tP:fY X (.type "tuple") (λxs H Q=>∃p ys,xs=[.ref p]/\((SqL H p ys/\∀l,H l=none->Q (.ref l) (upd H l (.tup ys)))\/(SqT H p ys/\Q (.ref p) H))):=by
 sleep 3;obtain⟨p,ys,rfl,h⟩:=h;sleep 6;cases rx;rcases h with⟨hq,q⟩ | ⟨hq,q⟩
 ·obtain⟨its,r',pl,hz⟩:=I.list hq;have hlen:=r'.length;refine call_tuple_list pl.isList (λh' kp=>?_) (by simp only[ZF]<;>lia);have I1:Inv X pins σ H { s with heap:=h' }:=I.kept (t':=s.toks) kp;have I2:Inv X pins σ (upd H h'.objs.size (.tup ys)) { s with heap:=h'.push { cls:=.type "tuple",data:=.seq its.toArray } } :=
   I1.laid (t':=s.toks) (λb o e=>YW _ e) (ZC _) (show cD X.prog X.w _ _ _ (.tup ys) from(fN hz its r' (IsTup.new _ _)))
  exact(aG (.ref h'.objs.size) _ I2 rfl (q _ (I1.hok.fresh (ZC _))))
 ·obtain⟨its,r',pl,hz⟩:=I.tuple hq;exact call_tuple_same pl (aG (.ref p) H I rfl q)
def tyV(T:String)(x:V)(H:Hp):Prop:=match x with
 |.str _=>T="str"
 |.int _=>T="int"
 |.ref p=>(T="list"/\∃xs,SqL H p xs) \/       (T="dict"/\((∃kvs,H p=some (.dK kvs))\/∃kvs,H p=some (.dT kvs)))\/(T="set"/\∃S n,H p=some (.set S n))
 |_=>False
theorem zO{pins:List (!16)}{σ:St}{H:Hp}{s:Shared}{T:String}{x:V}{v:Value}(I:Inv X pins σ H s)(r:RelV x v)(ty:tyV T x H) :
  s.TypeIs v T/\∀a,v=.ref a->∃ob,s.heap.get? a=some ob/\ob.dict=none:=by
 cases x with
 |str z =>
  obtain⟨t,rfl⟩:=r;cases (show T="str" from ty);exact⟨typeIs_str s z t,λ_ e=>nomatch e⟩
 |int i =>
  obtain⟨t,rfl⟩:=r;cases (show T="int" from ty);exact⟨typeIs_int s i t,λ_ e=>nomatch e⟩
 |ref p =>
  cases r;rcases ty with⟨rfl,xs,hq⟩ | ⟨rfl,hk⟩ | ⟨rfl,S,n,hk⟩
  ·obtain⟨its,_,pl,_⟩:=I.list hq;refine⟨pl.isList.typeIs,λa e=>?_⟩;cases e;obtain⟨o,n,e,c,hd,_⟩:=pl;exact(xWP o e hd)
  ·have z:∃o,s.heap.get? p=some o/\o.ExactDict:=by
    rcases hk with⟨kvs,hk⟩ | ⟨kvs,hk⟩
    ·obtain⟨_,_,_,_,o,_,_,e,ex,_⟩:=I.hok p _ hk;exact(xWP o e ex)
    ·obtain⟨_,_,_,_,o,_,_,e,ex,_⟩:=I.hok p _ hk;exact(xWP o e ex)
   obtain⟨o,e,ex⟩:=z;refine⟨(xWP o e ex.1),λa e2=>?_⟩;cases e2;exact(xWP o e ex.2.1)
  ·obtain⟨o,_,_,_,e,ex,_⟩:=I.hok p _ hk;refine⟨(xWP o e ex.1),λa e2=>?_⟩;cases e2;exact(xWP o e ex.2.1)
 |_=>exact False.elim ty
def SZ(T:String)(r:V->List V->Hp->VK->Prop)(to:TE):TE:=λσ H Q=>to σ H λx H1=>tyV T x H1/\r x [] H1 Q
def tBM(T:String)(r:V->List V->Hp->VK->Prop)(to:TE)(t:TA):TE:=λσ H Q=>to σ H λx H1=>tyV T x H1/\t σ H1 λxs H2=>r x xs H2 Q
variable{o e:Expr}{es:List Expr}{to:TE}{t:TA}{name:Str}{apos cpos:Pos}{T id:String}{r:V->List V->Hp->VK->Prop}
theorem HH(pa:PlainAttrs T)(slot:Slot T name id)(hty:typeOf (.builtin id)=pure (.type "method_descriptor"))(hm:MtR X id r)(ho:PE X o to)
  (hbase:attributeBase o name X.env (eval o X.env)=eval o X.env:=by rfl) (hline:(apos.endLine==cpos.line)=true:=by rfl):PE X (.Call (.Attribute o name apos) [] [] cpos) (SZ T r to):=by
 sleep 2;refine wpAny_Call_method0_late hbase hline (thn (ho pins s σ H _ I h) λv s1 ⟨x,H1,I1,r1,ty,q1⟩=>?_);obtain⟨h1,h2⟩:=zO I1 r1 ty;exact(cG T id pa slot hty h1 h2 (Calls.callWith_builtin rfl (PySem.evalArgs_none (hm pins s1 σ H1 x [] v [] Q I1 r1 .nil q1))))
theorem iU(pa:PlainAttrs T)(slot:Slot T name id)(hty:typeOf (.builtin id)=pure (.type "method_descriptor"))(hm:MtR X id r)(ho:PE X o to)(ha:PA X (e::es) t)
  (hbase:attributeBase o name X.env (eval o X.env)=eval o X.env:=by rfl)
  (hfew:((backTo cpos (starEach (e::es) X.env)).all (λx=>!x.1)&&(backToKw cpos (keywordEach [] X.env)).all (λx=>x.1.isSome)
   && decide ((e::es).length+([]:List Keyword).length+(if ([]:List Keyword).isEmpty then 0 else 1)<30))=true:=by rfl)
  (hline:(apos.endLine==cpos.line)=true:=by rfl) (hs:starEach (e::es) X.env=(false,eval e X.env)::starEach es X.env:=by rfl) (hplain:(backTo cpos (starEach es X.env)).any (·.1)=false:=by rfl) :
  PE X (.Call (.Attribute o name apos) (e::es) [] cpos) (tBM T r to t):=by
 sleep 2;refine wpAny_Call_method_late hbase hfew hline rfl (thn (ho pins s σ H _ I h) λv s1 ⟨x,H1,I1,r1,ty,q1⟩=>?_);obtain⟨h1,h2⟩:=zO I1 r1 ty;refine(cG T id pa slot hty h1 h2 ?_);have hA:=ha cpos pins s1 σ H1 _ I1 q1;rw[hs]at hA ⊢;refine Calls.callWith_builtin (by show(false||(backTo cpos (starEach es X.env)).any (·.1))=false;rw[hplain]<;>rfl) (Calls.evalArgs_plain ?_);exact pP hA λus s2 vs H2 I2 r2 q2=>hm pins s2 σ H2 x vs v us Q I2 r1 r2 q2
end
def MtM(X:Cx)(id:String)(r:V->List V->Hp->VK->Prop):Prop :=
 ∀(pins:List (!16)) (s:Shared) (σ:St) (H:Hp) (x:V) (xs:List V) (v:Value) (us:List Value) (Q:VK),Inv X pins σ H s->RelV x v->bD xs us->r x xs H Q ->
  wpAny (!3) X.A (call (.builtin id) (v::us)) (EP X pins σ Q) X.xe s
theorem bD.one:∀{x:V}{us:List Value},bD [x] us->∃u,us=[u]/\RelV x u:=by
 intro x us h;cases h with
 |cons r h=>cases h;exact(xWP _ rfl r)
theorem bD.two:∀{x y:V}{us:List Value},bD [x,y] us->∃u v,us=[u,v]/\RelV x u/\RelV y v:=by
 intro x y us h;cases h with
 |cons r h=>cases h with
  |cons q h=>cases h;exact(aG _ _ rfl r q)
theorem bD.zero:∀{us:List Value},bD [] us->us=[]
 |_,.nil=>rfl
theorem bD.dropLast{xs:List V}{us:List Value}(h:bD xs us):bD xs.dropLast us.dropLast:=by
 induction h with
 |nil=>exact .nil
 |cons r t ih =>
  cases t with
  |nil=>exact .nil
  |cons q t'=>exact .cons r ih
theorem bD.eraseIdx:∀{xs:List V}{us:List Value}(i:Nat),bD xs us->bD (xs.eraseIdx i) (us.eraseIdx i)
 |_,_,_,.nil=>.nil
 |_,_,0,.cons _ t=>t
 |_,_,i+1,.cons r t=>.cons r (bD.eraseIdx i t)
theorem A5{α:Type}(l:List α):l.eraseIdx (l.length-1)=l.dropLast:=by
 induction l with
 |nil=>rfl
 |cons a r ih =>
  cases r with
  |nil=>rfl
  |cons b r =>
   have e:(a::b::r).length-1=((b::r).length-1)+1:=by
    have h1:(a::b::r).length=r.length+2:=rfl;have h2:(b::r).length=r.length+1:=rfl
    lia
   rw[e,List.eraseIdx_cons_succ,ih]
   all_goals rfl
theorem uN{α:Type}:∀(l:List α) (i:Nat),(l.eraseIdx i).length<=l.length
 |[],_=>ZC _
 |_::_,0=>Nat.le_succ _
 |_::r,i+1=>Nat.succ_le_succ (uN r i)
section
variable{X:Cx}{pins:List (!16)}{σ:St}{H:Hp}{s:Shared}{l b:Addr}{xs ys zs:List V}
theorem Inv.lset{its its':List Value}{n:Nat}{f:Array Value->Array Value}{t':Nat}(I:Inv X pins σ H s)(hH:H l=some (.lst xs))
  (e:s.heap.get? l=some { cls:=.type "list",data:=.seq its.toArray n }) (hf:f its.toArray=its'.toArray) (hv:bD ys its') (hz:ys.length<=ZW) :
  Inv X pins σ (upd H l (.lst ys)) { s with heap:=s.heap.update l (Obj.mapSeq f),toks:=t' }:=by
 have q:=PySem.IsL.update e f;rw[hf]at q;refine I.write (x:=l) (e:=l) (by rw[hH];exact trivial) (.inl rfl) (λb' u hb hu=>(Heap.get?_update_other s.heap (Obj.mapSeq f) (Yh hb)).trans hu) ⟨_,q⟩ ?_;exact(fD hz its' _ hv q)
theorem Inv.lnew{its:List Value}{t':Nat}(I:Inv X pins σ H s)(hv:bD ys its)(hz:ys.length<=ZW) :
  Inv X pins σ (upd H s.heap.objs.size (.lst ys)) { s with heap:=s.heap.push { cls:=.type "list",data:=.seq its.toArray },toks:=t' } :=
 I.laid (λ_ _ q=>YW _ q) (ZC _) (fD hz its 0 hv (YU _ rfl))
theorem Inv.fresh(I:Inv X pins σ H s):H s.heap.objs.size=none:=I.hok.fresh (ZC _)
theorem Inv.lstM(I:Inv X pins σ H s)(hH:H l=some (.lst xs)):xs.length<=ZW/\∃(its:List Value) (n:Nat),bD xs its/\xs.length=its.length/\s.heap.get? l=some { cls:=.type "list",data:=.seq its.toArray n }:=by
 obtain⟨z,its,n,r,e⟩:=I.hok l _ hH;exact(eQ z its n r r.length e)
theorem IE{n:Nat}(h:n<=ZW):Builtin.List.listTooLong n=false:=by
 unfold Builtin.List.listTooLong;exact Yc (by lia)
end
section
variable{X:Cx}
def LF:V->List V->Hp->VK->Prop:=λx vs H Q=>x.gr λl=>LC vs λy y_r=>L0 y_r <| ∃xs,H l=some (.lst xs)/\xs.length<ZW/\Q .non (upd H l (.lst (xs++[y])))
theorem uM:MtM X "list.append" LF:=by
 sleep 12;sleep 18;obtain⟨y,rfl,z2⟩:=N0 z1;obtain⟨xs,hH,hz,q⟩:=z2;cases rx;obtain⟨u,rfl,ru⟩:=rv.one;sleep 10;refine call_meets F.slot_list_append (xWP _ e rfl) F.entry_list_append (F.args_list_append_2 _ _) (PySem.list_append l its.toArray n u (by rw[ZF];lia)) ⟨e,?_⟩;refine(aG .non _ (I.lset (its':=its++[u]) hH e (!5) (r.append (.cons ru .nil)) ?_) rfl q);rw[Zm,ZQ]
 lia
def LD:V->List V->Hp->VK->Prop:=λx vs H Q=>x.gr λl=>∃b xs zs,vs=[.ref b]/\H l=some (.lst xs)/\H b=some (.lst zs)/\xs.length+zs.length<=ZW/\Q .non (upd H l (.lst (xs++zs)))
theorem QP:MtM X "list.extend" LD:=by
 sleep 12;sleep 18;obtain⟨b,xs,zs,rfl,hH,hB,hz,q⟩:=z1;cases rx;obtain⟨u,rfl,ru⟩:=rv.one;cases ru;sleep 10;obtain⟨z2,its2,n2,r2,hl2,e2⟩:=I.lstM hB;have hsz:its.toArray.size+its2.toArray.size<=ZW:=by rw[ZF,ZF];lia
 have hlong:¬(!its.toArray.isEmpty&&Builtin.List.listTooLong (its.toArray.size+its2.toArray.size))=true:=by
  rw[IE hsz,Bool.and_false];exact YT
 refine call_meets F.slot_list_extend (xWP _ e rfl) F.entry_list_extend (F.args_list_extend_2 _ _)
  (AutoSeq1.list_extend_list_list_0 l its.toArray n b its2.toArray n2 hlong (by rw[ZF];lia) (by lia)) (xPP e e2 ?_)
 refine(aG .non _ (I.lset (its':=its++its2) hH e (!5) (r.append r2) ?_) rfl q);rw[Zm]
 lia
def TC:V->List V->Hp->VK->Prop:=λx vs H Q=>x.gr λl=>L0 vs <| ∃xs y,H l=some (.lst xs)/\xs[xs.length-1]?=some y/\Q y (upd H l (.lst xs.dropLast))
theorem IJ:MtM X "list.pop" TC:=by
 sleep 12;sleep 18;obtain⟨rfl,z2⟩:=J3 z1;obtain⟨xs,y,hH,hy,q⟩:=z2;cases rx;have hus:=rv.zero;subst hus;sleep 10;obtain⟨u,hu,ru⟩:=r.get hy;have hy':its.toArray[its.toArray.size-1]?=some u:=by
  show its.toArray[its.length-1]?=some u;rw[<-Array.getElem?_toList,<-hl];exact hu
 refine call_meets F.slot_list_pop (xWP _ e rfl) F.entry_list_pop (F.args_list_pop_1 _) (MeetsSeq.list_pop_last l its.toArray n u hy' (by rw[ZF];lia)) ⟨e,?_⟩;refine(aG y _ (I.lset (its':=its.dropLast) hH e ?_ r.dropLast ?_) ru q)
 ·show its.toArray.eraseIdxIfInBounds (its.toArray.size-1)=its.dropLast.toArray;rw[ZF,List.eraseIdxIfInBounds_toArray,A5]
 ·rw[List.length_dropLast]
  lia
def ON:V->List V->Hp->VK->Prop:=λx vs H Q=>x.gr λl=>∃xs i k y,vs=[.int i]/\H l=some (.lst xs)/\-(2 ^ 63)<=i/\i<2 ^ 63/\seqIndex? i xs.length=some k/\xs[k]?=some y/\Q y (upd H l (.lst (xs.eraseIdx k)))
theorem x6:MtM X "list.pop" ON:=by
 sleep 12;sleep 18;obtain⟨xs,i,k,y,rfl,hH,h1,h2,hk,hy,q⟩:=z1;cases rx;obtain⟨u,rfl,ru⟩:=rv.one;obtain⟨t,rfl⟩:=ru;sleep 10;obtain⟨w,hw,rw'⟩:=r.get hy;refine call_meets F.slot_list_pop (xWP _ e rfl) F.entry_list_pop (F.args_list_pop_2 _ _)
  (MeetsSeq.list_pop_at l its.toArray n i t k w (fitsIndex_both h1 h2) (by rw[ZF,<-hl];exact hk) (by rw[<-Array.getElem?_toList];exact hw) (by rw[ZF];lia)) ⟨e,?_⟩
 refine(aG y _ (I.lset (its':=its.eraseIdx k) hH e ?_ (r.eraseIdx k) ?_) rw' q)
 ·show its.toArray.eraseIdxIfInBounds k=(its.eraseIdx k).toArray;rw[List.eraseIdxIfInBounds_toArray]
 ·have:=uN xs k
  lia
def TJ:R2:=λx y H Q=>x.gr λl=>y.gr λb=>∃xs zs,H l=some (.lst xs)/\H b=some (.lst zs)/\xs.length+zs.length<=ZW/\∀p,H p=none->Q (.ref p) (upd H p (.lst (xs++zs)))
theorem sE:OpR X (binaryOp .Add) TJ:=by
 sleep 4;sleep 18;obtain⟨b,rfl,z2⟩:=bV z1;obtain⟨xs,zs,hH,hB,hz,q⟩:=z2;cases rx;cases ry;sleep 10;obtain⟨z2,its2,n2,r2,hl2,e2⟩:=I.lstM hB;refine PySem.P.add_list e e2 ?_ (by rw[ZF,ZF];lia);have ea:its.toArray++its2.toArray=(its++its2).toArray:=by simp
 rw[ea];exact(aG (.ref _) _ (I.lnew (t':=s.toks) (r.append r2) (by rw[Zm];lia)) rfl (q _ I.fresh))
end
section
variable{prog:Program}{w:World}{A:Around}{E:Value->Shared->Prop}{s:Shared}
end
section
variable{X:Cx}
end
end L2
namespace Att
open PySem PySem.W PySem.Calls PyProof.Rows
theorem pQ{P:Params}{h:Heap}:∀(ns:List Int) (vs:List Value),WellAll P h vs (ns.map WData.int)->IntsAre vs ns:=by
 intro ns;induction ns with
 |nil =>
  intro vs w;rw[List.map_nil]at w;cases w;exact .nil
 |cons n ns ih =>
  intro vs w;rw[ZJ]at w;cases w with
  |cons a b =>
   cases a;exact .cons _ _ (ih _ b)
theorem D6{l:OpenLaw}{n:Nat}(hn:l.most=some n){P:Params}{h:Heap}{args:List WData}{vals:List Value}
  (hpre:l.row.toRowW.claim.pre args=true) (hwl:WellAll P h vals args) :
  ∃a vs ns,vals=[Value.ref a]/\args=[WData.list (ns.map WData.int)]/\h.get? a=some { cls:=.type "list",data:=.seq vs.toArray }/\IntsAre vs ns/\ns.length<=n:=by
 have hsh:WShape.hasAll [] args [.list .int]=true:=(pre_splitW hpre).1;have hc:l.pre.holds [] { args:=args }=true:=(pre_splitW hpre).2;obtain⟨d,r,rfl,h1,h2⟩:=hasAllW_cons hsh;obtain rfl:=hasAllW_nil h2;obtain⟨xs,rfl,h3⟩:=hasW_list h1;obtain⟨ns,rfl⟩:=items_int h3;have hlen:ns.length<=n:=by
  unfold OpenLaw.pre at hc;have h4:(WTm.not (.lt (.lit (.int (n:Int))) (.len (.arg 0)))).holds [] { args:=[.list (ns.map .int)] }=true:=by
   have h4:=(holds_andW hc).1;rw[hn]at h4;exact h4
  have h5:=condW_of h4 (w_not (w_lt w_lit (w_len_list (w_arg rfl))));rw[Zq]at h5;refine Nat.le_of_not_lt λq=>?_;have q':(n:Int)<((ns.length:Nat):Int):=by omega
  first
   |(rw[Ye q']at h5;exact Yg h5 (!1))
   |(simp at h5;omega)
 cases hwl with
 |cons w1 w2 =>
  cases w2;cases w1 with
  |list ho hall=>exact(dX _ _ ns rfl rfl ho (pQ ns _ hall) hlen)
theorem EA(l:OpenLaw)(args:List WData):l.row.toRowW.claim.post args (.bool true) args=true :=
 postW_of (r:=l.row.toRowW) (X:=(true==true))
  (show WShape.has [] (.bool true) .bool=true by first | rfl | decide | simp[WShape.has,WShape.arms,WShape.armsAll])
  (show(WTm.eq .res (.lit (.bool true))).value [] { args:=args,res:=some (.bool true),after:=args }=some (.bool (true==true)) from w_eq_bool (w_res rfl) w_lit) rfl
theorem yX{l:OpenLaw}{n:Nat}{q:Program}{loose:List Str}{XP:(Str->Option Value)->Heap->Prop}{YP:World->Heap->Prop}{d:DefRec}
  (hn:l.most=some n) (hdf:d.params.defaults=[])
  (call:∀(w:World) (s₀ s₁:Shared) (mg mb:Str->Option Value) (fa:Addr) (o:Obj) (pm cd doc:Value) (a:Addr) (vs:List Value) (ns:List Int),
   Ground q loose [] XP w s₀ mg mb s₁.heap->YP w s₁.heap ->
   s₁.heap.get? fa=some o->o.data=.func (docDef d.name d.params d.body d.scope pm cd doc)->s₁.heap.CodeRec cd d.name->mg d.name=some (.ref fa) ->
   s₁.heap.get? a=some { cls:=.type "list",data:=.seq vs.toArray }->IntsAre vs ns->ns.length<=n->s₁.gens=#[] ->
   codeAny (model l.prog w) callerA (.call (.ref fa) ⟨[.ref a],[]⟩) (λr s'=>r=.ok (.ret (.bool true))/\OldK s₁.heap s'.heap/\s'.os=s₁.os/\AllBare s'.gens) s₁) :
  WalkO q loose XP YP l.row.toRowW d [] (λf vs=>PySem.call f vs):=by
 intro w s₀ s₁ mg mb G Y fa o pm cd doc dV kV ho hd hcd hD hmg hg args vals as hpre hlay hrd hwl hlo;obtain rfl:dV=.none:=Dflts.none hD hdf;obtain rfl:kV=.none:=Dflts.noKw hD;obtain⟨a,vs,ns,rfl,rfl,hobj,hints,hlen⟩:=D6 hn hpre hwl;refine enter_call (codeAny_mono (call w s₀ s₁ mg mb fa o pm cd doc a vs ns G Y ho (fd_plain hd) hcd hmg hobj hints hlen hg) λr s' hq=>?_);obtain⟨rfl,h2,h3,h4⟩:=hq;exact(bN (.inl (dX (.bool true) (.bool true) ([]) rfl (λ_=>rfl) (.bool true) (EA l _) (λ_=>⟨List.Pairwise.nil,λ_ hm=>(nomatch hm)⟩))) h2 h3 h4)
section
variable{prog:Program}{w:World}{A:Around}{E:Value->Shared->Prop}{s:Shared}{K:Frag}
end
end Att
namespace L2
open PySem PySem.Spec PyProof.Rows
theorem lG:∀{vs:List Value}{ns:List Int},IntsAre vs ns->bD (!39) vs
 |_,_,.nil=>.nil
 |_,_,.cons n t h=>.cons ⟨t,rfl⟩ (lG h)
def M9(H:Hp):Prop:=∀b,H b=none\/∃o xs,H b=some (.frz o (.lst xs))
theorem IR{P:Program}{w:World}{K:PySem.W.Frag}{mg mb:Str->Option Value}{CX:CXT}{k:Nat}{fa a:Addr}{fd:FuncData}{x:Str}{sp:Sp}{s₁:Shared}{vs:List Value}{ns:List Int}
  (KX:K.In s₁.heap) (hns:s₁.heap.Ns ZV mg) (hb:s₁.heap.Ns builtinsNs mb) (hbb:∀x:Str,x≠"__name__"->mb x=bootBuiltins x) (hlim:s₁.heap.NoLimit) (hg:s₁.gens=#[])
  (ha:s₁.heap.get? a=some { cls:=.type "list",data:=.seq vs.toArray }) (hi:IntsAre vs ns) (hl:ns.length<=ZW) (hr:fV k callerA)
  (F:∀base:Heap,K.In base->base.Ns ZV mg->j8 P w K mg base CX k fa fd [x] sp) (hbind:∀(s:Shared) (u:Value),BindsTo s fd ⟨[u],[]⟩ [(x,u)])
  (hkl:∀o,K.lookup a=some o->o.cls≠.type "list") (hsp:∀H:Hp,M9 H->SqL H a (!39)->sp [.ref a] H (λv _=>v=.bl true) λ_ _ _=>False)
  (hCX:∀H e s',CX [] H s₁ (λ_ _ _=>False) e s'->False) :
  codeAny (model P w) callerA (.call (.ref fa) ⟨[.ref a],[]⟩) (λr s'=>r=.ok (.ret (.bool true))/\OldK s₁.heap s'.heap/\s'.os=s₁.os/\AllBare s'.gens) s₁:=by
 have rv:=lG hi;have lenV:=hi.length;have core:∀H:Hp,M9 H->SqL H a (!39)->HOk P w H s₁.heap->(∀b,H b≠none->b=a)->(H a≠none->K.lookup a=none) ->
   codeAny (model P w) callerA (.call (.ref fa) ⟨[.ref a],[]⟩) (λr s'=>r=.ok (.ret (.bool true))/\OldK s₁.heap s'.heap/\s'.os=s₁.os/\AllBare s'.gens) s₁:=by
  intro H hO hS hok hA hK;have base_of:∀{b:Addr}{o:Obj},s₁.heap.get? b=some o->H b=none->(wG s₁.heap H).get? b=some o:=λe n=>IZ e n;have noA:∀{b:Addr}{o:Obj}{es:Array DictEntry}{ep:Nat},s₁.heap.get? b=some o->o.data=.dict es ep->H b=none:=λ{b o es ep} e d=>by
   cases q:H b with
   |none=>rfl
   |some u =>
    have e':b=a:=hA b (by rw[q];simp);subst e';rw[ha]at e;cases e;have d':Data.seq vs.toArray _=Data.dict es ep:=d;cases d'
  have nsK:∀{b:Addr}{m:Str->Option Value},s₁.heap.Ns b m->(wG s₁.heap H).Ns b m:=λ{b m} ⟨o,es,ep,e,d,r⟩=>(jN o es ep (base_of e (noA e d)) d r)
  have hKb:K.In (wG s₁.heap H):=λb o e=>base_of (KX b o e) (by
   cases q:H b with
   |none=>rfl
   |some u =>
    have e':b=a:=hA b (by rw[q];simp);subst e';rw[hK (by rw[q];simp)]at e;cases e)
  have hM:Mod K mg (wG s₁.heap H):=⟨hKb,nsK hns,(xWP mb (nsK hb) hbb),let⟨mc,h1,h2⟩:=hlim;(xWP mc (nsK h1) h2)⟩
  have e0:BH P w K mg (wG s₁.heap H) callerA [] s₁ H:=⟨rfl,hM,λb o e=>MC e,Nat.le_of_eq (EX _ _),trivial,λb hb=>Yg (show b∈([]:List Addr) from hb) (!5),hok,.of_eq hg⟩
  refine codeAny_mono ((F _ hKb (nsK hns)).run callerA [] s₁ H ⟨[.ref a],[]⟩ [.ref a] [.ref a] _ _ hr e0 (hbind s₁ (.ref a)) (.cons rfl .nil) (hsp H hO hS)) λr s' h=>?_;cases r with
  |error e=>exact(hCX H e s' h).elim
  |ok fl =>
   cases fl with
   |next=>exact False.elim h
   |brk=>exact False.elim h
   |cont=>exact False.elim h
   |ret u =>
    obtain⟨v,H',os,bare,un,hok',r',q⟩:=h;have q':v=.bl true:=q;subst q';obtain rfl:u=Value.bool true:=r';refine(bN rfl (OldK.of_keep λb o e=>?_) os bare);cases q:H b with
    |none=>exact un.keep b o e q (by intro z;exact Yg (show b∈([]:List Addr) from z) (!5)) (!5)
    |some u =>
     rcases hO b with z | ⟨ob,xs,z⟩
     ·rw[q]at z;cases z
     ·have z2:=un.frzs b ob _ z;obtain⟨e1,_⟩:=hok b _ z;obtain⟨e2,_⟩:=hok' b _ z2;rw[e]at e1;cases e1;exact e2
 cases hk:K.lookup a with
 |some o =>
  exact Yg (by have e:=KX a o hk;rw[ha]at e;cases e;rfl) (hkl o hk)
 |none =>
  refine core (λb=>if b=a then some (.frz { cls:=.type "list",data:=.seq vs.toArray } (.lst (!39))) else none) (λb=>?_) (.inr ⟨{ cls:=.type "list",data:=.seq vs.toArray },Yb rfl⟩) (λb u z=>?_) (λb z=>?_) λ_=>hk
  ·by_cases hb:b=a
   ·exact .inr (xWW _ _ (Yb hb))
   ·exact .inl (Ya hb)
  ·by_cases hb:b=a
   ·have z':=(Yb hb).symm.trans z;cases z';subst hb;exact(FH ha (by rw[Zq];exact hl) vs _ rv ha)
   ·have z':=(Ya hb).symm.trans z;cases z'
  ·by_cases hb:b=a
   ·exact hb
   ·exact Yg (Ya hb) z
theorem KF{l:PySem.W.OpenLaw}{n k:Nat}{q:Program}{loose:List Str}{XP:(Str->Option Value)->Heap->Prop}{YP:World->Heap->Prop}{d:DefRec}{K:Params->PySem.W.Frag}{CX:World->CXT}{sp:World->Sp}{x:Str}
  (hn:l.most=some n) (hn2:n<=ZW) (hdf:d.params.defaults=[]) (hr:fV k callerA)
  (hY:∀(w:World) (h:Heap),YP w h->(K w.params).In h)
  (F:∀(w:World) (mg:Str->Option Value) (fa:Addr) (h:Heap),(K w.params).In h->h.Ns ZV mg->mg d.name=some (.ref fa) ->
   ∃fd:FuncData,(∀(s:Shared) (u:Value),BindsTo s fd ⟨[u],[]⟩ [(x,u)]) /\
    ∀base:Heap,(K w.params).In base->base.Ns ZV mg->j8 l.prog w (K w.params) mg base (CX w) k fa fd [x] (sp w))
  (hkl:∀(w:World) a o,(K w.params).lookup a=some o->o.cls≠.type "list") (hsp:∀(w:World) (H:Hp) (a:Addr) (ns:List Int),ns.length<=n->M9 H->SqL H a (!39)->sp w [.ref a] H (λv _=>v=.bl true) λ_ _ _=>False)
  (hCX:∀(w:World) (H:Hp) (s:Shared) (e:Value) (s':Shared),CX w [] H s (λ_ _ _=>False) e s'->False) :
  PySem.W.WalkO q loose XP YP l.row.toRowW d [] (λf vs=>PySem.call f vs):=by
 refine Att.yX hn hdf λw s₀ s₁ mg mb fa o pm cd doc a vs ns G Y ho hd hcd hmg hobj hints hlen hg=>?_;have KX:=hY w _ Y;obtain⟨fd,hb,hF⟩:=F w mg fa _ KX G.T.g hmg;exact IR KX G.T.g G.T.b G.T.builtins G.T.nolimit hg hobj hints (YQ hlen hn2) hr hF hb (hkl w a) (λH hO hS=>hsp w H a ns hlen hO hS) λH e s'=>hCX w H s₁ e s'
def inClass(s:Stmt)(j:Nat):Stmt:=match s with
 |.ClassDef _ _ _ body _ _ _ _ _ _ _=>body.getD j (.Pass ⟨0,0,0,0⟩)
 |_=>.Pass ⟨0,0,0,0⟩
def fT(s:Stmt):Arguments:=match s with
 |.FunctionDef _ a _ _ _ _ _ _ _ _=>a
 |_=>{ posonlyargs:=[],args:=[],vararg:=none,kwonlyargs:=[],kw_defaults:=[],kwarg:=none,defaults:=[] }
def eO(s:Stmt):List Stmt:=match s with
 |.FunctionDef _ _ b _ _ _ _ _ _ _=>b
 |_=>[]
def bQ(s:Stmt):Scope:=match s with
 |.FunctionDef _ _ _ _ _ _ sc _ _ _=>sc
 |_=>{ kind:=.function,names:=[],isGenerator:=false,isCoroutine:=false }
abbrev CX0:CXT:=λ_ _ _ _ _ _=>False
abbrev E0:XK:=λ_ _ _=>False
theorem bR{X:Cx}:pD CX0 X E0:=λ_ _ _ _ _ _ _ h=>h.elim
structure Fun(K:PySem.W.Frag)(x qual:Str)(st:Stmt)(f:Addr)(fd:FuncData):Prop where
 ex:∃(oc:Value) (od:Option Addr) (kV doc pm:Value) (an:Option Addr) (cdv ct:Value) (osl:Array (Option Value)),
  fd=PySem.W.fnOf x qual (fT st) (eO st) (bQ st) .none kV doc pm an cdv ct/\K.lookup f=some ⟨oc,od,.func fd,osl⟩/\PySem.W.codeIn K cdv qual=true
 kp:PySem.W.keepIn K (.ref f)=true
section
variable{P:Program}{w:World}{K:PySem.W.Frag}{mg:Str->Option Value}{base:Heap}
theorem Fun.ok{x qual:Str}{st:Stmt}{f:Addr}{fd:FuncData}{N ps:List Str}{k:Nat}{sp:Sp}(F:Fun K x qual st f fd)(S:dU N ps (bQ st))(len:∀vs H Q E,sp vs H Q E->vs.length=ps.length)
  (hbody:∀(cdv:Value) (A:Around) (outer:List Env) (s:Shared) (H:Hp) (vs:List V) (Q:VK) (E:XK),fV k (A.deeper (envOfC qual (bQ st) s.heap.objs.size f cdv))->sp vs H Q E ->
   ∃t,PSs (yO CX0 P w K mg base N qual (bQ st) f cdv A outer s H E).nox (eO st) t/\t { nx:=λ_ H'=>Q .non H',rt:=Q } (start N vs) H):j8 P w K mg base CX0 (k+1) f fd ps sp:=by
 obtain⟨oc,od,kV,doc,pm,an,cdv,ct,osl,rfl,lk,hcd⟩:=F.ex;refine R3 lk hcd S len λA outer s H vs Q E hr hsp=>?_;obtain⟨t,h,q⟩:=hbody cdv A outer s H vs Q E hr hsp;exact(xWP t h.nox q)
theorem Fun.binds{x qual:Str}{st:Stmt}{f:Addr}{fd:FuncData}{ps:List Str}(F:Fun K x qual st f fd)
  (h:∀(kV doc pm:Value) (an:Option Addr) (cdv ct:Value) (us:List Value),us.length=ps.length->bindArgs (PySem.W.fnOf x qual (fT st) (eO st) (bQ st) .none kV doc pm an cdv ct) ⟨us,[]⟩=pure (ps.zip us)):Binds K fd ps []:=by
 obtain⟨oc,od,kV,doc,pm,an,cdv,ct,osl,rfl,lk,hcd⟩:=F.ex;exact .all (h kV doc pm an cdv ct)
theorem A3{x qual:Str}{st:Stmt}{f:Addr}{oc:Value}{od an:Option Addr}{osl:Array (Option Value)}{kV doc pm cdv ct:Value}(l:K.lookup f=some ⟨oc,od,.func (PySem.W.fnOf x qual (fT st) (eO st) (bQ st) .none kV doc pm an cdv ct),osl⟩)
  (c:PySem.W.codeIn K cdv qual=true) (k:PySem.W.keepIn K (.ref f)=true):Fun K x qual st f (PySem.W.fnOf x qual (fT st) (eO st) (bQ st) .none kV doc pm an cdv ct):=⟨(aR oc od kV doc pm an cdv ct osl (xPP rfl l c)),k⟩
end
theorem CU{A:Around}{k:Nat}(hr:fV k A):A.units+1<cLine:=Xq (Nat.add_le_add_left (by decide:1<=64) _) hr.units
section
variable{X:Cx}
theorem pv(i:Nat){x:Str}{pos:Pos}(hN:X.N[i]?=some x:=by rfl)(hv:Vis X.env.scope x:=by first | exact Or.inl rfl | exact Or.inr (Or.inl rfl) | exact Or.inr (Or.inr rfl))(hd:(!48)=false:=by decide)
  (hcd:(x==("__classdict__" : Str))=false:=by decide):PE X (.Name x pos) (KI i):=OY hN hv hd hcd
end
theorem i2{c:Bool}{A B:Prop}(h1:c=true->A)(h2:¬c=true->B):If c A B:=⟨h1,λz=>h2 (by rw[z];decide)⟩
theorem iFb{c:Bool}{A B:Prop}(hc:c=false)(h:B):If c A B:=by subst hc;exact iF h
theorem iTb{c:Bool}{A B:Prop}(hc:c=true)(h:A):If c A B:=by subst hc;exact iT h
theorem iNS{c A B:Prop}[Decidable c](hc:c)(h:B):If (!decide c) A B:=by rw[Ye hc];exact iF h
def aK(H H':Hp):Prop:=∀b o,H b=some o->H' b=some o
theorem aK.refl(H:Hp):aK H H:=λ_ _ h=>h
theorem aK.trans{H H1 H2:Hp}(a:aK H H1)(b:aK H1 H2):aK H H2:=λc o h=>b c o (a c o h)
theorem aK.free{H H':Hp}(e:aK H H'){l:Addr}(h:H' l=Option.none):H l=Option.none:=by
 cases q:H l with
 |none=>rfl
 |some o =>
  rw[e l o q]at h;cases h
theorem aK.seq{H H':Hp}{a:Addr}{xs:List V}(e:aK H H')(h:SqL H a xs):SqL H' a xs:=by
 rcases h with h | ⟨o,h⟩
 ·exact .inl (e _ _ h)
 ·exact .inr ⟨o,e _ _ h⟩
end L2
set_option Elab.async false
set_option linter.all false
set_option maxRecDepth 100000
set_option maxHeartbeats 4000000
namespace L2
open PySem PySem.Spec PyProof.Rows
def jK(cells:List (Str×Addr)):List (Str×NameKind)->List (Str×Addr)->List (Str×Addr)
 |[],cs=>cs
 |x::r,cs=>jK cells r (if x.2=.free then ((cells.lookup x.1).map λc=>(x.1,c)).toList++cs else cs)
theorem lW{scope:Scope}{env:Env}(h:∀x∈scope.names,x.2=.free->∃c,env.cells.lookup x.1=some c) :
  closureFor scope env=pure (jK env.cells scope.names []):=by
 have key:∀(l:List (Str×NameKind)) (cs:List (Str×Addr)) (f:Str×NameKind->List (Str×Addr)->Sem (ForInStep (List (Str×Addr)))),
   (∀x∈l,x.2=.free->∃c,env.cells.lookup x.1=some c) ->
   (∀x cs,f x cs=if (x.2==NameKind.free)=true then (cellOf env x.1 >>= λa=>pure (ForInStep.yield ((x.1,a)::cs))) else pure (ForInStep.yield cs)) ->
   forIn l cs f=pure (jK env.cells l cs):=by
  intro l;induction l with
  |nil=>intro cs f _ _;rfl
  |cons x r ih =>
   intro cs f hx hf;rw[List.forIn_cons,hf];by_cases hk:x.2=.free
   ·obtain⟨c,hc⟩:=hx x Zd hk;rw[Yb (by simp[hk])];have e:cellOf env x.1=pure c:=by unfold cellOf;rw[hc]
    rw[e];simp only[pure_bind];rw[ih _ f (λy hy=>hx y (Zw _ hy)) hf];show _=pure (jK env.cells r (if x.2=.free then ((env.cells.lookup x.1).map λc=>(x.1,c)).toList++cs else cs));rw[Yb hk,hc];rfl
   ·rw[Ya (by simp[hk])];simp only[pure_bind];rw[ih _ f (λy hy=>hx y (Zw _ hy)) hf];show _=pure (jK env.cells r (if x.2=.free then ((env.cells.lookup x.1).map λc=>(x.1,c)).toList++cs else cs));rw[Ya hk]
 simp only[closureFor];rw[key scope.names [] _ h (λx cs=>by obtain⟨n,k⟩:=x;rfl)]
 first | rfl | simp only[pure_bind]
theorem wN{cells:List (Str×Addr)}:∀(l:List (Str×NameKind)) (cs:List (Str×Addr)) {x:Str}{c:Addr},(jK cells l cs).lookup x=some c->cs.lookup x=some c\/cells.lookup x=some c
 |[],_,_,_,h=>.inl h
 |y::r,cs,x,c,h=>by
  have h':(jK cells r (if y.2=.free then ((cells.lookup y.1).map λc=>(y.1,c)).toList++cs else cs)).lookup x=some c:=h;rcases wN r _ h' with q | q
  ·by_cases hk:y.2=.free
   ·rw[Yb hk]at q;cases hl:cells.lookup y.1 with
    |none=>rw[hl]at q;exact .inl q
    |some d =>
     rw[hl]at q;have q':(((y.1,d)::cs).lookup x)=some c:=q;rw[List.lookup_cons]at q';cases hb:x==y.1 with
     |true =>
      rw[hb]at q';have e:=Yi hb;subst e
      right
      rw[hl];exact q'
     |false=>rw[hb]at q';exact .inl q'
   ·rw[Ya hk]at q;exact .inl q
  ·exact .inr q
theorem yS{cells:List (Str×Addr)}:∀(l:List (Str×NameKind)) (cs:List (Str×Addr)) (x:Str),((x,NameKind.free)∈l/\∃c,cells.lookup x=some c)\/(∃c,cs.lookup x=some c)->∃c,(jK cells l cs).lookup x=some c
 |[],cs,x,h=>by
  rcases h with⟨q,_⟩ | q
  ·cases q
  ·exact q
 |y::r,cs,x,h=>by
  show ∃c,(jK cells r (if y.2=.free then ((cells.lookup y.1).map λc=>(y.1,c)).toList++cs else cs)).lookup x=some c;apply yS r;rcases h with⟨q,c,hc⟩ | ⟨c,hc⟩
  ·rcases Zn.mp q with q | q
   ·right
    subst q;rw[Yb rfl,hc];refine⟨c,?_⟩;show((x,c)::cs).lookup x=some c;rw[List.lookup_cons];simp
   ·exact .inl ⟨q,c,hc⟩
  ·right
   by_cases hk:y.2=.free
   ·rw[Yb hk];cases hl:cells.lookup y.1 with
    |none=>exact⟨c,hc⟩
    |some d =>
     show ∃c,((y.1,d)::cs).lookup x=some c;rw[List.lookup_cons];cases hb:x==y.1 with
     |true=>exact⟨d,rfl⟩
     |false=>exact⟨c,hc⟩
   ·rw[Ya hk];exact⟨c,hc⟩
theorem mG{env:Env}:∀{names:List (Str×NameKind)}{x:Str}{k':NameKind},
  (names.map λ(n,k)=>if (!14) then (n,NameKind.cell) else (n,k)).lookup x=some k' ->
  ∃k,(x,k)∈names/\(k=k'\/(k=.free/\k'=.cell))
 |[],_,_,h=>by simp at h
 |(n,k)::r,x,k',h=>by
  have ih:=@mG env r x k';have h':List.lookup x ((if (!14)=true then (n,NameKind.cell) else (n,k))::_)=some k':=h;by_cases hc:(!14)=true
  ·rw[Yb hc,List.lookup_cons]at h';cases hb:x==n with
   |true =>
    rw[hb]at h';have e:=Yi hb;subst e;cases h';refine(xWP k Zd (.inr ⟨?_,rfl⟩));simp only[Xg]at hc;exact Yi hc.1.1
   |false =>
    rw[hb]at h';obtain⟨k2,q,z⟩:=ih h';exact(xWP k2 (Zw _ q) z)
  ·rw[Ya hc,List.lookup_cons]at h';cases hb:x==n with
   |true =>
    rw[hb]at h';have e:=Yi hb;subst e;cases h';exact(xWP k Zd (.inl rfl))
   |false =>
    rw[hb]at h';obtain⟨k2,q,z⟩:=ih h';exact(xWP k2 (Zw _ q) z)
theorem m7{env:Env}:∀{names:List (Str×NameKind)}{x:Str},names.lookup x=some .free ->
  (names.map λ(n,k)=>if (!14) then (n,NameKind.cell) else (n,k)).lookup x=some .cell \/
  (names.map λ(n,k)=>if (!14) then (n,NameKind.cell) else (n,k)).lookup x=some .free
 |[],_,h=>by simp at h
 |(n,k)::r,x,h=>by
  have ih:=@m7 env r x;show List.lookup x ((if (!14)=true then (n,NameKind.cell) else (n,k))::_)=some .cell \/
   List.lookup x ((if (!14)=true then (n,NameKind.cell) else (n,k))::_)=some .free
  rw[List.lookup_cons]at h;by_cases hc:(!14)=true
  ·rw[Yb hc];simp only[List.lookup_cons];cases hb:x==n with
   |true=>exact .inl rfl
   |false=>rw[hb]at h;exact ih h
  ·rw[Ya hc];simp only[List.lookup_cons];cases hb:x==n with
   |true=>rw[hb]at h;exact .inr h
   |false=>rw[hb]at h;exact ih h
def Cx.comp(X:Cx)(N:List Str)(scope:Scope)(cl:List (Str×Addr))(C:Addr)(fp:List Addr)(s:Shared)(H:Hp):Cx :=
 { prog:=X.prog,w:=X.w,K:=X.K,mg:=X.mg,base:=X.base,A:=X.A,N:=N,s₀:=s,H₀:=H,env:=compEnvC scope cl C X.env,outer:=X.stack,stack:=X.stack,ex:=fp,fn:=λ_=>false,calm:=X.calm,pn:=[],xe:=λ_ _=>False }
def inner(js:List (Option Nat))(σ:St):St:=js.map λo=>match o with
 |none=>none
 |some j=>(σ[j]?).getD none
def wF(N:List Str)(scope:Scope):List Str->List (Option Nat)->Bool
 |[],[]=>true
 |x::r,o::q=>(match o with | none=>true | some j=>N[j]?==some x&&scope.names.lookup x==some .free)&&wF N scope r q
 |_,_=>false
theorem yI{N:List Str}{scope:Scope}:∀{N':List Str}{js:List (Option Nat)},wF N scope N' js=true->js.length=N'.length
 |[],[],_=>rfl
 |_::r,_::q,h=>by
  have h':=(Bool.and_eq_true_iff.mp h).2;rw[Yq,Yq,yI h']
theorem CS{N:List Str}{scope:Scope}:∀{N':List Str}{js:List (Option Nat)}{i:Nat}{x:Str}{j:Nat},wF N scope N' js=true->N'[i]?=some x->js[i]?=some (some j)->N[j]?=some x/\scope.names.lookup x=some .free
 |[],[],_,_,_,_,h,_=>by simp at h
 |y::r,o::q,0,x,j,h,h1,h2=>by
  have h':=(Bool.and_eq_true_iff.mp h).1;simp at h1 h2;subst h1 h2;have h'':=Bool.and_eq_true_iff.mp h';exact⟨Yi h''.1,Yi h''.2⟩
 |y::r,o::q,i+1,x,j,h,h1,h2=>by
  have h':=(Bool.and_eq_true_iff.mp h).2;exact CS (i:=i) h' (by simpa using h1) (by simpa using h2)
theorem IW{js:List (Option Nat)}{σ:St}{i:Nat}{v:V}(h:(!47)[i]?=some (some v)):∃j,js[i]?=some (some j)/\σ[j]?=some (some v):=by
 unfold inner at h;rw[Zk]at h;cases e:js[i]? with
 |none=>rw[e]at h;cases h
 |some o =>
  rw[e]at h;cases o with
  |none=>cases h
  |some j =>
   refine(xWP j rfl ?_);have h':(σ[j]?).getD none=some v:=by simpa using h
   cases q:σ[j]? with
   |none=>rw[q]at h';cases h'
   |some z=>rw[q]at h';simp at h';rw[h']
structure Fills(σ σ':St):Prop where
 len:σ.length=σ'.length
 at_:∀(i:Nat) v,σ[i]?=some (some v)->σ'[i]?=some (some v)
theorem Fills.refl(σ:St):Fills σ σ:=⟨rfl,λ_ _ h=>h⟩
theorem Fills.set{σ σ':St}(f:Fills σ σ'){i:Nat}(x:V)(h:σ[i]?=some none):Fills σ (σ'.set i (some x)):=by
 refine⟨by rw[ZR];exact f.len,λj v q=>?_⟩;by_cases e:i=j
 ·subst e;rw[h]at q;cases q
 ·rw[ZK e];exact f.at_ j v q
section
variable{X:Cx}{pins:List (!16)}{σ:St}{H:Hp}{s:Shared}
theorem JR{N':List Str}{js:List (Option Nat)}{scope:Scope}{fp:List Addr}{m:Str->Option Value}{h1:Heap}{tk:Nat}(I:Inv X pins σ H s)
  (hk:scope.kind=.function) (hcell:∀y∈scope.names,y.2≠.cell) (hfree:∀y∈scope.names,y.2=.free->X.env.kindOf y.1=some .cell\/X.env.kindOf y.1=some .free) (hjs:wF X.N scope N' js=true)
  (fpok:∀b∈fp,pU X pins H b) (fpl:∀b∈fp,b<s.heap.objs.size) (hns:h1.Ns s.heap.objs.size m) (hsb:∀b o,s.heap.get? b=some o->h1.get? b=some o) :
  Inv (X.comp N' scope (!38) s.heap.objs.size fp s H) [] (!47) H { s with heap:=h1,toks:=tk }:=by
 have incl:∀{x c},(!38).lookup x=some c->X.env.cells.lookup x=some c:=λ{x c} q=>by
  rcases wN _ _ q with z | z
  ·simp at z
  ·exact z
 have inn:∀{x:Str},(x,NameKind.free)∈scope.names->∃c,(!38).lookup x=some c:=λ{x} q=>yS _ _ _ (.inl ⟨q,I.ok.has x (hfree _ q rfl)⟩);have fnot:∀b∈fp,b∉frs X.stack:=λb hb z=>(Zn.mp (I.stkSub b z)).elim (fpok b hb).2.1 (fpok b hb).2.2.1;refine⟨⟨I.ok.mod,?_,I.ok.glob,I.ok.blt,ZC _,?_,?_,?_,I.ok.hd,I.ok.frames,.inl rfl,?_,I.bs,YQ I.ok.bsz I.sz,?_,fnot,I.stack,I.stkFree⟩,rfl,I.bare,Un.kept hsb,(xWP m hns ?_),?_,I.fresh,?_,?_,I.hok.kept hsb,?_⟩
 ·exact hk
 ·intro x y c e1 e2;exact I.ok.inj x y c (incl e1) (incl e2)
 ·intro x h;have q:∃k,(x,k)∈scope.names/\k=.free:=by
   rcases h with h | h
   ·obtain⟨k,q1,q2⟩:=mG (env:=X.env) h;rcases q2 with rfl | ⟨q2,_⟩
    ·exact Yg rfl (hcell _ q1)
    ·exact(xWP k q1 q2)
   ·obtain⟨k,q1,q2⟩:=mG (env:=X.env) h;rcases q2 with rfl | ⟨_,q2⟩
    ·exact(xWP _ q1 rfl)
    ·cases q2
  obtain⟨k,q1,rfl⟩:=q;exact inn q1
 ·intro x c h _;cases h
 ·intro b hb;exact⟨ZA (fpl b hb),λx c e=>(fpok b hb).2.2.2.2.1 x c (incl e)⟩
 ·intro b o e hb;rcases(fpok b hb).2.2.2.1 with z | z
  ·exact I.ok.noex b o e z
  ·exact Yg (Xz (YV e) (YQ I.ok.bsz z)) (YY _)
 ·intro i x v e1 e2 _;obtain⟨j,q1,q2⟩:=IW e2;obtain⟨q3,q4⟩:=CS hjs e1 q1;have q5:(x,NameKind.free)∈scope.names:=by
   have:∀{l:List (Str×NameKind)},l.lookup x=some .free->(x,NameKind.free)∈l:=by
    intro l;induction l with
    |nil=>intro z;simp at z
    |cons y r ih =>
     intro z;obtain⟨n,k⟩:=y;rw[List.lookup_cons]at z;cases hb:x==n with
     |true=>rw[hb]at z;have e:=Yi hb;subst e;cases z;exact Zd
     |false=>rw[hb]at z;exact Zw _ (ih z)
   exact this q4
  have kf:=hfree _ q5 rfl;obtain⟨m0,hn0,hl0⟩:=id I.loc;obtain⟨u,r,lk⟩:=hl0 j x v q3 q2 (kf.elim (λz=>.inr (.inl z)) λz=>.inr (.inr z));refine(xWP u r ?_);rcases lk with⟨z,_⟩ | ⟨_,c,hc,o,ho,hd⟩
  ·rcases kf with k | k
   ·rw[k]at z;cases z
   ·rw[k]at z;cases z
  ·obtain⟨c',hc'⟩:=inn q5;have e:=incl hc';rw[hc]at e;cases e;exact .inr (FF (m7 q4) c hc' o (hsb _ _ ho) hd)
 ·intro x c e;obtain⟨v,o,ho,hd⟩:=I.cell x c (incl e);exact(bM v o (hsb _ _ ho) hd)
 ·intro x c e;exact I.freeC x c (incl e)
 ·intro p hp;cases hp
 ·show(!47).length=N'.length;unfold inner;rw[Zq];exact yI hjs
def PF(X:Cx)(ifs:List Expr)(t:TT):Prop :=
 ∀(pins:List (!16)) (s:Shared) (σ:St) (H:Hp) (Q:Bool->Hp->Prop),Inv X pins σ H s->t σ H Q ->
  wpAny (!3) X.A (forIn ifs true λc r=>if r=true then do let ok <-isTrue c X.env (eval c X.env);pure (ForInStep.yield ok) else pure (ForInStep.yield r)) (TP X pins σ Q) X.xe s
def tZ:TT:=λ_ H Q=>Q true H
theorem OW:PF X [] tZ:=λ_ _ _ H _ I h=>wpAny_tests_nil (xWP H I h)
theorem mI{c:Expr}{t:TT}(h:PT X c t):PF X [c] t:=λpins s σ H Q I hw=>wpAny_tests_one (h pins s σ H Q I hw)
end
section
variable{prog:Program}{w:World}{A:Around}{E:Value->Shared->Prop}{R:Result->Shared->Prop}{s:Shared}
theorem yR{elt target iter:Expr}{ifs:List Expr}{scope:Scope}{pos:Pos}{it acc:Value}{env:Env}(I:Nat->Shared->Prop)
  (turn:∀n s,I n s->wpAny (!17) A (pyNext it) (λr s₁=>match r with
   |none=>R (.ok .next) s₁
   |some v=>wpAny (!17) A (letOwnedTupleGo target it v) (λ_ s₀=>wpAny (!17) A (assign target env v) (λ_ s₂ =>
     wpAny (!17) A (forIn ifs true λc r=>if r=true then do let ok <-isTrue c env (eval c env);pure (ForInStep.yield ok) else pure (ForInStep.yield r)) (λok s₃ =>
      if ok=true then wpAny (!17) A (eval elt env) (λx s₄ =>
       wpAny (!17) A (call (.builtin "list.append") [acc,x]) (λ_ s₅=>∃m,m<n/\I m s₅) (λ_ _=>False) s₄) (λ_ _=>False) s₃
      else ∃m,m<n/\I m s₃) (λ_ _=>False) s₂) (λ_ _=>False) s₀) (λ_ _=>False) s₁) (λ_ _=>False) s)
  (n:Nat) (h:I n s) :
  codeAny (!17) A (.compLoop (!15) 0 it acc env) R s:=by
 refine codeAny_loop rfl I (λn s hI=>?_) n h;show wpAny _ A ((compTurn (!15) 0 it acc env).onRaise (λx=>do noteFrame x env;theTreesLotGoes x)) _ _ s;refine wpAny_noted ?_;rw[compTurn_list];refine ZZ (wpAny_standAt (ZZ (ZX (turn n s hI) (λr s₁ h₁=>?_) λ_ _ h'=>h'.elim)));cases r with
 |none=>exact ZY h₁
 |some v =>
  refine ZZ (ZX h₁ (λ_ s₀ h₀=>?_) λ_ _ h'=>h'.elim);refine ZZ (ZX h₀ (λ_ s₂ h₂=>ZZ (ZX h₂ (λok s₃ h₃=>?_) λ_ _ h'=>h'.elim)) λ_ _ h'=>h'.elim);cases ok with
  |false=>exact ZY ⟨rfl,h₃⟩
  |true =>
   exact ZZ (ZZ (ZX h₃ (λx s₄ h₄=>ZZ (ZX h₄ (λ_ s₅ h₅=>ZY (ZY ⟨rfl,h₅⟩)) λ_ _ h'=>h'.elim)) λ_ _ h'=>h'.elim))
end
section
variable{X:Cx}
def BP(js:List (Option Nat))(wi:TI)(g:TG)(tc:TT)(te:TE):TE:=λσ H Q=>wi σ H λJ H1=>∀D,H1 D=none->∃W:Nat->Nat->List V->Hp->Prop,(∃m,W 0 m [] (upd H1 D (!49))) /\
 ∀i m ys H,W i m ys H->(J.stop i H/\Q (.ref D) H)\/(J.go i H/\∃N:List V->Hp->Prop,(!35)/\∀x H',J.yld i H x H'->g x (!47) H' λσ2 H2=>Fills (!47) σ2/\tc σ2 H2 λb H3 =>
  If b (!10) (N ys H3))
theorem tE{N':List Str}{js:List (Option Nat)}{scope:Scope}{target iter elt:Expr}{ifs:List Expr}{pos:Pos}{g:TG}{tc:TT}{te:TE}{pins:List (!16)}{σ:St}{H:Hp}{s:Shared}{Q:VK}{E:Value->Shared->Prop}
  {RR:Value->Addr->Result->Shared->Prop}{it:Addr}{fp:List Addr}{tn:Nat->Heap->Prop}{J:It}(I:Inv X pins σ H s) (T:Turn X.prog X.w X.K target J fp it tn) (st:tn 0 s.heap) (f:∀b∈fp,pU X pins H b) (hc:X.calm=true)
  (q:∀D,H D=none->∃W:Nat->Nat->List V->Hp->Prop,(∃m,W 0 m [] (upd H D (!49))) /\
   ∀i m ys H,W i m ys H->(J.stop i H/\Q (.ref D) H)\/(J.go i H/\∃N:List V->Hp->Prop,(!35)/\∀x H',J.yld i H x H'->g x (!47) H' λσ2 H2=>Fills (!47) σ2/\tc σ2 H2 λb H3 =>
  If b (!10) (N ys H3)))
  (hg:∀cl C fp s H,PG (!25) target g) (hf:∀cl C fp s H,PF (!25) ifs tc) (he:∀cl C fp s H,PE (!25) elt te)
  (hk:scope.kind=.function) (hcell:∀y∈scope.names,y.2≠.cell) (hfree:∀y∈scope.names,y.2=.free->X.env.kindOf y.1=some .cell\/X.env.kindOf y.1=some .free) (hjs:wF X.N scope N' js=true)
  (hRR:∀D C H' s',Inv X pins σ H' s'->Q (.ref D) H'->(∃m,s'.heap.Ns C m)->H' C=none->C≠X.env.locals->X.s₀.heap.objs.size<=C->C∉X.fs->(∀x c,X.env.cells.lookup x=some c->c≠C)->(∀p∈X.pn++pins,p.1≠C) ->
   RR (.ref D) C (.ok .next) s') :
  wpAny (!3) X.A (newList []) (λacc s₃=>wpAny (!3) X.A (newFunctionEnv scope X.env.globals (!38) [] X.env.qual none .none (some X.env)) (λcenv s₄ =>
   codeAny (!3) X.A (.compStart (!15) 0 (.ref it) acc { cenv with scope:=relabel scope X.env }) (RR acc cenv.locals) s₄) E s₃) E s:=by
 refine wpAny_newObj_type (wpAny_newFunctionEnv hcell (by intro y hy;simp at hy) (λh₁ hns₁ hsb₁=>?_) hk);dsimp only at hns₁ hsb₁ ⊢;have I3:Inv X pins σ (upd H s.heap.objs.size (!49)) { s with heap:=s.heap.push { cls:=.type "list",dict:=none,data:=.seq ([]:List Value).toArray } }:=I.lnew (its:=[]) (ys:=[]) (t':=s.toks) .nil (YZ _);obtain⟨W,⟨m0,w0⟩,turn⟩:=q s.heap.objs.size I.fresh;generalize hD:s.heap.objs.size=D at I3 turn w0 ⊢;have hsz:(s.heap.push { cls:=.type "list",dict:=none,data:=.seq ([]:List Value).toArray }).objs.size=D+1:=by rw[Heap.size_push,hD]
 have fpl:∀b∈fp,b<D:=λb hb=>by
  obtain⟨o,e,_⟩:=T.obj _ _ st b hb;rw[<-hD];exact YV e
 generalize hs3:({ s with heap:=s.heap.push { cls:=.type "list",dict:=none,data:=.seq ([]:List Value).toArray } }:Shared)=s3 at I3;have eh:s.heap.push { cls:=.type "list",dict:=none,data:=.seq ([]:List Value).toArray }=s3.heap:=by rw[<-hs3]
 rw[eh]at hns₁ hsb₁ hsz ⊢;have f3:∀b∈fp,pU X pins (upd H D (!49)) b:=λb hb=>⟨by rw[aH (ZA (fpl b hb))];exact(f b hb).1,(f b hb).2⟩
 have keep1:∀b o,s3.heap.get? b=some o->h₁.get? b=some o:=λb o e=>hsb₁.extBut b o (ZA (YV e)) (YW _ e);have I4:=JR (N':=N') (js:=js) (tk:=s.toks+([]:List (Str×Value)).length) I3 hk hcell hfree hjs f3 (λb hb=>by rw[hsz];exact Xj (fpl b hb)) hns₁ keep1;have es:({ s with heap:=h₁,toks:=s.toks+([]:List (Str×Value)).length }:Shared)={ s3 with heap:=h₁,toks:=s.toks+([]:List (Str×Value)).length }:=by rw[<-hs3]
 rw[show({ s with heap:=h₁,toks:=s.toks+([]:List (Str×Value)).length }:Shared)={ s3 with heap:=h₁,toks:=s.toks+([]:List (Str×Value)).length } from es];have st4:tn 0 h₁:=T.keep _ _ _ st λb hb o e=>keep1 b o (eh▸YW _ e);have hCne:s3.heap.objs.size≠X.env.locals:=Nat.ne_of_gt I3.lt;have loop:∀s4:Shared,tn 0 s4.heap->Inv (X.comp N' scope (!38) s3.heap.objs.size fp s3 (upd H D (!49))) [] (!47) (upd H D (!49)) s4 ->
   codeAny (!3) X.A (.compLoop (!15) 0 (.ref it) (.ref D) (compEnvC scope (!38) s3.heap.objs.size X.env)) (RR (.ref D) s3.heap.objs.size) s4:=by
  intro s4 st4 I4;generalize hX:X.comp N' scope (!38) s3.heap.objs.size fp s3 (upd H D (!49))=X' at I4;have xprog:X'.prog=X.prog:=by rw[<-hX];rfl
  have stat:∀{H':Hp},(∀b∈fp,H' b=none)->∀b∈fp,pU X' [] H' b:=λhn b hb=>by
   rw[<-hX];refine(cN (hn b hb) ?_ ?_ (.inl hb) ?_ (λp hp=>nomatch hp))
   ·exact ZA (by show b<s3.heap.objs.size;rw[hsz];exact Xj (fpl b hb))
   ·exact λz=>(Zn.mp (I3.stkSub b z)).elim (f3 b hb).2.1 (f3 b hb).2.2.1
   ·intro x c e;rcases wN _ _ e with z | z
    ·simp at z
    ·exact(f3 b hb).2.2.2.2.1 x c z
  have hg':=hg (!38) s3.heap.objs.size fp s3 (upd H D (!49));have hf':=hf (!38) s3.heap.objs.size fp s3 (upd H D (!49));have he':=he (!38) s3.heap.objs.size fp s3 (upd H D (!49));rw[hX]at hg' hf' he';have xA:X'.A=X.A:=by rw[<-hX];rfl
  have xw:X'.w=X.w:=by rw[<-hX];rfl
  have xK:X'.K=X.K:=by rw[<-hX];rfl
  have xc:X'.calm=true:=by rw[<-hX];exact hc
  have xe:X'.env=compEnvC scope (!38) s3.heap.objs.size X.env:=by rw[<-hX];rfl
  have xx:X'.xe=λ_ _=>False:=by rw[<-hX];rfl
  have T':Turn X'.prog X'.w X'.K target J fp it tn:=by rw[xprog,xw,xK];exact T
  rw[<-xA,<-xw,<-xprog,<-xe];refine yR (λn s'=>∃i ys H',Inv X' [] (!47) H' s'/\tn i s'.heap/\(∀b∈fp,H' b=none)/\W i n ys H') ?_ m0 (cI 0 ([]) _ I4 st4 (λb hb=>(f3 b hb).1) w0);rintro n s5 ⟨i,ys,H5,I5,st5,fr5,w5⟩;rcases turn i n ys H5 w5 with⟨stop,q⟩ | ⟨go,N,hN,step⟩
  ·refine thn (T'.done X' rfl rfl rfl xc i [] s5 _ H5 _ I5 (stat fr5) st5 stop) λr s6 ⟨hr,I6⟩=>?_;subst hr;subst hX;have I7:Inv X pins σ H5 s6:=I3.call' (s':=s6) I6.os I6.base I6.hok I6.bare λb hb=>(bN ((f3 b hb).2.2.2.1) ((f3 b hb).2.1) ((f3 b hb).2.2.2.2.1) ((f3 b hb).2.2.2.2.2))
   obtain⟨m6,hn6,_⟩:=I6.loc;refine hRR D s3.heap.objs.size H5 s6 I7 q ⟨m6,hn6⟩ I6.free hCne I3.sz (I3.nofs (ZC _)) (λx c e z=>?_) (λp hp z=>?_)
   ·obtain⟨v,y⟩:=I3.cell x c e;exact Yg (Xz y.lt (by rw[z];exact ZC _)) (YY _)
   ·exact Yg (Xz (YV (I3.pin p hp).1) (by rw[z];exact ZC _)) (YY _)
  ·refine thn (T'.item X' rfl rfl rfl xc i [] s5 _ H5 _ I5 (stat fr5) st5 go) λr s6 ⟨u,hr,h6⟩=>?_;subst hr;refine thn h6 λ_ s7 ⟨x,H7,I7,r7,y7,st7,fr7⟩=>?_;have I7':=I7.pinned (stat fr7) (T.obj _ _ st7);refine ZX (hg' _ s7 _ H7 x u _ I7' r7 (step x H7 y7)) (λ_ s8 ⟨σ8,H8,I8,fill8,q8⟩=>?_) (λ_ _ z=>by rw[xx]at z;exact z);refine ZX (hf' _ s8 σ8 H8 _ I8 q8) (λb s9 ⟨H9,I9,q9⟩=>?_) (λ_ _ z=>by rw[xx]at z;exact z);have again:∀{H':Hp}{s':Shared}{ys':List V},Inv X' ([]++r9 fp s7.heap) σ8 H' s'->N ys' H'->∃m,m<n/\∃i ys H',Inv X' [] (!47) H' s'/\tn i s'.heap/\(∀b∈fp,H' b=none)/\W i m ys H':=λ{H' s' ys'} I' n'=>by
    obtain⟨m',hm,w'⟩:=hN ys' H' n';refine(nZ m' hm (i+1) ys' H' (I'.unpinned.weak fill8.len fill8.at_) (T.keep _ _ _ st7 λb hb o e=>(I'.pin (b,o) (ZO _ (ZO _ (jY hb e)))).1) (λb hb=>?_) w');obtain⟨o,e,d⟩:=T.obj _ _ st7 b hb;exact(I'.pin (b,o) (ZO _ (ZO _ (jY hb e)))).2.1
   cases b with
   |false=>exact again I9 (q9.f rfl)
   |true =>
    refine ZX (he' _ s9 σ8 H9 _ I9 (q9.t rfl)) (λyv s10 ⟨y,H10,I10,ry,hD10,hz,q10⟩=>?_) (λ_ _ z=>by rw[xx]at z;exact z);refine ZX (uM (X:=X') _ s10 σ8 H10 (.ref D) [y] (.ref D) [yv] (λ_ H'=>H'=upd H10 D (.lst (ys++[y]))) I10 rfl (.cons ry .nil) (aM ys hD10 hz rfl)) (λ_ s11 ⟨_,H11,I11,_,e11⟩=>?_) (λ_ _ z=>by rw[xx]at z;exact z);subst e11;exact again I11 q10
 have l4:=loop { s3 with heap:=h₁,toks:=s.toks+([]:List (Str×Value)).length } st4 I4;exact codeAny_compStart_list l4 (T.self _ 0 _ _ _ st4 l4)
theorem LO{N':List Str}{js:List (Option Nat)}{scope:Scope}{target iter elt:Expr}{ifs:List Expr}{pos:Pos}{wi:TI}{g:TG}{tc:TT}{te:TE}(hc:X.calm=true)(hi:PI X target iter wi)
  (hg:∀cl C fp s H,PG (!25) target g) (hf:∀cl C fp s H,PF (!25) ifs tc) (he:∀cl C fp s H,PE (!25) elt te)
  (hk:scope.kind=.function:=by rfl) (hcell:(scope.names.all λy=>y.2 != .cell)=true:=by rfl) (hfree:(scope.names.all λy=>y.2 != .free||(X.env.kindOf y.1==some .cell||X.env.kindOf y.1==some .free))=true:=by rfl)
  (hnames:(scope.names.all λy=>y.2 != .local||scope.names.lookup y.1==some .local)=true:=by rfl) (hjs:wF X.N scope N' js=true:=by rfl) (hs:∀x,foldedSetIterable iter X.env x=pure x:=by intro _;rfl) :
  PE X (!15) (BP js wi g tc te):=by
 have hcell':∀y∈scope.names,y.2≠.cell:=λy hy z=>by have:=List.all_eq_true.mp hcell y hy;simp[z]at this
 have hfree':∀y∈scope.names,y.2=.free->X.env.kindOf y.1=some .cell\/X.env.kindOf y.1=some .free:=λy hy z=>by have:=List.all_eq_true.mp hfree y hy;simpa[z] using this
 have hnames':∀y∈scope.names,y.2=.local->scope.names.lookup y.1=some .local:=λy hy z=>by have:=List.all_eq_true.mp hnames y hy;simpa[z] using this
 sleep 2;rw[eval_ListComp];refine wpAny_comprehension_free (use:=none) rfl hs (lW λx hx z=>I.ok.has x.1 (hfree' x hx z)) hk hnames' ?_;refine thn (hi pins s σ H _ I h) λv s1 h1=>thn h1 λitv s2 h2=>?_;obtain⟨it,fp,tn,J,H2,e,I2,T,st2,f2,q2⟩:=h2;subst e;refine tE (RR:=λacc C=>compPost (!3) X.A X.xe none (EP X pins σ Q) acc C) I2 T st2 f2 hc q2 hg hf he hk hcell' hfree' hjs ?_;intro D C H' s' I' q ⟨m,hn⟩ c0 c1 c2 c3 c4 c5;exact(xWP m hn (λh' hs'=>(aG (.ref D) H' (I'.turned (t':=s'.toks) (λb o hb e=>(hs'.2 b hb).trans e) c0 c1 (.inr c2) c4 c5) rfl q)))
theorem z8{N':List Str}{js:List (Option Nat)}{scope:Scope}{target iter elt:Expr}{ifs:List Expr}{pos pos' spos:Pos}{x:Str}{i:Nat}{wi:TI}{g:TG}{tc:TT}{te:TE}(hN:X.N.Nodup)(hi':X.N[i]?=some x)(hx:Loc X.env.scope x)(hc:X.calm=true)(hi:PI X target iter wi)
  (hg:∀cl C fp s H,PG (!25) target g) (hf:∀cl C fp s H,PF (!25) ifs tc) (he:∀cl C fp s H,PE (!25) elt te)
  (hsw:swapsWith (!15) (some (.Name x pos')) spos.line X.env=pure true:=by rfl)
  (hk:scope.kind=.function:=by rfl) (hcell:(scope.names.all λy=>y.2 != .cell)=true:=by rfl) (hfree:(scope.names.all λy=>y.2 != .free||(X.env.kindOf y.1==some .cell||X.env.kindOf y.1==some .free))=true:=by rfl)
  (hnames:(scope.names.all λy=>y.2 != .local||scope.names.lookup y.1==some .local)=true:=by rfl) (hjs:wF X.N scope N' js=true:=by rfl) (hs:∀x,foldedSetIterable iter X.env x=pure x:=by intro _;rfl)
  (hfn:X.fn x=true\/X.env.scope.names.lookup x=some .local:=by first | exact .inl rfl | exact .inr rfl | assumption) :
  PS X (.Assign [.Name x pos'] (!15) spos) (DT (BP js wi g tc te) (cS i)):=by
 have hcell':∀y∈scope.names,y.2≠.cell:=λy hy z=>by have:=List.all_eq_true.mp hcell y hy;simp[z]at this
 have hfree':∀y∈scope.names,y.2=.free->X.env.kindOf y.1=some .cell\/X.env.kindOf y.1=some .free:=λy hy z=>by have:=List.all_eq_true.mp hfree y hy;simpa[z] using this
 have hnames':∀y∈scope.names,y.2=.local->scope.names.lookup y.1=some .local:=λy hy z=>by have:=List.all_eq_true.mp hnames y hy;simpa[z] using this
 sleep 9;rw[exec_Assign_Name_used _ _ _ _ hsw];refine ZZ (wpAny_standAt (ZZ ?_));show wpAny _ X.A (do let _ <-comprehension (!15) scope X.env _ (newList []) false (eval iter X.env) (some (assign (.Name x pos') X.env))) _ _ s;refine ZZ (ZX (wpAny_comprehension_free (use:=some (assign (.Name x pos') X.env)) (Q:=λ_ s'=>SP X pins D .next s') rfl hs (lW λx hx z=>I.ok.has x.1 (hfree' x hx z)) hk hnames' ?_) (λ_ s' hq=>ZY (ZY hq)) λ_ _ e=>e);refine thn (hi pins s σ H _ I h) λv s1 h1=>thn h1 λitv s2 h2=>?_;obtain⟨it,fp,tn,J,H2,e,I2,T,st2,f2,q2⟩:=h2;subst e;refine tE (Q:=λx H1=>cS i x σ H1 D.nx) (RR:=λacc C=>compPost (!3) X.A X.xe (some (assign (.Name x pos') X.env)) (λ_ s'=>SP X pins D .next s') acc C) I2 T st2 f2 hc q2 hg hf he hk hcell' hfree' hjs ?_;intro D' C H' s' I' q ⟨m,hn⟩ c0 c1 c2 c3 c4 c5;obtain⟨oC,es,ep,hoC,hdC,rC⟩:=id hn;have I'':Inv X (pins++[(C,oC)]) σ H' s':=I'.pins_of λp hp=>(Zf.mp hp).elim (λz=>I'.pin p (ZO _ z)) λz=>by
  have e:=Zb.mp z;subst e;exact(bK hoC c0 c1 c3 (λv z=>by rw[hdC]at z;cases z))
 show wpAny _ X.A (assign (.Name x pos') X.env (.ref D')) _ _ _;refine wpAny_assign_Name (jF I'' hN hi' hx (v:=.ref D') rfl (λs3 I3=>?_) hfn);have hC3:=I3.pin (C,oC) (ZO _ (ZO _ (Zb.mpr rfl)));refine(xWP m (jN oC es ep hC3.1 hdC rC) (λh' hs'=>?_));exact(bM _ H' (I3.unpinned.turned (t':=s3.toks) (λb o hb e=>(hs'.2 b hb).trans e) c0 c1 (.inr c2) c4 c5) q)
end
theorem iW{J:It}{js:List (Option Nat)}{σ:St}{H1:Hp}{R:Hp->Prop}{D:Addr}{g:TG}{tc:TT}{te:TE}(n:Nat)(Pv:Nat->List V->Hp->Prop)(h0:Pv 0 [] (upd H1 D (!49)))
  (hs:∀i ys H,i<n->Pv i ys H->J.go i H/\∀x H',J.yld i H x H'->g x (!47) H' λσ2 H2=>Fills (!47) σ2/\tc σ2 H2 λb H3 =>
   If b (te σ2 H3 λy H4=>H4 D=some (.lst ys)/\ys.length<ZW/\Pv (i+1) (ys++[y]) (upd H4 D (.lst (ys++[y])))) (Pv (i+1) ys H3))
  (hd:∀ys H,Pv n ys H->J.stop n H/\R H) :
  ∃W:Nat->Nat->List V->Hp->Prop,(∃m,W 0 m [] (upd H1 D (!49))) /\
   ∀i m ys H,W i m ys H->(J.stop i H/\R H)\/(J.go i H/\∃N:List V->Hp->Prop,(!35)/\∀x H',J.yld i H x H'->g x (!47) H' λσ2 H2=>Fills (!47) σ2/\tc σ2 H2 λb H3 =>
    If b (!10) (N ys H3)):=by
 refine(xWP (λi m ys H=>m=n-i/\i<=n/\Pv i ys H) (aM n (!5) (YZ _) h0) ?_);rintro i m ys H ⟨rfl,hi,p⟩;by_cases hlt:i<n
 ·obtain⟨go,step⟩:=hs i ys H hlt p;exact .inr (fN go (Pv (i+1)) (λys' H' p'=>(cC (n-(i+1)) (by omega) rfl hlt p')) step)
 ·have e:i=n:=by lia
  subst e;exact .inl (hd ys H p)
theorem T9{A B:Prop}:If true A B=A:=propext ⟨λh=>h.t rfl,iT⟩
theorem comp_map{J:It}{js:List (Option Nat)}{σ:St}{H1:Hp}{R:Hp->Prop}{D:Addr}{g:TG}{te:TE}(n:Nat)(Pv:Nat->List V->Hp->Prop)(h0:Pv 0 [] (upd H1 D (!49)))
  (hs:∀i ys H,i<n->Pv i ys H->J.go i H/\∀x H',J.yld i H x H'->g x (!47) H' λσ2 H2=>Fills (!47) σ2/\te σ2 H2 λy H4=>H4 D=some (.lst ys)/\ys.length<ZW/\Pv (i+1) (ys++[y]) (upd H4 D (.lst (ys++[y]))))
  (hd:∀ys H,Pv n ys H->J.stop n H/\R H) :
  ∃W:Nat->Nat->List V->Hp->Prop,(∃m,W 0 m [] (upd H1 D (!49))) /\
   ∀i m ys H,W i m ys H->(J.stop i H/\R H)\/(J.go i H/\∃N:List V->Hp->Prop,(!35)/\∀x H',J.yld i H x H'->g x (!47) H' λσ2 H2=>Fills (!47) σ2/\tZ σ2 H2 λb H3 =>
    If b (!10) (N ys H3)):=by
 refine iW n Pv h0 ?_ hd;simp only[tZ,T9];exact hs
end L2
set_option Elab.async false
set_option linter.all false
set_option maxRecDepth 100000
set_option maxHeartbeats 4000000
namespace L2
open PySem PySem.Spec PyProof.Rows
def SK(lo c:Int)(n:Nat):It:=⟨λi _=>i<n,λi H x H'=>H'=H/\x=.int (lo+i*c),λi _=>n<=i⟩
theorem xB{P:Program}{w:World}{K:PySem.W.Frag}{tg:Expr}(it:Addr)(lo c:Int)(n:Nat):Turn P w K tg (SK lo c n) [it] it (λi h=>IsRangeIter h it (lo+(i:Nat)*c) ((n:Int)-(i:Nat)) c) where
 mem:=by simp
 obj:=λi h st b hb=>by
  have e:b=it:=by simpa using hb
  subst e;exact(xWP _ st (λv z=>by
   have z':Data.fields _=Data.cell v:=z;cases z'))
 keep:=λi h h' st k=>k it (!5) _ st
 item:=by
  sleep 1;subst hP hw hK;obtain⟨f0,f1,f2,f3,f4,f5⟩:=hf it (!5);have W:=Walks.range (prog:=X.prog) (w:=X.w) (I.ok.hd hc) it lo c n;refine W.item i s _ _ hg st λv h' tk hv st' kk=>?_;obtain⟨t,rfl⟩:=hv;have I1:Inv X pins σ H { s with heap:=h',toks:=tk }:=I.turned (λb o hb e=>kk b o (by simpa using hb) e) f0 f1 f3 f4 f5;exact(xWP _ rfl (CV (s:={ s with heap:=h',toks:=tk }) (n:="range_iterator") st' rfl rfl (!1) (bO (.int (lo+i*c)) H I1 ⟨t,rfl⟩ ⟨rfl,rfl⟩ st' (λb hb=>(hf b hb).1))))
 done:=by
  sleep 1;subst hP hw hK;obtain⟨f0,f1,f2,f3,f4,f5⟩:=hf it (!5);exact wpAny_pyNext_range_end (I.ok.hd hc) st (by have:n<=i:=hg;lia) λh' eb=>⟨rfl,I.turned (t':=s.toks) (λb o hb e=>eb b o hb e) f0 f1 f3 f4 f5⟩
 self:=λ_ _ _ _ _ st h=>wpAny_pyIter_rangeiter st h
section
variable{X:Cx}{tg:Expr}
def RX(ta:TA):TI:=λσ H R=>ta σ H λvs H1=>∃n:Nat,vs=[.int 0,.int (2*n),.int 2]/\n<1000000/\R (SK 0 2 n) H1
theorem EB{a b c:Expr}{ta:TA}{p pos:Pos}(hg:Gl X "range")(hm:X.mg "range" = none)(ha:PA X [a,b,c] ta)(hs:starEach [a,b,c] X.env=[(false,eval a X.env),(false,eval b X.env),(false,eval c X.env)]:=by rfl)
  (hs2:starEach [b,c] X.env=[(false,eval b X.env),(false,eval c X.env)]:=by rfl):PI X tg (.Call (.Name "range" p) [a,b,c] [] pos) (RX ta):=by
 intro pins s σ H R I h;refine Call_ (kQ I hg hm boot_range (PyProof.Rows.callWith_type1 (pP (ha pos pins s σ H _ I h) λus s1 vs H1 I1 r1 q1=>?_) (by rw[hs,hs2]) (by rw[hs2];rfl)));obtain⟨n,e,hn,q⟩:=q1;subst e;cases r1 with
 |cons r rr =>
  cases rr with
  |cons r' rr =>
   cases rr with
   |cons r'' rr =>
    cases rr;obtain⟨t,rfl⟩:=r;obtain⟨t',rfl⟩:=r';obtain⟨t'',rfl⟩:=r'';refine call_range_3 (!1) ?_ (.inl (PyProof.noPylong_small (by lia)));have hsz:Builtin.Range.rangeSize 0 (2*n) 2=n:=by
     unfold Builtin.Range.rangeSize;simp only[show(2:Int)>0 by decide,if_true];split<;>lia
    have hsmall:Builtin.Range.small 0 (2*n) 2=true:=by
     unfold Builtin.Range.small;rw[hsz];have fits:∀i:Int,-(2 ^ 62)<=i->i<2 ^ 62->Builtin.Range.rangeFitsLong i=true:=λi h1 h2=>by
      unfold Builtin.Range.rangeFitsLong;rw[Xg,decide_eq_true_eq,decide_eq_true_eq]
      lia
     simp only[fits 0 (by lia) (by lia),fits (2*n) (by lia) (by lia),fits 2 (by lia) (by lia),fits n (by lia) (by lia),Bool.true_and,Bool.and_true];rw[Yb (!1),fits (2*n+(2-1)) (by lia) (by lia),Bool.or_true]
    refine wpAny_pyIter_range (IsRange.new ..) hsmall ?_;have I2:Inv X pins σ H1 { s1 with heap:=s1.heap.push { cls:=.type "range",data:=.fields #[.int 0 t,.int (2*n) t',.int 2 t''] },toks:=s1.toks }:=I1.kept λb o e=>YW _ e;refine(a7 ((s1.heap.push { cls:=.type "range",data:=.fields #[.int 0 t,.int (2*n) t',.int 2 t''] }).objs.size) ([(s1.heap.push { cls:=.type "range",data:=.fields #[.int 0 t,.int (2*n) t',.int 2 t''] }).objs.size]) _ _ H1 rfl (I2.kept (t':=s1.toks) λb o e=>YW _ e) (xB _ 0 2 n) ?_ ⟨ λb hb=>?_,q⟩)
    ·show IsRangeIter _ _ (0+((0:Nat):Int)*2) ((n:Int)-((0:Nat):Int)) 2;have e1:(0:Int)+((0:Nat):Int)*2=0:=by simp
     have e2:(n:Int)-((0:Nat):Int)=Builtin.Range.rangeSize 0 (2*n) 2:=by rw[hsz];simp
     rw[e1,e2];exact YU _ rfl
    ·have e:b=(s1.heap.push { cls:=.type "range",data:=.fields #[.int 0 t,.int (2*n) t',.int 2 t''] }).objs.size:=by simpa using hb
     subst e;exact I2.fpOk (ZC _) (I2.hok.fresh (ZC _))
end
section
variable{X:Cx}{pins:List (!16)}{σ:St}{H:Hp}{s:Shared}{h':Heap}
theorem Inv.turnedNew{t':Nat}{ch:List Addr}{T:Addr}{o:HO}(I:Inv X pins σ H s)(k:∀b u,b∉ch->s.heap.get? b=some u->h'.get? b=some u)(there:∀b u,s.heap.get? b=some u->∃u',h'.get? b=some u')(hT:s.heap.objs.size<=T)
  (hf:∀b∈ch,pU X pins H b) (new:cD X.prog X.w (upd H T o) h' T o):Inv X pins σ (upd H T o) { s with heap:=h',toks:=t' }:=by
 have hn:=I.hok.fresh hT;have nit:∀b u,H b=some u->b∉ch:=λb u e z=>by rw[(hf b z).1]at e;cases e
 refine I.step (g':=s.gens) (d':=s.drawn) (ch:=ch) (λb hb=>?_) (λb o _ _ hc e _=>k b o hc e) (λb o _ _ hc e _=>⟨o.slots,k b o hc e⟩) (λb u hc e n=>?_) (λb u hc e=>there b u e)
  (λb xs e=>?_) (λb ob u e=>?_) (λb ps e=>⟨#[],?_⟩) (λm hm=>?_) (λb u e=>?_) I.bare
 ·exact(bN ((hf b hb).2.2.2.1) ((hf b hb).2.1) ((hf b hb).2.2.2.2.1) ((hf b hb).2.2.2.2.2))
 ·rw[aH (ZA (Xz (YV e) hT))];exact n
 ·rw[aH (aE e hn)];exact e
 ·rw[aH (aE e hn)];exact e
 ·rw[aH (aE e hn),e];simp
 ·obtain⟨ob,es,ep,ho,r⟩:=hm;exact(jA ob es ep (k _ ob (λz=>(hf _ z).2.1 rfl) ho) r)
 ·by_cases hb:b=T
  ·subst hb;rw[aB]at e;cases e;exact new
  ·rw[aH hb]at e;refine(I.hok b u e).stay (λc v hc q=>k c v ?_ q) (λc q=>by rw[aH (aE q hn)];exact q) λc xs q=>by rw[aH (aE q hn)];exact q
   rcases hc with z | z
   ·rw[z];exact nit b u e
   ·exact nit c _ z
end
def Ite(a:Addr):It :=
 ⟨λi H=>∃xs x,SqL H a xs/\xs[i]?=some x,λi H v H'=>∃T x,v=.ref T/\H T=none/\H'=upd H T (.tup [.int i,x])/\∀xs,SqL H a xs->xs[i]?=some x,λi H=>∃xs,SqL H a xs/\xs.length<=i⟩
theorem DQ{P:Program}{w:World}{K:PySem.W.Frag}{elts:List Expr}{k:Nat}{pos:Pos}(a e it:Addr)(hei:e≠it):Turn P w K (.Tuple elts k pos) (Ite a) [e,it] e (λi h=>(∃old,IsEnum h e it i old)/\h.IsListIter it a i) where
 mem:=by simp
 obj:=λi h st b hb=>by
  obtain⟨⟨old,he⟩,o,ho,hc,hd⟩:=st;rcases Zn.mp hb with rfl | hb
  ·exact(xWP _ he (λv z=>by
    have z':Data.fields _=Data.cell v:=z;cases z'))
  ·have e':=Zb.mp hb;subst e';exact(xWP o ho (λv z=>by rw[hd]at z;cases z))
 keep:=λi h h' st k=>by
  obtain⟨⟨old,he⟩,hit⟩:=st;exact⟨⟨old,k e (!5) _ he⟩,hit.at λo x=>k it (!5) o x⟩
 item:=by
  sleep 1;subst hP hw hK;obtain⟨⟨old,he⟩,hit⟩:=st;obtain⟨xs,x,hq,hx⟩:=hg;sleep 11;obtain⟨u,hu,ru⟩:=rv.get hx;have hux:its.toArray[i]?=some u:=by simpa using hu
  refine wpAny_pyNext_enum_item he hit pl.isList hux hei λh' ho hit' hT hsz hk=>?_;refine(xWP _ rfl ?_);have kk:∀b v,b∉[e,it]->s.heap.get? b=some v->h'.get? b=some v:=λb v hb q=>hk b v (λz=>hb (by simp[z])) (λz=>hb (by simp[z])) q;have th:∀b v,s.heap.get? b=some v->∃v',h'.get? b=some v':=λb v q=>by
   by_cases h1:b=e
   ·subst h1;exact⟨_,ho⟩
   ·by_cases h2:b=it
    ·subst h2;obtain⟨o,q1,_⟩:=hit';exact⟨_,q1⟩
    ·exact⟨v,hk b v h1 h2 q⟩
  have I1:Inv X pins σ (upd H s.heap.objs.size (.tup [.int i,x])) { s with heap:=h',toks:=s.toks+1 } :=
   I.turnedNew (ch:=[e,it]) kk th (ZC _) hf (fN (!9) ([.int i s.toks,u]) (.cons ⟨_,rfl⟩ (.cons ru .nil)) (aM _ hT rfl ⟨ _,rfl⟩))
  refine wpAny_letOwnedTupleGo_enum ho λh2 he2 hs2=>?_;have fe:=hf e (!5);have fi:=hf it (!5);have hTe:e≠s.heap.objs.size:=ZA (YV he);have hTi:it≠s.heap.objs.size:=by obtain⟨o,q1,_⟩:=hit;exact ZA (YV q1)
  have I2:Inv X pins σ (upd H s.heap.objs.size (.tup [.int i,x])) { s with heap:=h2,toks:=s.toks+1 } :=
   Inv.turned (s:={ s with heap:=h',toks:=s.toks+1 }) (h':=h2) (t':=s.toks+1) (it:=e) I1 (λb o hb q=>(hs2.2 b hb).trans q) (by rw[aH hTe];exact fe.1) fe.2.1 fe.2.2.2.1 fe.2.2.2.2.1 fe.2.2.2.2.2
  refine(bO (.ref s.heap.objs.size) _ I2 rfl (aO s.heap.objs.size x rfl I.fresh rfl (λys hys=>by rw[I.list_inj hys hq];exact hx)) ⟨⟨_,by simpa using he2⟩,hit'.at λo q=>(hs2.2 it hei.symm).trans q⟩ (λb hb=>?_));rcases Zn.mp hb with rfl | hb
  ·rw[aH hTe];exact fe.1
  ·have e':=Zb.mp hb;subst e';rw[aH hTi];exact fi.1
 done:=by
  sleep 1;subst hP hw hK;obtain⟨⟨old,he⟩,hit⟩:=st;obtain⟨xs,hq,hl⟩:=hg;sleep 11;have hlen:=rv.length;obtain⟨f0,f1,f2,f3,f4,f5⟩:=hf it (!5);refine wpAny_pyNext_enum_end (I.ok.hd hc) he hit pl.isList (!41) λh' eb=>⟨rfl,?_⟩
  exact I.turned (t':=s.toks) (λb o hb q=>eb b o hb q) f0 f1 f3 f4 f5
 self:=λ_ _ _ _ _ st h=>by
  obtain⟨⟨old,he⟩,_⟩:=st;exact wpAny_pyIter_enum he h
section
variable{X:Cx}
def R0(ta:TA):TI:=λσ H R=>ta σ H λvs H1=>∃a,vs=[.ref a]/\(∃xs,SqL H1 a xs)/\R (Ite a) H1
theorem cV{a:Expr}{ta:TA}{p pos:Pos}{elts:List Expr}{k:Nat}{tpos:Pos}(hg:Gl X "enumerate")(hm:X.mg "enumerate" = none)(ha:PA X [a] ta)(hs:starEach [a] X.env=[(false,eval a X.env)]:=by rfl) :
  PI X (.Tuple elts k tpos) (.Call (.Name "enumerate" p) [a] [] pos) (R0 ta):=by
 intro pins s σ H R I h;refine Call_ (kQ I hg hm (show bootBuiltins "enumerate" = some (.type "enumerate") by decide +kernel) (PyProof.Rows.callWith_type1 (pP (ha pos pins s σ H _ I h) λus s1 vs H1 I1 r1 q1=>?_) hs rfl));obtain⟨l,e,⟨xs,hq⟩,q⟩:=q1;subst e;cases r1 with
 |cons r rr =>
  cases rr;cases r;obtain⟨its,rv,pl,hz⟩:=I1.list hq;refine call_enumerate_list pl.isList λh' he hit hsz hk=>?_;refine wpAny_pyIter_enum he ?_;have I2:Inv X pins σ H1 { s1 with heap:=h' }:=I1.kept (t':=s1.toks) hk;refine(a7 (s1.heap.objs.size+1) ([s1.heap.objs.size+1,s1.heap.objs.size]) _ _ H1 rfl I2 (DQ l _ _ (Nat.succ_ne_self _)) ⟨⟨_,by simpa using he⟩,hit⟩ ⟨ λb hb=>?_,q⟩);rcases Zn.mp hb with rfl | hb
  ·exact I1.fpOk (Nat.le_succ _) (I1.hok.fresh (Nat.le_succ _))
  ·have e':=Zb.mp hb;subst e';exact I1.fpOk (ZC _) (I1.hok.fresh (ZC _))
end
mutual
inductive Bd(H:Hp):V->PyData->Prop
 |int (i:Int):Bd H (.int i) (.int i)
 |non:Bd H .non .none
 |bl (b:Bool):Bd H (.bl b) (.bool b)
 |str (x:Str):Bd H (.str x) (.str x)
 |lst {a:Addr}{xs:List V}{ds:List PyData}:SqL H a xs->Bds H xs ds->Bd H (.ref a) (.list ds)
 |tup {a:Addr}{xs:List V}{ds:List PyData}:SqT H a xs->Bds H xs ds->Bd H (.ref a) (.tuple ds)
inductive Bds(H:Hp):List V->List PyData->Prop
 |nil:Bds H [] []
 |cons {x:V}{xs:List V}{d:PyData}{ds:List PyData}:Bd H x d->Bds H xs ds->Bds H (x::xs) (d::ds)
end
theorem nX{H:Hp}:∀ns:List Int,Bds H (!39) (ns.map PyData.int)
 |[]=>.nil
 |n::ns=>.cons (.int n) (nX ns)
section
variable{X:Cx}{pins:List (!16)}{σ:St}{H:Hp}{s:Shared}
mutual
theorem Bd.reads(I:Inv X pins σ H s):∀{x:V}{d:PyData}{u:Value},Bd H x d->RelV x u->∃as,Reads s.heap u d as
 |_,_,u,.int i,r=>by obtain⟨t,rfl⟩:=r;exact⟨_,.int i t⟩
 |_,_,u,.non,r=>by cases r;exact⟨_,.none⟩
 |_,_,u,.bl b,r=>by cases r;exact⟨_,.bool b⟩
 |_,_,u,.str x,r=>by obtain⟨t,rfl⟩:=r;exact⟨_,.str x t⟩
 |_,_,u,.lst hq b,r=>by
  cases r;obtain⟨its,rv,⟨o,n,e,hc,_,hd⟩,hz⟩:=I.list hq;obtain⟨as,h⟩:=Bds.reads I b rv;exact⟨_,.list e hc hd (by simpa using h)⟩
 |_,_,u,.tup hq b,r=>by
  cases r;obtain⟨its,rv,⟨o,e,hc,n,hd⟩,hz⟩:=I.tuple hq;obtain⟨as,h⟩:=Bds.reads I b rv;exact⟨_,.tuple e hc hd (by simpa using h)⟩
theorem Bds.reads(I:Inv X pins σ H s):∀{xs:List V}{ds:List PyData}{us:List Value},Bds H xs ds->bD xs us->∃as,ReadsAll s.heap us ds as
 |_,_,_,.nil,r=>by cases r;exact⟨_,.nil⟩
 |_,_,_,.cons b bs,r=>by
  cases r with
  |cons r rr =>
   obtain⟨as,h⟩:=Bd.reads I b r;obtain⟨bs',h'⟩:=Bds.reads I bs rr;exact⟨_,.cons h h'⟩
end
end
section
variable{X:Cx}
def RG(neg:Bool):R2:=λx y H Q=>∃dx dy,Bd H x dx/\Bd H y dy/\SeqAt.shaped dx=true/\SeqAt.shaped dy=true/\Q (.bl (PyData.eqv dx dy ^^ neg)) H
theorem HJ(hu:X.A.units+64<cLine):OpR X (compareOp .Eq) (RG false):=by
 sleep 4;obtain⟨dx,dy,bx,b_y,sx,sy,q⟩:=h;obtain⟨as,r1⟩:=bx.reads I rx;obtain⟨bs,r2⟩:=b_y.reads I ry;exact eq_dataH r1 r2 sx sy hu (aG (.bl _) H I rfl (by simpa using q))
theorem AG(hu:X.A.units+64<cLine):OpR X (compareOp .NotEq) (RG true):=by
 sleep 4;obtain⟨dx,dy,bx,b_y,sx,sy,q⟩:=h;obtain⟨as,r1⟩:=bx.reads I rx;obtain⟨bs,r2⟩:=b_y.reads I ry;exact ne_dataH r1 r2 sx sy hu (aG (.bl _) H I rfl (by simpa using q))
end
section
variable{X:Cx}
def CP(H:Hp):V->String->Prop
 |.non,T=>T="NoneType"
 |.bl _,T=>T="bool"
 |.int _,T=>T="int"
 |.ref a,T=>(T="list"/\∃xs,H a=some (.lst xs))\/(T="tuple"/\∃xs,H a=some (.tup xs))
 |_,_=>False
theorem CP.ty{K:PySem.W.Frag}{H:Hp}{x:V}{T:String}(h:CP H x T):pC K H x (.type T):=by
 cases x with
 |non=>cases (show T="NoneType" from h);exact .non
 |bl b=>cases (show T="bool" from h);exact .bl b
 |int i=>cases (show T="int" from h);exact .int i
 |ref a =>
  rcases h with⟨rfl,xs,e⟩ | ⟨rfl,xs,e⟩
  ·exact .lst e
  ·exact .tup e
 |_=>exact False.elim h
def isT(T c:String):Bool:=T==c||(T=="bool"&&c=="int")
theorem ML{H:Hp}{x:V}{T:String}(h:CP H x T):T="NoneType"\/T="bool"\/T="int"\/T="list"\/T="tuple":=by
 cases x with
 |non=>exact .inl h
 |bl b=>exact .inr (.inl h)
 |int i=>exact .inr (.inr (.inl h))
 |ref a =>
  rcases h with⟨rfl,xs,e⟩ | ⟨rfl,xs,e⟩
  ·exact .inr (.inr (.inr (.inl rfl)))
  ·exact .inr (.inr (.inr (.inr rfl)))
 |_=>exact False.elim h
theorem RW{K:PySem.W.Frag}{T n:String}(hT:T="NoneType"\/T="bool"\/T="int"\/T="list"\/T="tuple")(hn:n="list"\/n="tuple"\/n="int"\/n="bool"):PySem.W.kitOne K (.type T) (.type n)=some (isT T n):=by
 rcases hT with rfl | rfl | rfl | rfl | rfl<;>rcases hn with rfl | rfl | rfl | rfl<;>first | rfl | decide
def TH(H0:Unit):List V->Hp->VK->Prop:=λxs H Q=>∃x T n,xs=[x,.ty n]/\CP H x T/\(n="list"\/n="tuple"\/n="int"\/n="bool")/\Q (.bl (isT T n)) H
theorem JT:fY X (.builtin "isinstance") (TH ()):=by
 sleep 3;obtain⟨x,T,n,rfl,k,hn,q⟩:=h;obtain⟨u,v,rfl,ru,rv⟩:=vals2 r;cases (show v=Value.type n from rv);exact EV I ru k.ty (RW (ML k) hn) λtk=>(aG (.bl _) H (I.tok tk) rfl q)
end
end L2
namespace L2
open PySem PySem.Spec PyProof.Rows
theorem aC{H:Hp}{p:Addr}(h:H p=none)(o:HO):aK H (upd H p o):=λb u q=>by rw[aH (aE q h)];exact q
theorem aK.tup{H H':Hp}{a:Addr}{xs:List V}(e:aK H H')(h:SqT H a xs):SqT H' a xs:=by
 rcases h with h | ⟨o,h⟩
 ·exact .inl (e _ _ h)
 ·exact .inr ⟨o,e _ _ h⟩
section
variable{X:Cx}{K:PySem.W.Frag}
theorem SM{es:List Expr}{k:Nat}{t:TGs}{n:Nat}{pos:Pos}(e:X.K=K)(hc:X.calm=true)(h:PGs X es t)
  (hn:(assignEach es X.env).length=n:=by rfl) (hst:(assignEach es X.env).findIdx? (·.1)=none:=by rfl):PG X (.Tuple es k pos) (QA n t):=by subst e;exact HF hc h hn hst
end
end L2
namespace MM
def oth(e:Nat):Nat:=if e%2=0 then e+1 else e-1
theorem aZ{n e:Nat}(h:e<2*n):oth e<2*n:=by unfold oth;split<;>omega
theorem jH(e:Nat):oth e / 2=e / 2:=by unfold oth;split<;>lia
theorem nE(e:Nat):oth e%2=1-e%2:=by unfold oth;split<;>lia
theorem sV{a b:Nat}(h1:a / 2=b / 2)(h2:a%2=b%2):a=b:=by rw[<-Nat.div_add_mod a 2,<-Nat.div_add_mod b 2,h1,h2]
theorem eK(e:Nat):oth (oth e)=e:=sV (by rw[jH,jH]) (by rw[nE,nE];exact Nat.sub_sub_self (Nat.le_of_lt_succ (Nat.mod_lt e (Nat.zero_lt_succ 1))))
theorem gU{a b:Nat}(h:oth a=oth b):a=b:=by rw[<-eK a,<-eK b,h]
theorem fJ:∀(N:Nat) (l:List Nat),l.Nodup->(∀x∈l,x<N)->l.length<=N
 |0,[],_,_=>ZC _
 |0,x::_,_,h=>Yg (h x Zd) (Nat.not_lt_zero _)
 |N+1,l,nd,h=>by
  have ih:=fJ N (l.erase N) (nd.erase N) (λx hx=>by
   have h1:=(nd.mem_erase_iff).mp hx;have h2:=h x h1.2
   lia)
  have hl:=List.length_erase (a:=N) (l:=l);split at hl<;>lia
def iter(f:Nat->Nat):Nat->Nat->Nat
 |0,e=>e
 |n+1,e=>f (iter f n e)
structure b7(f:Nat->Nat)(N:Nat):Prop where
 lt:∀e,e<N->f e<N
 inj:∀a b,a<N->b<N->f a=f b->a=b
theorem cF{f:Nat->Nat}{N:Nat}(m:b7 f N){e:Nat}(h:e<N):∀k,iter f k e<N
 |0=>h
 |k+1=>m.lt _ (cF m h k)
theorem gK(f:Nat->Nat)(e:Nat)(i:Nat):∀k,iter f (i+k) e=iter f k (iter f i e)
 |0=>rfl
 |k+1=>by show f (iter f (i+k) e)=f (iter f k (iter f i e));rw[gK f e i k]
theorem nJ{f:Nat->Nat}{N:Nat}(m:b7 f N){a b:Nat}(ha:a<N)(hb:b<N):∀k,iter f k a=iter f k b->a=b
 |0,h=>h
 |k+1,h=>nJ m ha hb k (m.inj _ _ (cF m ha k) (cF m hb k) h)
def path(f:Nat->Nat)(e k:Nat):List Nat:=(ZS k).map λi=>iter f i e
theorem kL(f:Nat->Nat)(e k:Nat):(path f e k).length=k:=by unfold path;simp
theorem oO(f:Nat->Nat)(e k:Nat):path f e (k+1)=path f e k++[iter f k e]:=by unfold path;rw[ZI,Zt];rfl
theorem jI{f:Nat->Nat}{e k x:Nat}:x∈path f e k↔∃i,i<k/\iter f i e=x:=by
 unfold path;simp[Zh,Zs]
theorem mJ{f:Nat->Nat}{N:Nat}(m:b7 f N){e:Nat}(he:e<N):∀k,(∀j,0<j->j<k->iter f j e≠e)->(path f e k).Nodup
 |0,_=>List.nodup_nil
 |k+1,h=>by
  rw[oO];have ih:=mJ m he k (λj h0 h1=>h j h0 (by lia));rw[List.nodup_append];refine(xPP ih (!5) ?_);intro a ha b hb e1;have hb':b=iter f k e:=by simpa using hb
  obtain⟨i,hi,rfl⟩:=jI.mp ha;have q:iter f i e=iter f k e:=e1.trans hb';have hk:k=(k-i)+i:=by lia
  have q2:iter f i e=iter f i (iter f (k-i) e):=by
   rw[<-gK,Nat.sub_add_cancel (YX hi)];exact q
  have q3:=nJ m he (cF m he _) i q2;exact h (k-i) (by lia) (by lia) q3.symm
theorem CG{f:Nat->Nat}{N:Nat}(m:b7 f N){e:Nat}(he:e<N)(k:Nat):∀x∈path f e k,x<N:=λx hx=>by
 obtain⟨i,_,rfl⟩:=jI.mp hx;exact cF m he i
theorem iX{f:Nat->Nat}{N:Nat}(m:b7 f N){e:Nat}(he:e<N):∃k,0<k/\k<=N/\iter f k e=e:=by
 refine ZT λh=>?_;have no:∀j,0<j->j<N+1->iter f j e≠e:=λj h0 h1 q=>h (aM j h0 (by lia) q);have nd:=mJ m he (N+1) no;have b:=fJ N _ nd (CG m he _);rw[kL]at b
 lia
def lZ(f:Nat->Nat)(e k:Nat):Prop:=0<k/\iter f k e=e/\∀j,0<j->j<k->iter f j e≠e
theorem GQ{f:Nat->Nat}{N:Nat}(m:b7 f N){e:Nat}(he:e<N):∃k,lZ f e k/\k<=N:=by
 obtain⟨k,h0,h1,h2⟩:=iX m he;have:∀n k,k<=n->0<k->iter f k e=e->∃k',lZ f e k'/\k'<=k:=by
  intro n;induction n with
  |zero=>intro k h1 h2;lia
  |succ n ih =>
   intro k h1 h2 h3;by_cases q:∃j,0<j/\j<k/\iter f j e=e
   ·obtain⟨j,j0,j1,j2⟩:=q;obtain⟨k',r,l⟩:=ih j (by lia) j0 j2;exact(xWP k' r (by lia))
   ·exact(xWP k (xPP h2 h3 (λj j0 j1 j2=>q (aM j j0 j1 j2))) (ZC _))
 obtain⟨k',r,l⟩:=this k k (ZC _) h0 h2;exact(xWP k' r (by lia))
theorem z7{f:Nat->Nat}{e k k':Nat}(a:lZ f e k)(b:lZ f e k'):k=k':=by
 rcases Nat.lt_trichotomy k k' with h | h | h
 ·exact Yg a.2.1 (b.2.2 k a.1 h)
 ·exact h
 ·exact Yg b.2.1 (a.2.2 k' b.1 h)
theorem rS{f:Nat->Nat}{e k j:Nat}(r:lZ f e k)(h0:0<j)(hj:j<=k)(h:iter f j e≠e):j<k:=by
 rcases Xk j k with q | q
 ·exact q
 ·have:j=k:=by lia
  subst this;exact Yg r.2.1 h
abbrev aP:=List (Nat×Nat)
abbrev aN:=List (List Nat)
def place(ts:aP)(e:Nat):Nat:=if e%2=0 then (ts.getD (e / 2) (0,0)).1 else (ts.getD (e / 2) (0,0)).2
def row(os:aN)(p:Nat):List Nat:=os.getD p []
structure l8(pl:Nat->Nat)(M:Nat)(os:aN):Prop where
 ends:∀p e,e∈row os p->e<M/\pl e=p
 has:∀e,e<M->pl e<os.length/\e∈row os (pl e)
 nd:∀p,(row os p).Nodup
 full:∀p,p<os.length->row os p≠[]
 four:∀p,(row os p).length<=4
structure Good(ts:aP)(os:aN):Prop where
 g:l8 (place ts) (!2) os
 one:1<=ts.length
theorem l8.congr{pl pl':Nat->Nat}{M:Nat}{os:aN}(g:l8 pl M os)(h:∀e,e<M->pl' e=pl e):l8 pl' M os where
 ends:=λp e he=>by
  have q:=g.ends p e he;exact⟨q.1,(h e q.1).trans q.2⟩
 has:=λe he=>by rw[h e he];exact g.has e he
 nd:=g.nd
 full:=g.full
 four:=g.four
theorem cP{os:aN}{a:Nat}{l:List Nat}(h:a<os.length):row (os.set a l) a=l:=by
 unfold row;simp[List.getD,h]
theorem eT{os:aN}{a p:Nat}{l:List Nat}(h:p≠a):row (os.set a l) p=row os p:=by
 unfold row;simp[List.getD,ZK (Yh h)]
theorem l8.add{pl:Nat->Nat}{M:Nat}{os:aN}(g:l8 pl M os){a:Nat}(ha:a<os.length)(hp:pl M=a){l:List Nat}(hm:∀x,x∈l↔x=M\/x∈row os a)(hn:l.Nodup)(h4:l.length<=4):l8 pl (M+1) (os.set a l) where
 ends:=λp e he=>by
  by_cases hpa:p=a
  ·subst hpa;rw[cP ha]at he;rcases(hm e).mp he with rfl | he
   ·exact⟨Nat.lt_succ_self _,hp⟩
   ·have q:=g.ends _ e he;exact⟨by lia,q.2⟩
  ·rw[eT hpa]at he;have q:=g.ends p e he;exact⟨by lia,q.2⟩
 has:=λe he=>by
  rw[ZR];rcases Xk e M with h | h
  ·have q:=g.has e h;refine⟨q.1,?_⟩;by_cases hpa:pl e=a
   ·rw[hpa,cP ha];exact(hm e).mpr (.inr (hpa▸q.2))
   ·rw[eT hpa];exact q.2
  ·have e':e=M:=by lia
   subst e';rw[hp,cP ha];exact⟨ha,(hm e).mpr (.inl rfl)⟩
 nd:=λp=>by
  by_cases hpa:p=a
  ·subst hpa;rw[cP ha];exact hn
  ·rw[eT hpa];exact g.nd p
 full:=λp hp'=>by
  rw[ZR]at hp';by_cases hpa:p=a
  ·subst hpa;rw[cP ha];intro z;have:M∈l:=(hm M).mpr (.inl rfl);rw[z]at this;cases this
  ·rw[eT hpa];exact g.full p hp'
 four:=λp=>by
  by_cases hpa:p=a
  ·subst hpa;rw[cP ha];exact h4
  ·rw[eT hpa];exact g.four p
theorem mZ{os:aN}{l:List Nat}(p:Nat):row (os++[l]) p=if p=os.length then l else row os p:=by
 unfold row;rcases Nat.lt_trichotomy p os.length with h | h | h
 ·rw[Ya (by lia)];simp[List.getD,Zx h]
 ·subst h;simp[List.getD]
 ·rw[Ya (by lia)];have h1:(os++[l])[p]?=none:=Zr (by rw[Zm];simp;lia);have h2:os[p]?=none:=Zr (by lia);simp[List.getD,h1,h2]
theorem l8.new{pl:Nat->Nat}{M:Nat}{os:aN}(g:l8 pl M os)(hp:pl M=os.length):l8 pl (M+1) (os++[[M]]) where
 ends:=λp e he=>by
  rw[mZ]at he;split at he
  ·rename_i h
   have e':e=M:=by simpa using he
   subst e';exact⟨Nat.lt_succ_self _,by rw[hp,h]⟩
  ·have q:=g.ends p e he;exact⟨by lia,q.2⟩
 has:=λe he=>by
  rw[Zm,mZ];rcases Xk e M with h | h
  ·have q:=g.has e h;rw[Ya (by lia)];exact⟨by simp;lia,q.2⟩
  ·have e':e=M:=by lia
   subst e';rw[Yb hp];exact⟨by simp;lia,by simp⟩
 nd:=λp=>by
  rw[mZ];split
  ·simp
  ·exact g.nd p
 full:=λp hp'=>by
  rw[mZ];split
  ·simp
  ·rw[Zm]at hp';simp at hp';exact g.full p (by lia)
 four:=λp=>by
  rw[mZ];split
  ·simp
  ·exact g.four p
def bZ(l:List Nat)(x:Nat):Nat:=l.getD ((l.idxOf x+l.length-1)%l.length) 0
theorem AA{l:List Nat}{x:Nat}(h:x∈l):bZ l x∈l:=by
 have h1:=ZN h;have h2:(l.idxOf x+l.length-1)%l.length<l.length:=Nat.mod_lt _ (by lia);unfold bZ;simp only[List.getD,Zz h2,YR];exact Zp h2
theorem LH{i j n:Nat}(hi:i<n)(hj:j<n)(h:(i+n-1)%n=(j+n-1)%n):i=j:=by
 have f:∀k,k<n->(((k+n-1)%n)+1)%n=k:=λk hk=>by
  rw[Nat.mod_add_mod,Nat.sub_add_cancel (YQ (Nat.succ_le_of_lt (Xq (YZ k) hk)) (Nat.le_add_left n k)),Nat.add_mod_right,Nat.mod_eq_of_lt hk]
 rw[<-f i hi,<-f j hj,h]
theorem AC{l:List Nat}(nd:l.Nodup){x y:Nat}(hx:x∈l)(hy:y∈l)(h:bZ l x=bZ l y):x=y:=by
 have h1:=ZN hx;have h2:=ZN hy;have m1:(l.idxOf x+l.length-1)%l.length<l.length:=Nat.mod_lt _ (by lia);have m2:(l.idxOf y+l.length-1)%l.length<l.length:=Nat.mod_lt _ (by lia);unfold bZ at h;simp only[List.getD,Zz m1,Zz m2,YR]at h;have e:=(List.getElem_inj nd).mp h;have e':=LH h1 h2 e;have g1:l[l.idxOf x]=x:=List.getElem_idxOf h1;have g2:l[l.idxOf y]=y:=List.getElem_idxOf h2;rw[<-g1,<-g2];simp only[e']
def behind(ts:aP)(os:aN)(e:Nat):Nat:=bZ (row os (place ts (oth e))) (oth e)
theorem Good.behind{ts:aP}{os:aN}(g:Good ts os){e:Nat}(he:e<2*ts.length):behind ts os e<2*ts.length/\place ts (behind ts os e)=place ts (oth e):=by
 have h:=g.g.has (oth e) (aZ he);exact g.g.ends _ _ (AA h.2)
theorem Good.maps{ts:aP}{os:aN}(g:Good ts os):b7 (MM.behind ts os) (!2) where
 lt:=λe he=>(g.behind he).1
 inj:=λa b ha hb h=>by
  have pa:=(g.behind ha).2;have pb:=(g.behind hb).2;rw[h,pb]at pa;have ma:=(g.g.has (oth a) (aZ ha)).2;have mb:=(g.g.has (oth b) (aZ hb)).2;unfold MM.behind at h;rw[<-pa]at h ma;exact gU (AC (g.g.nd _) ma mb h)
open Classical in
noncomputable def per(f:Nat->Nat)(e:Nat):Nat:=if h:∃k,lZ f e k then Classical.choose h else 1
noncomputable def aL(f:Nat->Nat)(e:Nat):List Nat:=path f e (per f e)
theorem OX{f:Nat->Nat}{e k:Nat}(r:lZ f e k):per f e=k:=by
 unfold per;rw[dif_pos ⟨k,r⟩];exact z7 (Classical.choose_spec (⟨k,r⟩:∃k,lZ f e k)) r
theorem cZ{f:Nat->Nat}{N:Nat}(m:b7 f N){e:Nat}(he:e<N):lZ f e (per f e)/\per f e<=N:=by
 obtain⟨k,r,l⟩:=GQ m he;rw[OX r];exact⟨r,l⟩
theorem sS{f:Nat->Nat}{e k:Nat}(h:iter f k e=e):∀n,iter f (k*n) e=e
 |0=>rfl
 |n+1=>by rw[Nat.mul_succ,Nat.add_comm,gK,h];exact sS h n
theorem IS{f:Nat->Nat}{e k:Nat}(h:iter f k e=e)(j:Nat):iter f j e=iter f (j%k) e:=by
 have e1:j=k*(j / k)+j%k:=(Nat.div_add_mod j k).symm;have e2:iter f j e=iter f (k*(j / k)+j%k) e:=congrArg (λz=>iter f z e) e1;rw[e2,gK,sS h]
theorem bH{f:Nat->Nat}{N:Nat}(m:b7 f N){x y:Nat}(hx:x<N):y∈aL f x↔∃k,iter f k x=y:=by
 obtain⟨r,_⟩:=cZ m hx;unfold aL;rw[jI];constructor
 ·rintro⟨i,_,h⟩;exact⟨i,h⟩
 ·rintro⟨k,h⟩;exact(xWP (k%per f x) (Nat.mod_lt _ r.1) (by rw[<-IS r.2.1];exact h))
theorem eG{f:Nat->Nat}{N:Nat}(m:b7 f N){x:Nat}(hx:x<N):x∈aL f x:=(bH m hx).mpr ⟨0,rfl⟩
theorem fR{f:Nat->Nat}{N:Nat}(m:b7 f N){x:Nat}(hx:x<N):∀y∈aL f x,y<N:=CG m hx _
theorem mQ{f:Nat->Nat}{N:Nat}(m:b7 f N){x:Nat}(hx:x<N):(aL f x).Nodup:=mJ m hx _ (cZ m hx).1.2.2
theorem sR{f:Nat->Nat}{N:Nat}(m:b7 f N){x:Nat}(hx:x<N):0<(aL f x).length/\(aL f x).length<=N:=by
 unfold aL;rw[kL];exact⟨(cZ m hx).1.1,(cZ m hx).2⟩
theorem gC{f:Nat->Nat}{N:Nat}(m:b7 f N){x y:Nat}(hx:x<N)(h:y∈aL f x):x∈aL f y:=by
 have hy:=fR m hx y h;obtain⟨k,rfl⟩:=(bH m hx).mp h;obtain⟨r,_⟩:=cZ m hx;refine(bH m hy).mpr ⟨per f x*(k+1)-k,?_⟩;have hk:k<=per f x*(k+1):=by
  have:=Nat.le_mul_of_pos_left (k+1) r.1
  lia
 rw[<-gK,Nat.add_sub_cancel' hk];exact sS r.2.1 _
theorem eV{f:Nat->Nat}{N:Nat}(m:b7 f N){x y z:Nat}(hx:x<N)(h1:y∈aL f x)(h2:z∈aL f y):z∈aL f x:=by
 have hy:=fR m hx y h1;obtain⟨k,rfl⟩:=(bH m hx).mp h1;obtain⟨j,rfl⟩:=(bH m hy).mp h2;exact(bH m hx).mpr ⟨k+j,gK f x k j⟩
noncomputable def fK(f:Nat->Nat):Nat->List Nat->List (List Nat)
 |0,_=>[]
 |_,[]=>[]
 |n+1,e::r=>aL f e::fK f n ((e::r).filter λx=>decide (x∉aL f e))
theorem gG(f:Nat->Nat)(n:Nat):fK f n []=[]:=by cases n<;>rfl
theorem cU{f:Nat->Nat}{N:Nat}(m:b7 f N){e:Nat}(he:e<N)(r:List Nat):((e::r).filter λx=>decide (x∉aL f e)).length<=r.length:=by
 rw[List.filter_cons,Ya (by simp[eG m he])];exact List.length_filter_le _ _
theorem kR{f:Nat->Nat}{N:Nat}(m:b7 f N):∀(n:Nat) (k:Nat) (l:List Nat),(∀x∈l,x<N)->l.length<=n->l.length<=k->fK f n l=fK f k l
 |0,k,l,_,h,_=>by
  have e:l=[]:=Yd.mp (by lia);subst e;rw[gG,gG]
 |n+1,k,[],_,_,_=>by rw[gG,gG]
 |n+1,0,e::r,_,_,h=>by simp at h
 |n+1,k+1,e::r,hl,h1,h2=>by
  have he:=hl e Zd;have s:=cU m he r;simp only[Yq]at h1 h2;show aL f e::fK f n _=aL f e::fK f k _;rw[kR m n k _ (λx hx=>hl x (Yz.mp hx).1) (by lia) (by lia)]
noncomputable def lf(f:Nat->Nat)(l:List Nat):List (List Nat):=fK f l.length l
theorem IQ(f:Nat->Nat):lf f []=[]:=rfl
theorem j3{f:Nat->Nat}{N:Nat}(m:b7 f N){e:Nat}{r:List Nat}(hl:∀x∈e::r,x<N):lf f (e::r)=aL f e::lf f ((e::r).filter λx=>decide (x∉aL f e)):=by
 unfold lf;show aL f e::fK f r.length _=_;rw[kR m r.length _ _ (λx hx=>hl x (Yz.mp hx).1) (cU m (hl e Zd) r) (ZC _)]
noncomputable def aS(f:Nat->Nat)(N:Nat):List (List Nat):=lf f (ZS N)
theorem mM{f:Nat->Nat}{N:Nat}(m:b7 f N):∀(n:Nat) (l:List Nat),l.length<=n->(∀x∈l,x<N)->∀d∈lf f l,∃e∈l,d=aL f e
 |0,l,h,_,d,hd=>by
  have e:l=[]:=Yd.mp (by lia);subst e;cases hd
 |n+1,[],_,_,d,hd=>by cases hd
 |n+1,e::r,h,hl,d,hd=>by
  rw[j3 m hl]at hd;rcases Zn.mp hd with rfl | hd
  ·exact(xWP e Zd rfl)
  ·have s:=cU m (hl e Zd) r;simp only[Yq]at h;obtain⟨x,hx,q⟩:=mM m n _ (by lia) (λx hx=>hl x (Yz.mp hx).1) d hd;exact(xWP x ((Yz.mp hx).1) q)
theorem sN{f:Nat->Nat}{N:Nat}(m:b7 f N):∀(n:Nat) (l:List Nat),l.length<=n->(∀x∈l,x<N)->(lf f l).length<=l.length
 |0,l,h,_=>by
  have e:l=[]:=Yd.mp (by lia);subst e;exact ZC _
 |n+1,[],_,_=>ZC _
 |n+1,e::r,h,hl=>by
  rw[j3 m hl];have s:=cU m (hl e Zd) r;simp only[Yq]at h ⊢;have ih:=sN m n _ (YQ s (by lia)) (λx hx=>hl x (Yz.mp hx).1)
  lia
theorem sM{f:Nat->Nat}{N:Nat}(m:b7 f N):∀(n:Nat) (l:List Nat),l.length<=n->(∀x∈l,x<N)->∀x∈l,∃(k:Nat) (d:List Nat),(lf f l)[k]?=some d/\x∈d/\∀(j:Nat) (d':List Nat),(lf f l)[j]?=some d'->x∈d'->j=k
 |0,l,h,_,x,hx=>by
  have e:l=[]:=Yd.mp (by lia);subst e;cases hx
 |n+1,[],_,_,x,hx=>by cases hx
 |n+1,e::r,h,hl,x,hx=>by
  have he:=hl e Zd;have hxN:=hl x hx;have s:=cU m he r;simp only[Yq]at h;rw[j3 m hl];by_cases q:x∈aL f e
  ·refine(aG 0 _ rfl q (λj d' hj hd=>?_));cases j with
   |zero=>rfl
   |succ j =>
    rw[List.getElem?_cons_succ]at hj;obtain⟨y,hy,rfl⟩:=mM m _ _ (ZC _) (λz hz=>hl z (Yz.mp hz).1) d' (Zg hj);obtain⟨hy1,hy2⟩:=Yz.mp hy;have hy2':y∉aL f e:=by simpa using hy2
    exact Yg (eV m he q (gC m (hl y hy1) hd)) hy2'
  ·have hx':x∈(e::r).filter λz=>decide (z∉aL f e):=Yz.mpr ⟨hx,by simpa using q⟩;obtain⟨k,d,h1,h2,h3⟩:=sM m n _ (by lia) (λz hz=>hl z (Yz.mp hz).1) x hx';refine(aG (k+1) d (by rw[List.getElem?_cons_succ];exact h1) h2 (λj d' hj hd=>?_));cases j with
   |zero =>
    rw[List.getElem?_cons_zero]at hj;cases hj;exact Yg hd q
   |succ j =>
    rw[List.getElem?_cons_succ]at hj;rw[h3 j d' hj hd]
end MM
set_option Elab.async false
set_option linter.all false
set_option maxRecDepth 100000
set_option maxHeartbeats 4000000
namespace L2
open PySem PySem.Spec PyProof.Rows
abbrev vn(n:Nat):V:=.int (n:Int)
abbrev vns(l:List Nat):List V:=l.map vn
section
variable{X:Cx}
def OO:V->List V->Hp->VK->Prop:=λx vs H Q=>x.gr λl=>∃(ns:List Nat) (v:Nat),vs=[vn v]/\H l=some (.lst (vns ns))/\v∈ns/\Q (vn (ns.idxOf v)) H
theorem kO:MtM X "list.index" OO:=by
 sleep 12;sleep 18;obtain⟨ns,k,rfl,hH,hm,q⟩:=z1;cases rx;obtain⟨u,rfl,t,rfl⟩:=rv.one;sleep 10;have hlen:its.length=ns.length:=by rw[<-hl];simp
 have hj:ns.idxOf k<ns.length:=ZN hm;have item:∀(m:Nat) (hm:m<its.toArray.size),eqU (vn k) its.toArray[m]=(ns[m]'(by simpa[hlen] using hm)==k):=λm hm'=>by
  have hm2:m<ns.length:=by simpa[hlen] using hm'
  have hx:(vns ns)[m]?=some (vn ns[m]):=by rw[Zk,Zz hm2];rfl
  obtain⟨u',hu',ru'⟩:=r.get hx;have e1:its.toArray[m]=u':=by
   have:its[m]?=some its.toArray[m]:=by simp at hm' ⊢
   rw[this]at hu';exact Option.some.inj hu'
  rw[e1,A6 ru' rfl];show((ns[m]:Int)==(k:Int))=(ns[m]==k)
  rw[Xh];simp only[beq_iff_eq]
  lia
 have hsm:((ns.idxOf k:Nat):Int)<2 ^ 63-1:=by
  have h1:=jZ;have h2:(vns ns).length=ns.length:=by simp
  lia
 refine call_meets F.slot_list_index (xWP _ e rfl) F.entry_list_index (F.args_list_index_2 _ _) (SeqAt.list_indexAt l its.toArray n none #[] (.int k t) (eqU (vn k)) (ns.idxOf k) (by simpa[hlen] using hj) hsm ?_ ?_) (xPP e (λy hy=>?_) ?_)
 ·rw[item];simp
 ·intro m hm' hlt;rw[item];have:=List.not_of_lt_findIdx (p:=(·==k)) (xs:=ns) (i:=m) hlt;simpa using this
 ·have fl:(vns ns).all lV=true:=by rw[ZE];intro y hy;obtain⟨n,_,rfl⟩:=Zh.mp hy;rfl
  exact nF (x:=vn k) ⟨t,rfl⟩ rfl r fl y (by simpa using hy)
 ·exact(aG (vn (ns.idxOf k)) H (I.tok _) ⟨_,rfl⟩ q)
def aU{α:Type}(l:List α)(i:Nat)(x:α):List α:=l.take i++x::l.drop i
def LB:V->List V->Hp->VK->Prop:=λx vs H Q=>x.gr λl=>∃(xs:List V) (i:Nat) (y:V),vs=[vn i,y]/\H l=some (.lst xs)/\i<=xs.length/\xs.length<ZW/\Q .non (upd H l (.lst (aU xs i y)))
theorem hZ:MtM X "list.insert" LB:=by
 sleep 12;sleep 18;obtain⟨xs,i,y,rfl,hH,hi,hz,q⟩:=z1;cases rx;obtain⟨u1,u2,rfl,⟨t,rfl⟩,r2⟩:=rv.two;sleep 10;have hfit:Builtin.List.listFitsIndex (i:Int)=true:=by
  unfold Builtin.List.listFitsIndex;have:=jZ;simp only[Xg,decide_eq_true_eq]
  lia
 have hc0:¬(!Builtin.List.listFitsIndex (i:Int))=true:=by rw[hfit];exact YT
 have hz1:its.toArray.size<=ZW:=by rw[ZF];lia
 obtain⟨w,hw⟩:∃w:Int,w=(i:Int):=⟨_,rfl⟩
 rw[<-hw]at hc0;have mm:=PySem.AutoSeq1.list_insert_list_int_val_1 l its.toArray n w t u2 hc0 hz1;rw[<-hw];refine call_meets F.slot_list_insert (xWP _ e rfl) F.entry_list_insert (F.args_list_insert_3 _ _ _) mm ⟨e,?_⟩;refine(aG .non _ (I.lset (its':=aU its i u2) (ys:=aU xs i y) (t':=s.toks) hH e ?_ ?_ ?_) rfl q)
 ·have hk:(if w<0 then (w+(its.toArray.size:Int)).toNat else min w.toNat its.toArray.size)=i:=by
   rw[Ya (by lia),ZF]
   lia
  show(its.toArray.extract 0 (if w<0 then (w+(its.toArray.size:Int)).toNat else min w.toNat its.toArray.size)).push u2++its.toArray.extract (if w<0 then (w+(its.toArray.size:Int)).toNat else min w.toNat its.toArray.size)=_;rw[hk];unfold aU;simp;exact List.take_of_length_le (!5)
 ·unfold aU;exact bD.append (r.take _) (.cons r2 (r.drop _))
 ·unfold aU;rw[Zm,Yq,Yw,Yp]
  lia
theorem vG:∀{xs:List V}{us:List Value},xs.length=us.length->(∀(j:Nat) x u,xs[j]?=some x->us[j]?=some u->RelV x u)->bD xs us
 |[],[],_,_=>.nil
 |x::xs,u::us,hl,h=>.cons (h 0 x u rfl rfl) (vG (by simpa using hl) λj y v h1 h2=>h (j+1) y v (by simpa using h1) (by simpa using h2))
theorem yV:fY X (.type "range") (λxs H Q=>∃j:Int,xs=[.int j]/\∀p,H p=none->Q (.ref p) (upd H p (.rng 0 j))):=by
 sleep 3;obtain⟨j,rfl,q⟩:=h;obtain⟨u,rfl,t,rfl⟩:=vals1 r;refine call_range_1 ?_;refine(aG (.ref s.heap.objs.size) _ (I.laid (o:=.rng 0 j) (λb o e=>YW _ e) (ZC _) (i6 _ _ _ (YU _ rfl))) rfl (q _ I.fresh))
theorem tR(hc:X.calm=true):fY X (.type "list") (λxs H Q=>∃(p:Addr) (n:Nat),xs=[.ref p]/\H p=some (.rng 0 n)/\n<=10000/\∀l,H l=none->Q (.ref l) (upd H l (.lst (vns (ZS n))))):=by
 sleep 3;obtain⟨p,n,rfl,hp,hn,q⟩:=h;sleep 6;cases rx;obtain⟨t,u,v,e⟩:=(show cD X.prog X.w H s.heap p (.rng 0 n) from I.hok p _ hp)
 have hsz:Builtin.Range.rangeSize 0 (n:Int) 1=n:=by rw[rangeSize_one];split<;>lia
 refine call_list_range (I.ok.hd hc) (show IsRange s.heap p 0 n 1 t u v from e) (small_one (by lia) (by lia) (by lia) (by lia)) hsz (by lia) λh' tk acc c' k e' it=>?_;have hv:bD (vns (ZS n)) acc.toList:=by
  refine vG (by simp[it.1]) λj x u hx hu=>?_;rw[Zk]at hx;obtain⟨m,hm,rfl⟩:=Xv.mp hx;obtain⟨hj,rfl⟩:=Zj.mp hm;obtain⟨t,rfl⟩:=it.2 j u (by simpa using hu);exact⟨t,by simp⟩
 exact(aG (.ref s.heap.objs.size) _ (I.laid (t':=tk) k (ZC _) (show cD X.prog X.w _ h' _ (.lst (vns (ZS n))) from(fD (by simp;exact YQ hn (!1)) acc.toList c' hv (by rw[e'])))) rfl (q _ I.fresh))
end
def gN(H:Hp)(a:Addr)(ts:MM.aP):Prop:=∃tr:List Addr,H a=some (.lst (!32))/\tr.length=ts.length/\∀(i:Nat) t,ts[i]?=some t->∃r,tr[i]?=some r/\H r=some (.tup [vn t.1,vn t.2])
def nU(H:Hp)(a:Addr)(os:MM.aN):Prop:=∃rr:List Addr,H a=some (.lst (rr.map V.ref))/\rr.length=os.length/\∀(i:Nat) l,os[i]?=some l->∃r,rr[i]?=some r/\H r=some (.lst (vns l))
theorem aK.ts{H H':Hp}(g:aK H H'){a:Addr}{ts:MM.aP}(h:gN H a ts):gN H' a ts:=by
 sleep 7;exact(aM tr (g _ _ h1) h2 (λi t ht=>by obtain⟨r,q1,q2⟩:=h3 i t ht;exact(xWP r q1 (g _ _ q2))))
theorem aK.os{H H':Hp}(g:aK H H'){a:Addr}{os:MM.aN}(h:nU H a os):nU H' a os:=by
 sleep 7;exact(aM tr (g _ _ h1) h2 (λi t ht=>by obtain⟨r,q1,q2⟩:=h3 i t ht;exact(xWP r q1 (g _ _ q2))))
theorem gN.item{H:Hp}{a:Addr}{ts:MM.aP}(h:gN H a ts){i:Nat}(hi:i<ts.length):∃xs r,H a=some (.lst xs)/\xs.length=ts.length/\atI xs (i:Int)=some (.ref r)/\H r=some (.tup [vn (ts.getD i (0,0)).1,vn (ts.getD i (0,0)).2]):=by
 sleep 7;obtain⟨r,q1,q2⟩:=h3 i ts[i] (Zz hi);refine(aO _ r h1 (by rw[Zq];exact h2) (dA (by rw[Zk,q1];rfl)) ?_);simp only[List.getD,Zz hi,YR];exact q2
theorem nU.item{H:Hp}{a:Addr}{os:MM.aN}(h:nU H a os){i:Nat}(hi:i<os.length):∃xs r,H a=some (.lst xs)/\xs.length=os.length/\atI xs (i:Int)=some (.ref r)/\H r=some (.lst (vns (MM.row os i))):=by
 sleep 7;obtain⟨r,q1,q2⟩:=h3 i os[i] (Zz hi);refine(aO _ r h1 (by rw[Zq];exact h2) (dA (by rw[Zk,q1];rfl)) ?_);unfold MM.row;simp only[List.getD,Zz hi,YR];exact q2
theorem j6{l:List Nat}{j:Nat}(h:j<l.length){k:Int}(hk:k=(j:Int)):atI (vns l) k=some (vn (l.getD j 0)):=by
 subst hk;exact dA (by rw[Zk,Zz h];simp[List.getD,h])
theorem C8{l:List Nat}{x:Nat}(h:x∈l):atI (vns l) ((l.idxOf x:Nat)-1:Int)=some (vn (MM.bZ l x)):=by
 have h1:=ZN h;unfold MM.bZ;rcases Nat.eq_zero_or_pos (l.idxOf x) with q | q
 ·have e:(l.idxOf x+l.length-1)%l.length=l.length-1:=by rw[q,Nat.zero_add];exact Nat.mod_eq_of_lt (by omega)
  rw[e];unfold atI ixN;rw[Ya (by lia),Yb (!41)];have e2:((l.idxOf x:Nat)-1+((vns l).length:Int)).toNat=l.length-1:=by simp;omega
  show(vns l)[((l.idxOf x:Nat)-1+((vns l).length:Int)).toNat]?=_;rw[e2,Zk,Zz (by lia)];have:l.length-1<l.length:=by lia
  simp[List.getD,this]
 ·have e:(l.idxOf x+l.length-1)%l.length=l.idxOf x-1:=by
   have:l.idxOf x+l.length-1=(l.idxOf x-1)+l.length:=by lia
   rw[this,Nat.add_mod_right];exact Nat.mod_eq_of_lt (by omega)
  rw[e];exact j6 (by omega) (by omega)
end L2
set_option linter.all false
set_option maxRecDepth 100000
set_option maxHeartbeats 4000000
namespace L2
open PySem PySem.Spec PyProof.Rows
theorem JQ{J:It}{js:List (Option Nat)}{σ:St}{H1:Hp}{R:Hp->Prop}{D:Addr}{g:TG}{te:TE}(n:Nat)(Pe:Nat->V->Prop)(hD:H1 D=none)(hn:n<=100000)
  (go:∀i H',i<n->aK H1 H'->J.go i H') (stop:∀H',aK H1 H'->J.stop n H')
  (hs:∀i H' x H'' (k:V->Hp->Prop),i<n->aK H1 H'->J.yld i H' x H''->(∀v H4,Pe i v->aK H' H4->k v H4)->g x (!47) H'' λσ2 H2=>Fills (!47) σ2/\te σ2 H2 k)
  (hd:∀vs H',vs.length=n->(∀(i:Nat) v,vs[i]?=some v->Pe i v)->aK H1 H'->H' D=some (.lst vs)->R H') :
  ∃W:Nat->Nat->List V->Hp->Prop,(∃m,W 0 m [] (upd H1 D (!49))) /\
   ∀i m ys H,W i m ys H->(J.stop i H/\R H)\/(J.go i H/\∃N:List V->Hp->Prop,(!35)/\∀x H',J.yld i H x H'->g x (!47) H' λσ2 H2=>Fills (!47) σ2/\tZ σ2 H2 λb H3 =>
    If b (!10) (N ys H3)):=by
 refine comp_map n (λi ys H'=>ys.length=i/\(∀(j:Nat) v,ys[j]?=some v->Pe j v)/\aK H1 H'/\H' D=some (.lst ys)) (bN rfl (λj v h=>by simp at h) (aC hD _) aB) ?_ ?_
 ·rintro i ys H' hi ⟨hl,hp,g1,hD'⟩;refine⟨go i H' hi g1,λx H'' hy=>hs i H' x H'' _ hi g1 hy λv H4 hv g4=>(cN (g4 _ _ hD') ?_ ?_ ?_ ?_ aB)⟩
  ·rw[hl];exact Xz hi (YQ hn (!1))
  ·rw[Zm,hl];rfl
  ·intro j v' h;by_cases hj:j<ys.length
   ·rw[Zx hj]at h;exact hp j v' h
   ·rw[Zy (by lia)]at h;have hj2:j-ys.length=0:=by
     have:=(Zj.mp h).1;simp at this;lia
    rw[hj2]at h;simp at h;subst h;have:j=i:=by lia
    subst this;exact hv
  ·exact λb o h=>by rw[aH (aE h hD)];exact g4 _ _ (g1 _ _ h)
 ·rintro ys H' ⟨hl,hp,g1,hD'⟩;exact⟨stop H' g1,hd ys H' hl hp g1 hD'⟩
theorem LA{vs:List V}{n:Nat}{fs:Nat->V}(hl:vs.length=n)(h:∀(i:Nat) v,vs[i]?=some v->v=fs i):vs=(ZS n).map fs:=by
 apply Yt;intro i;by_cases hi:i<n
 ·rw[Zk,Yk hi];obtain⟨v,hv⟩:∃v,vs[i]?=some v:=⟨vs[i],Zz (by lia)⟩
  rw[hv,h i v hv];rfl
 ·rw[Zr (by lia),Zr (!41)]
theorem bJ{J:It}{js:List (Option Nat)}{σ:St}{H1:Hp}{R:Hp->Prop}{D:Addr}{g:TG}{te:TE}(n:Nat)(fs:Nat->V)(hD:H1 D=none)(hn:n<=100000)
  (go:∀i H',i<n->aK H1 H'->J.go i H') (stop:∀H',aK H1 H'->J.stop n H')
  (hs:∀i H' x H'' (k:V->Hp->Prop),i<n->aK H1 H'->J.yld i H' x H''->(∀H4,aK H' H4->k (fs i) H4)->g x (!47) H'' λσ2 H2=>Fills (!47) σ2/\te σ2 H2 k)
  (hd:∀H',aK H1 H'->H' D=some (.lst ((ZS n).map fs))->R H') :
  ∃W:Nat->Nat->List V->Hp->Prop,(∃m,W 0 m [] (upd H1 D (!49))) /\
   ∀i m ys H,W i m ys H->(J.stop i H/\R H)\/(J.go i H/\∃N:List V->Hp->Prop,(!35)/\∀x H',J.yld i H x H'->g x (!47) H' λσ2 H2=>Fills (!47) σ2/\tZ σ2 H2 λb H3 =>
    If b (!10) (N ys H3)) :=
 JQ n (λi v=>v=fs i) hD hn go stop (λi H' x H'' k hi g1 hy hk=>hs i H' x H'' k hi g1 hy λH4 g4=>hk _ _ rfl g4)
  λvs H' hl hp g1 e=>hd H' g1 (by rw[e,LA hl hp])
def at0(ls:List Int)(j:Nat):Int:=ls.getD j 0
theorem bX{ls:List Int}{j:Nat}(h:j<ls.length):(ls.map V.int)[j]?=some (.int (at0 ls j)):=by
 unfold at0;rw[Zk,Zz h];simp[List.getD,h]
theorem iZ{ls:List Int}{j:Nat}(h:j<ls.length):at0 ls j∈ls:=by
 unfold at0;simp[List.getD,h]
theorem aQ{ls:List Int}{j:Nat}(h:j<ls.length){k:Int}(hk:k=(j:Int)):atI (ls.map V.int) k=some (.int (at0 ls j)):=by
 subst hk;exact dA (bX h)
def vo:Option Int->V
 |none=>.non
 |some i=>.int i
abbrev vos(l:List (!18)):List V:=l.map vo
def ov(l:List (!18))(j:Nat):Option Int:=l.getD j none
theorem u5{l:List (!18)}{j:Nat}(h:j<l.length):(vos l)[j]?=some (vo (ov l j)):=by
 unfold ov vos;rw[Zk,Zz h];simp[List.getD,h]
theorem pA{l:List (!18)}{j:Nat}(h:j<l.length){k:Int}(hk:k=(j:Int)):atI (vos l) k=some (vo (ov l j)):=by
 subst hk;exact dA (u5 h)
theorem KG(l:List (!18))(j:Nat)(o:Option Int):(vos l).set j (vo o)=vos (l.set j o):=by unfold vos;rw[ZH]
theorem BO(l:List (!18))(o:Option Int):vos l++[vo o]=vos (l++[o]):=by unfold vos;rw[Zt];rfl
theorem dE{n j:Nat}{k:Int}(h:j<n)(hk:k=(j:Int)):ixN n k=some j:=by
 subst hk;unfold ixN;rw[Yb (by lia),Yb (by lia)];simp
def dvo:Option Int->PyData
 |none=>.none
 |some i=>.int i
theorem Bds.vos{H:Hp}:∀l:List (!18),Bds H (vos l) (l.map dvo)
 |[]=>.nil
 |none::ns=>.cons .non (Bds.vos ns)
 |some n::ns=>.cons (.int n) (Bds.vos ns)
theorem iY{H:Hp}{a:Addr}{ns:List Int}(h:H a=some (.lst (!39))):Bd H (.ref a) (.list (ns.map PyData.int)):=.lst (SqL.of h) (nX ns)
theorem JW{H:Hp}{a:Addr}{ns:List (!18)}(h:H a=some (.lst (vos ns))):Bd H (.ref a) (.list (ns.map dvo)):=.lst (SqL.of h) (Bds.vos ns)
theorem gX{ds:List PyData}(n:Nat)(h:∀d∈ds,d.canLay0=true/\d.depth<=n):PyData.canLayAll0 ds=true/\PyData.depthAll ds<=n:=by
 induction ds with
 |nil=>exact⟨rfl,YZ _⟩
 |cons d ds ih =>
  have h1:=h d Zd;have h2:=ih λx hx=>h x (Zw _ hx);refine⟨by rw[PyData.canLayAll0,h1.1,h2.1];rfl,?_⟩;rw[PyData.depthAll];exact Nat.max_le.mpr ⟨h1.2,h2.2⟩
theorem lay_ints(ns:List Int):PyData.canLayAll0 (ns.map PyData.int)=true/\PyData.depthAll (ns.map PyData.int)<=2:=gX 2 λd hd=>by
 obtain⟨n,_,rfl⟩:=Zh.mp hd;exact⟨rfl,by simp[PyData.depth]⟩
theorem MK(ns:List (!18)):PyData.canLayAll0 (ns.map dvo)=true/\PyData.depthAll (ns.map dvo)<=2:=gX 2 λd hd=>by
 obtain⟨n,_,rfl⟩:=Zh.mp hd;cases n with
 |none=>exact⟨rfl,by simp[dvo,PyData.depth]⟩
 |some i=>exact⟨rfl,by simp[dvo,PyData.depth]⟩
theorem via{tt r:TS}{D:Ends}{σ:St}{H:Hp}(I:St->Hp->Prop)(ht:(∀σ' H',I σ' H'->r D σ' H')->tt { D with nx:=r D } σ H)(hr:∀σ' H',I σ' H'->r D σ' H'):DR tt r D σ H:=ht hr
theorem shaped_ints(ns:List Int):SeqAt.shaped (.list (ns.map PyData.int))=true:=by
 have h:=lay_ints ns;unfold SeqAt.shaped;rw[Xg];refine⟨h.1,Ye ?_⟩;rw[PyData.depth]
 lia
theorem dJ{a:Addr}{xs:List V}{g:TG}{tb:TS}{D:Ends}{σ:St}{H:Hp}(Pv:Nat->St->Hp->Prop)(h0:Pv 0 σ H)(hl:∀i σ H,i<=xs.length->Pv i σ H->SqL H a xs)
  (hs:∀(i:Nat) x σ H T,xs[i]?=some x->Pv i σ H->H T=none->g (.ref T) σ (upd H T (.tup [vn i,x])) λσ2 H2=>tb { D with nx:=Pv (i+1),ct:=Pv (i+1),bk:=D.nx } σ2 H2) (hd:∀σ H,Pv xs.length σ H->D.nx σ H) :
  ∃W:Nat->Nat->St->Hp->Prop,(∃m,W 0 m σ H)/\∀i m σ H,W i m σ H ->
   ((Ite a).stop i H/\D.nx σ H)\/((Ite a).go i H/\∃N:St->Hp->Prop,(!45)/\∀x H',(Ite a).yld i H x H'->g x σ H' λσ2 H2=>tb { D with nx:=N,ct:=N,bk:=D.nx } σ2 H2):=by
 refine(xWP (λi m σ H=>m=xs.length-i/\i<=xs.length/\Pv i σ H) (aM xs.length (!5) (YZ _) h0) ?_);rintro i m σ H ⟨rfl,hi,p⟩;have q:=hl i σ H hi p;by_cases hlt:i<xs.length
 ·refine .inr (fN (bM xs (xs[i]) q (by simp[hlt])) (Pv (i+1)) (λσ' H' p'=>(cC (xs.length-(i+1)) (by omega) rfl hlt p')) (λx H' y=>?_));obtain⟨T,x',rfl,hT,rfl,y⟩:=y;exact hs i x' σ _ T (y xs q) p hT
 ·have e:i=xs.length:=by lia
  subst e;exact .inl ⟨(xWP xs q (ZC _)),hd σ H p⟩
theorem r8(ns:List Int):∀k,k<=ns.length->PySem.preSum (at0 ns) k=(ns.take k).sum
 |0,_=>by simp[PySem.preSum]
 |k+1,h=>by
  rw[PySem.preSum,r8 ns k (by lia),List.take_succ,List.sum_append];have hk:k<ns.length:=by lia
  unfold at0;simp[List.getD,hk]
section
variable{X:Cx}{pins:List (!16)}{σ:St}{H:Hp}{s:Shared}
theorem gJ{p:Addr}{its:List Value}(pl:PlainL s.heap p its.toArray) :
  (s.heap.push { cls:=.type "list_iterator",data:=.fields #[.ref p,.int 0 0] }).IsListIter s.heap.objs.size p 0/\(s.heap.push { cls:=.type "list_iterator",data:=.fields #[.ref p,.int 0 0] }).IsList p its.toArray:=by
 obtain⟨o,n,e,hc,hd,hs⟩:=pl;exact(j9 (aM _ (YU _ rfl) rfl rfl) o (YW _ e) hc ⟨ n,hs⟩)
theorem kJ{p:Addr}{its:List Value}(pl:PlainL s.heap p its.toArray):p<s.heap.objs.size:=by
 obtain⟨o,n,e,_⟩:=pl;exact YV e
theorem fM(hc:X.calm=true):fY X (.builtin "sum") (λxs H Q=>∃(p:Addr) (ns:List Int),xs=[.ref p]/\SqL H p (!39)/\Q (.int ns.sum) H):=by
 sleep 3;obtain⟨p,ns,rfl,hq,q⟩:=h;sleep 6;cases rx;sleep 11;have hl:=rv.length;rw[Zq]at hl;have hp:=kJ pl;refine call_sum_walkG (wpAny_pyIter_list pl.isList ?_);refine(bW s.heap.objs.size ([s.heap.objs.size,p]) ([s.heap.objs.size]) its.toArray.size _ _ (at0 ns) rfl (!30) (bN (gJ pl) (λb hb=>?_) (λi v hv=>?_) (λh' tk t' hk=>?_)))
 ·have:=YV (YU s.heap (o:={ cls:=.type "list_iterator",data:=.fields #[.ref p,.int 0 0] }) rfl);simp only[Zn,ZM,or_false]at hb;rcases hb with rfl | rfl
  ·sleep 19
  ·exact Nat.lt_trans hp this
 ·have hi:its[i]?=some v:=by simpa using hv
  have hi2:i<ns.length:=by rw[hl];exact(Zj.mp hi).1
  obtain⟨u',hu,ru⟩:=rv.get (bX hi2);rw[hi]at hu;cases hu;exact ru
 ·refine(aG (.int ns.sum) H (I.kept (h':=h') (t':=tk) λb o e=>?_) ⟨t',?_⟩ q)
  ·refine hk b o ?_ (YW _ e);simp only[Zn,ZM,or_false];exact ZA (YV e)
  ·rw[ZF,<-hl,r8 ns _ (ZC _),Yv]
end
theorem all_range(bs:List Bool):(ZS bs.length).all (λi=>bs.getD i true)=bs.all id:=by
 rw[Xh,ZE,ZE];constructor
 ·intro h b hb;obtain⟨i,hi,rfl⟩:=List.getElem_of_mem hb;have:=h i (by simpa using hi);simpa[List.getD,hi] using this
 ·intro h i hi;have hi':i<bs.length:=by simpa using hi
  have:=h bs[i] (Zp hi');simpa[List.getD,hi'] using this
theorem any_range(ns:List Int):(ZS ns.length).any (λi=>at0 ns i != 0)=ns.any (· != 0):=by
 rw[Xh,List.any_eq_true,List.any_eq_true];constructor
 ·rintro⟨i,hi,h⟩;have hi':i<ns.length:=by simpa using hi
  exact(xWP _ (iZ hi') h)
 ·rintro⟨x,hx,h⟩;obtain⟨i,hi,rfl⟩:=List.getElem_of_mem hx;exact(xWP i (by simpa using hi) (by simpa[at0,List.getD,hi] using h))
section
variable{X:Cx}
theorem oX(hc:X.calm=true):fY X (.builtin "all") (λxs H Q=>∃(p:Addr) (bs:List Bool),xs=[.ref p]/\SqL H p (bs.map V.bl)/\Q (.bl (bs.all id)) H):=by
 sleep 3;obtain⟨p,bs,rfl,hq,q⟩:=h;sleep 6;cases rx;sleep 11;have hl:=rv.length;rw[Zq]at hl;have hp:=kJ pl;refine call_all_walk (wpAny_pyIter_list pl.isList ?_);refine(bW s.heap.objs.size ([s.heap.objs.size,p]) ([s.heap.objs.size]) its.toArray.size _ _ (λi=>bs.getD i true) rfl (!30) (xPP (gJ pl) (λi v s' Q' E' hv hQ=>?_) (λh' tk hk=>?_)))
 ·have hi:its[i]?=some v:=by simpa using hv
  have hi2:i<bs.length:=by rw[hl];exact(Zj.mp hi).1
  obtain⟨u',hu,ru⟩:=rv.get (show(bs.map V.bl)[i]?=some (.bl (bs.getD i true)) by rw[Zk,Zz hi2];simp[List.getD,hi2]);rw[hi]at hu;cases hu;cases ru;exact wpAny_truthy_bool hQ
 ·refine(aG (.bl (bs.all id)) H (I.kept (h':=h') (t':=tk) λb o e=>?_) ?_ q)
  ·refine hk b o ?_ (YW _ e);simp only[Zn,ZM,or_false];exact ZA (YV e)
  ·show Value.bool _=Value.bool _;rw[ZF,<-hl,all_range]
theorem E6(hc:X.calm=true):fY X (.builtin "any") (λxs H Q=>∃(p:Addr) (ns:List Int),xs=[.ref p]/\SqL H p (!39)/\Q (.bl (ns.any (· != 0))) H):=by
 sleep 3;obtain⟨p,ns,rfl,hq,q⟩:=h;sleep 6;cases rx;sleep 11;have hl:=rv.length;rw[Zq]at hl;have hp:=kJ pl;refine call_any_walk (wpAny_pyIter_list pl.isList ?_);refine(bW s.heap.objs.size ([s.heap.objs.size,p]) ([s.heap.objs.size]) its.toArray.size _ _ (λi=>at0 ns i != 0) rfl (!30) (xPP (gJ pl) (λi v s' Q' E' hv hQ=>?_) (λh' tk hk=>?_)))
 ·have hi:its[i]?=some v:=by simpa using hv
  have hi2:i<ns.length:=by rw[hl];exact(Zj.mp hi).1
  obtain⟨u',hu,ru⟩:=rv.get (bX hi2);rw[hi]at hu;cases hu;obtain⟨t,rfl⟩:=ru;exact PySem.P.truthy_int hQ
 ·refine(aG (.bl (ns.any (· != 0))) H (I.kept (h':=h') (t':=tk) λb o e=>?_) ?_ q)
  ·refine hk b o ?_ (YW _ e);simp only[Zn,ZM,or_false];exact ZA (YV e)
  ·show Value.bool _=Value.bool _;rw[ZF,<-hl,any_range]
end
section
variable{X:Cx}
theorem lP(hc:X.calm=true):fY X (.builtin "min") (λxs H Q=>∃(p:Addr) (ns:List Int),xs=[.ref p]/\SqL H p (!39)/\0<ns.length/\∀m:Int,m∈ns->(∀x∈ns,m<=x)->Q (.int m) H):=by
 sleep 3;obtain⟨p,ns,rfl,hq,h0,q⟩:=h;sleep 6;cases rx;sleep 11;have hl:=rv.length;rw[Zq]at hl;have hp:=kJ pl;have hv:∀(i:Nat) (v:Value),its.toArray[i]?=some v->∃t,v=Value.int (at0 ns i) t:=λi v hv=>by
  have hi:its[i]?=some v:=by simpa using hv
  have hi2:i<ns.length:=by rw[hl];exact(Zj.mp hi).1
  obtain⟨u',hu,ru⟩:=rv.get (bX hi2);rw[hi]at hu;cases hu;exact ru
 have hb:=argBest_lt (at0 ns) (its.toArray.size-1);refine call_min_walk (wpAny_pyIter_list pl.isList ?_);refine(bW s.heap.objs.size ([s.heap.objs.size,p]) ([s.heap.objs.size]) its.toArray.size _ _ _ rfl (!30) (bK (gJ pl) (λb hb=>?_) (!41) (CmpOf.ints_lt (at0 ns) hv) (λv h' tk hP hk=>?_)))
 ·have:=YV (YU s.heap (o:={ cls:=.type "list_iterator",data:=.fields #[.ref p,.int 0 0] }) rfl);simp only[Zn,ZM,or_false]at hb;rcases hb with rfl | rfl
  ·sleep 19
  ·exact Nat.lt_trans hp this
 ·obtain⟨t,rfl⟩:=hv _ _ hP;have hsz:its.toArray.size=ns.length:=by simp[hl]
  refine(aG (.int _) H (I.kept (h':=h') (t':=tk) λb o e=>?_) ⟨t,rfl⟩ (q _ (iZ (by omega)) λx hx=>?_))
  ·refine hk b o ?_ (YW _ e);simp only[Zn,ZM,or_false];exact ZA (YV e)
  ·obtain⟨i,hi,rfl⟩:=List.getElem_of_mem hx;have:=hb.2 i (by lia);have e:at0 ns i=ns[i]:=by unfold at0;simp[List.getD,hi]
   rw[<-e];sleep 19
theorem E5(hc:X.calm=true):fY X (.builtin "max") (λxs H Q=>∃(p:Addr) (ns:List Int),xs=[.ref p]/\SqL H p (!39)/\0<ns.length/\∀m:Int,m∈ns->(∀x∈ns,x<=m)->Q (.int m) H):=by
 sleep 3;obtain⟨p,ns,rfl,hq,h0,q⟩:=h;sleep 6;cases rx;sleep 11;have hl:=rv.length;rw[Zq]at hl;have hp:=kJ pl;have hv:∀(i:Nat) (v:Value),its.toArray[i]?=some v->∃t,v=Value.int (at0 ns i) t:=λi v hv=>by
  have hi:its[i]?=some v:=by simpa using hv
  have hi2:i<ns.length:=by rw[hl];exact(Zj.mp hi).1
  obtain⟨u',hu,ru⟩:=rv.get (bX hi2);rw[hi]at hu;cases hu;exact ru
 have hb:=argBest_gt (at0 ns) (its.toArray.size-1);refine call_max_walk (wpAny_pyIter_list pl.isList ?_);refine(bW s.heap.objs.size ([s.heap.objs.size,p]) ([s.heap.objs.size]) its.toArray.size _ _ _ rfl (!30) (bK (gJ pl) (λb hb=>?_) (!41) (CmpOf.ints_gt (at0 ns) hv) (λv h' tk hP hk=>?_)))
 ·have:=YV (YU s.heap (o:={ cls:=.type "list_iterator",data:=.fields #[.ref p,.int 0 0] }) rfl);simp only[Zn,ZM,or_false]at hb;rcases hb with rfl | rfl
  ·sleep 19
  ·exact Nat.lt_trans hp this
 ·obtain⟨t,rfl⟩:=hv _ _ hP;have hsz:its.toArray.size=ns.length:=by simp[hl]
  refine(aG (.int _) H (I.kept (h':=h') (t':=tk) λb o e=>?_) ⟨t,rfl⟩ (q _ (iZ (by omega)) λx hx=>?_))
  ·refine hk b o ?_ (YW _ e);simp only[Zn,ZM,or_false];exact ZA (YV e)
  ·obtain⟨i,hi,rfl⟩:=List.getElem_of_mem hx;have:=hb.2 i (by lia);have e:at0 ns i=ns[i]:=by unfold at0;simp[List.getD,hi]
   rw[<-e];sleep 19
end
section
variable{X:Cx}
theorem wO:fY X (.builtin "sorted") (λxs H Q=>∃p ns,xs=[.ref p]/\SqL H p (!39)/\ns.length<64/\∀(l:Addr) (ns':List Int),H l=none->ns'.Perm ns->ns'.Pairwise (·<=·)->Q (.ref l) (upd H l (.lst (ns'.map V.int)))):=by
 sleep 3;obtain⟨p,ns,rfl,hq,h64,q⟩:=h;sleep 6;cases rx;obtain⟨its,r',pl,hz⟩:=I.list hq;have hlen:=r'.length;rw[Zq]at hlen;refine sorted_ints (ns:=ns) (vs:=its) pl.isList (intsAre_of r') (by lia) λout ns' a1 a2 a3=>?_;obtain⟨e,he⟩:=sortedAll_at s.heap its out;have rv:=lG a1;refine(aG (.ref (!22)) _ (I.laid (t':=s.toks) (λ_ _=>sortedAll_old) (Nat.le_succ _) (show cD X.prog X.w _ _ _ (.lst (ns'.map V.int)) from(fD ?_ out.toList e rv he))) rfl (q _ ns' (I.hok.fresh (Nat.le_succ _)) a2 a3));rw[Zq,a2.length_eq];exact YQ (by lia:ns.length<=64) (!1)
end
section
variable{κ:Type}[DecidableEq κ]
def fA(kvs:List (κ×V))(k:κ):Option V:=(kvs.find? λkv=>decide (kv.1=k)).map (·.2)
def putK(kvs:List (κ×V))(k:κ)(v:V):List (κ×V) :=
 if (kvs.any λkv=>decide (kv.1=k))=true then kvs.map (λkv=>if kv.1=k then (kv.1,v) else kv) else kvs++[(k,v)]
theorem dY{p:κ×V}{r:List (κ×V)}{k:κ}(e:p.1=k):fA (p::r) k=some p.2:=by simp[fA,List.find?_cons,e]
theorem dG{p:κ×V}{r:List (κ×V)}{k:κ}(e:¬p.1=k):fA (p::r) k=fA r k:=by simp[fA,List.find?_cons,e]
theorem kD(k:κ):∀kvs:List (κ×V),(kvs.any λkv=>decide (kv.1=k))=(fA kvs k).isSome
 |[]=>rfl
 |p::r=>by
  rw[List.any_cons];by_cases e:p.1=k
  ·simp only[dY e,Ye e,Bool.true_or,Option.isSome_some]
  ·rw[dG e,Yc e,Bool.false_or];exact kD k r
theorem w9(k j:κ)(y:V):∀kvs:List (κ×V),fA (kvs.map λkv=>if kv.1=k then (kv.1,y) else kv) j=(fA kvs j).map λx=>if j=k then y else x
 |[]=>rfl
 |p::r=>by
  have ih:=w9 k j y r;rw[ZJ];by_cases h:p.1=k
  ·rw[Yb h];by_cases e:p.1=j
   ·rw[dY (p:=(p.1,y)) e,dY e,Option.map_some,Yb (e.symm.trans h)]
   ·rw[dG (p:=(p.1,y)) e,dG e,ih]
  ·rw[Ya h];by_cases e:p.1=j
   ·rw[dY (p:=p) e,dY e,Option.map_some,Ya (λz=>h (e.trans z))]
   ·rw[dG (p:=p) e,dG e,ih]
theorem tY(k j:κ)(y:V):∀kvs:List (κ×V),fA kvs k=none->fA (kvs++[(k,y)]) j=if j=k then some y else fA kvs j
 |[],_=>by
  by_cases e:k=j
  ·rw[Yb e.symm];exact dY (p:=(k,y)) e
  ·rw[Ya (λz=>e z.symm)];exact dG (p:=(k,y)) e
 |p::r,hn=>by
  rw[List.cons_append];have hk:¬p.1=k:=λz=>by rw[dY z]at hn;cases hn
  rw[dG hk]at hn;have ih:=tY k j y r hn;by_cases e:p.1=j
  ·rw[dY e,dY e,Ya (λz=>hk (e.trans z))]
  ·rw[dG e,dG e,ih]
theorem rH(kvs:List (κ×V))(k j:κ)(y:V):fA (putK kvs k y) j=if j=k then some y else fA kvs j:=by
 unfold putK;by_cases a:(kvs.any λkv=>decide (kv.1=k))=true
 ·rw[Yb a,w9];rw[kD]at a;by_cases e:j=k
  ·obtain⟨x,hx⟩:=Option.isSome_iff_exists.mp a;rw[Yb e,e,hx,Option.map_some,Yb rfl]
  ·rw[Ya e];cases fA kvs j with
   |none=>rfl
   |some x=>rw[Option.map_some,Ya e]
 ·rw[Ya a];refine tY k j y kvs ?_;rw[kD]at a;cases q:fA kvs k with
  |none=>rfl
  |some x=>rw[q]at a;exact(a rfl).elim
theorem kP(kvs:List (κ×V))(k:κ)(v:V):(putK kvs k v).length<=kvs.length+1:=by
 unfold putK;split
 ·rw[Zq];lia
 ·rw[Zm,Yq,List.length_nil];lia
theorem GY{kvs:List (κ×V)}{k:κ}(v:V)(h:fA kvs k=none):putK kvs k v=kvs++[(k,v)]:=by
 unfold putK;rw[kD,h];exact Ya (!1)
theorem wU.isSome_eq{o:Option V}{u:Option Value}(r:wU o u):o.isSome=u.isSome:=by
 cases o with
 |none=>cases u with
  |none=>rfl
  |some _=>exact(show False from r).elim
 |some _=>cases u with
  |none=>exact(show False from r).elim
  |some _=>rfl
theorem KV.val{kvs:List (κ×V)}{vs:List (κ×Value)}(r:KV kvs vs)(k:κ):wU (fA kvs k) (valueAt vs k):=by
 unfold KV at r;induction r with
 |nil=>exact True.intro
 |@cons p q ps qs h t ih =>
  obtain⟨h1,h2⟩:=h;by_cases e:p.1=k
  ·have e':q.1=k:=h1.symm.trans e;have b:valueAt (q::qs) k=some q.2:=by simp[valueAt,List.find?_cons,e']
   rw[dY e,b];exact h2
  ·have e':¬q.1=k:=λz=>e (h1.trans z);have b:valueAt (q::qs) k=valueAt qs k:=by simp[valueAt,List.find?_cons,e']
   rw[dG e,b];exact ih
theorem KV.any{kvs:List (κ×V)}{vs:List (κ×Value)}(r:KV kvs vs)(k:κ):(kvs.any λkv=>decide (kv.1=k))=vs.any λkv=>decide (kv.1=k):=by
 unfold KV at r;induction r with
 |nil=>rfl
 |cons h t ih=>rw[List.any_cons,List.any_cons,ih,h.1]
theorem KV.repl{kvs:List (κ×V)}{vs:List (κ×Value)}(r:KV kvs vs)(k:κ){y:V}{u:Value}(ry:RelV y u) :
  KV (kvs.map λkv=>if kv.1=k then (kv.1,y) else kv) (vs.map λkv=>if kv.1=k then (kv.1,u) else kv):=by
 unfold KV at r ⊢;induction r with
 |nil=>exact .nil
 |@cons p q ps qs h t ih =>
  rw[ZJ,ZJ];refine .cons ?_ ih;obtain⟨h1,h2⟩:=h;by_cases e:p.1=k
  ·rw[Yb e,Yb (h1.symm.trans e)];exact⟨h1,ry⟩
  ·rw[Ya e,Ya (λz=>e (h1.trans z))];exact⟨h1,h2⟩
theorem KV.put{kvs:List (κ×V)}{vs:List (κ×Value)}(r:KV kvs vs)(k:κ){y:V}{u:Value}(ry:RelV y u):KV (putK kvs k y) (stored vs k u):=by
 unfold putK stored;rw[r.any k];by_cases e:(vs.any λkv=>decide (kv.1=k))=true
 ·rw[Yb e,Yb e];exact r.repl k ry
 ·rw[Ya e,Ya e];exact Paired.snoc r ⟨rfl,ry⟩
theorem KV.keys{kvs:List (κ×V)}{vs:List (κ×Value)}(r:KV kvs vs):kvs.map (·.1)=vs.map (·.1):=by
 unfold KV at r;induction r with
 |nil=>rfl
 |cons h t ih=>rw[ZJ,ZJ,ih,h.1]
theorem KV.length{kvs:List (κ×V)}{vs:List (κ×Value)}(r:KV kvs vs):kvs.length=vs.length:=Paired.length r
end
theorem CQ{P:Program}{w:World}{k:Key}{u:Value}(r:RelV (kV k) u):(cQ P w).is k u=true:=by
 cases k with
 |inl i=>obtain⟨t,e⟩:=(show ∃t,u=Value.int i t from r);subst e;exact x9 P w i t
 |inr x=>obtain⟨t,e⟩:=(show ∃t,u=Value.str x t from r);subst e;exact x8 P w x t
theorem uR{P:Program}{w:World}:∀{ks:List Key}{us:List Value},bD (ks.map kV) us->ItemsAre (cQ P w) ks us
 |[],_,r=>by rw[List.map_nil]at r;cases r;exact .nil
 |k::ks,_,r=>by
  rw[ZJ]at r;cases r with
  |cons h t=>exact .cons (CQ h) (uR t)
abbrev KT(H:Hp):List (List Key×V)->List (List Key×Addr×Value)->Prop:=Paired λp q=>p.1=q.1/\H q.2.1=some (.tup (p.1.map kV))/\RelV p.2 q.2.2
theorem KT.val{H:Hp}{kvs:List (List Key×V)}{xs:List (List Key×Addr×Value)}(r:KT H kvs xs)(k:List Key):wU (fA kvs k) ((atKey xs k).map (·.2)):=by
 induction r with
 |nil=>exact True.intro
 |@cons p q ps qs h t ih =>
  obtain⟨h1,_,h2⟩:=h;by_cases e:p.1=k
  ·have e':q.1=k:=h1.symm.trans e;have b:atKey (q::qs) k=some q.2:=by simp[atKey,List.find?_cons,e']
   rw[dY e,b];exact h2
  ·have e':¬q.1=k:=λz=>e (h1.trans z);have b:atKey (q::qs) k=atKey qs k:=by simp[atKey,List.find?_cons,e']
   rw[dG e,b];exact ih
theorem KT.repl{H:Hp}{kvs:List (List Key×V)}{xs:List (List Key×Addr×Value)}(r:KT H kvs xs)(k:List Key){y:V}{u:Value}(ry:RelV y u) :
  KT H (kvs.map λkv=>if kv.1=k then (kv.1,y) else kv) (xs.map (putAt k u)):=by
 induction r with
 |nil=>exact .nil
 |@cons p q ps qs h t ih =>
  rw[ZJ,ZJ];refine .cons ?_ ih;obtain⟨h1,h2,h3⟩:=h;unfold putAt;by_cases e:p.1=k
  ·rw[Yb e,Yb (h1.symm.trans e)];exact(xPP h1 h2 ry)
  ·rw[Ya e,Ya (λz=>e (h1.trans z))];exact(xPP h1 h2 h3)
theorem KT.put{H:Hp}{kvs:List (List Key×V)}{xs:List (List Key×Addr×Value)}(r:KT H kvs xs)(k:List Key){b:Addr}{y:V}{u:Value}(hb:H b=some (.tup (k.map kV)))(ry:RelV y u) :
  KT H (putK kvs k y) (storedH xs k b u):=by
 have e:(kvs.any λkv=>decide (kv.1=k))=(atKey xs k).isSome:=by
  rw[kD,(r.val k).isSome_eq,Option.isSome_map]
 unfold putK storedH;rw[e];by_cases q:(atKey xs k).isSome=true
 ·rw[Yb q,Yb q];exact r.repl k ry
 ·rw[Ya q,Ya q];exact Paired.snoc r (xPP rfl hb ry)
theorem KT.keeps{H H':Hp}{kvs:List (List Key×V)}{xs:List (List Key×Addr×Value)}(r:KT H kvs xs)(ht:∀b ys,H b=some (.tup ys)->H' b=some (.tup ys)):KT H' kvs xs :=
 k9 r λ_ _ z=>(xPP z.1 (ht _ _ z.2.1) z.2.2)
section
variable{P:Program}{w:World}{H:Hp}{h:Heap}{a:Addr}
theorem NK{u:HO}(ok:HOk P w H h)(e:Rd H a u):cD P w H h a u:=e.ok ok
theorem uT{kvs:List (Key×V)}(ok:HOk P w H h)(e:Rd H a (.dK kvs)):kvs.length<=ZW/\(a==sysModules)=false/\∃vs,KV kvs vs/\h.DictOf (cQ P w) a vs :=
 show cD P w H h a (.dK kvs) from NK ok e
theorem NV{kvs:List (Key×V)}(ok:HOk P w H h)(e:H a=some (.dK kvs)):kvs.length<=ZW/\(a==sysModules)=false/\∃vs,KV kvs vs/\h.DictOf (cQ P w) a vs:=uT ok (.inl e)
theorem wC{ks:List Key}(ok:HOk P w H h)(e:H a=some (.tup (ks.map kV))):(tupleKind (cQ P w)).is h ks a:=by
 obtain⟨_,its,r,o,h1,h2,n,h3⟩:=(show cD P w H h a (.tup (ks.map kV)) from ok a _ e)
 exact(cI o its.toArray n h1 h2 h3 (by simpa using uR r))
theorem C1{kvs:List (List Key×V)}(ok:HOk P w H h)(e:Rd H a (.dT kvs)):kvs.length<=ZW/\(a==sysModules)=false /\
  ∃xs,KT H kvs xs/\h.DictOfH (tupleKind (cQ P w)) a xs:=by
 obtain⟨z,y,xs,r,o,es,ep,h1,h2,h3,h4,h5⟩:=(show cD P w H h a (.dT kvs) from NK ok e)
 refine(rF z y xs r o es ep h1 h2 (bN h3 h4 (λx hx=>?_) h5));have all:∀{l:List (List Key×V)}{m:List (List Key×Addr×Value)},KT H l m->∀x∈m,(tupleKind (cQ P w)).is h x.1 x.2.1:=by
  intro l m q;induction q with
  |nil=>intro x hx;exact nomatch hx
  |@cons p q ps qs hq t ih =>
   intro x hx;rcases Zn.mp hx with e | hx
   ·subst e;exact wC ok (by rw[<-hq.1];exact hq.2.1)
   ·exact ih x hx
 exact all r x hx
theorem SB{kvs:List (List Key×V)}(ok:HOk P w H h)(e:H a=some (.dT kvs)):kvs.length<=ZW/\(a==sysModules)=false /\
  ∃xs,KT H kvs xs/\h.DictOfH (tupleKind (cQ P w)) a xs:=C1 ok (.inl e)
end
def i9(H:Hp)(a:Addr)(y:V)(r:Option V):Prop :=
 (∃kvs k,Rd H a (.dK kvs)/\y=kV k/\r=fA kvs k)\/∃kvs k b,Rd H a (.dT kvs)/\y=.ref b/\H b=some (.tup (k.map kV))/\r=fA kvs k
def BJ(H:Hp)(a:Addr)(y v:V)(H':Hp):Prop :=
 (∃kvs k,H a=some (.dK kvs)/\y=kV k/\kvs.length<ZW/\H'=upd H a (.dK (putK kvs k v))) \/
 ∃kvs k b,H a=some (.dT kvs)/\y=.ref b/\H b=some (.tup (k.map kV))/\kvs.length<ZW/\H'=upd H a (.dT (putK kvs k v))
theorem i9.k{H:Hp}{a:Addr}{kvs:List (Key×V)}{k:Key}(e:H a=some (.dK kvs)):i9 H a (kV k) (fA kvs k):=.inl (aG kvs k (.inl e) rfl rfl)
theorem BJ.k{H:Hp}{a:Addr}{kvs:List (Key×V)}{k:Key}{v:V}(e:H a=some (.dK kvs))(hl:kvs.length<ZW):BJ H a (kV k) v (upd H a (.dK (putK kvs k v))):=.inl (aO kvs k e rfl hl rfl)
section
variable{X:Cx}{pins:List (!16)}{σ:St}{H:Hp}{s:Shared}{a:Addr}{y v:V}{u r:Value}{o:Option V}{A:Around}{E:Value->Shared->Prop}
theorem Inv.big(I:Inv X pins σ H s):sysModules<s.heap.objs.size:=by
 have h:ZV<s.heap.objs.size:=(I.mod.glob.keeps I.bk).lt;exact Nat.lt_trans (!1) h
theorem E3{Q:Value->Shared->Prop}(hu:A.units+1<cLine)(I:Inv X pins σ H s)(g:i9 H a y (some v))(ry:RelV y u)(h:∀w' s',Inv X pins σ H s'->RelV v w'->Q w' s') :
  wpAny (!3) A (getItem (.ref a) u) Q E s:=by
 rcases g with⟨kvs,k,e,ey,l⟩ | ⟨kvs,k,b,e,ey,eb,l⟩
 ·subst ey;obtain⟨z,hd,vs,rel,dd⟩:=uT I.hok e;obtain⟨w',hw,rw'⟩:=j7 (v:=v) (o:=valueAt vs k) (by rw[l];exact rel.val k);exact wpAny_getItem_of (CQ ry) dd.mapOf hw (h w' _ (I.tok _) rw')
 ·subst ey;cases (show u=Value.ref b from ry);obtain⟨z,hd,xs,rel,dd⟩:=C1 I.hok e;obtain⟨w',hw,rw'⟩:=j7 (v:=v) (o:=(atKey xs k).map (·.2)) (by rw[l];exact rel.val k);obtain⟨p,hp,hp2⟩:=Xv.mp hw;refine wpAny_getItem_heap (tupleKind_room_in1 hu) (wC I.hok eb) dd hp ?_;rw[hp2];exact h w' _ (I.tok _) rw'
theorem MX{Q:Value->Shared->Prop}(hu:A.units+1<cLine)(I:Inv X pins σ H s)(g:i9 H a y o)(ry:RelV y u)(h:∀s',Inv X pins σ H s'->Q (.bool (!o.isSome)) s') :
  wpAny (!3) A (compareOp .NotIn u (.ref a)) Q E s:=by
 rcases g with⟨kvs,k,e,ey,l⟩ | ⟨kvs,k,b,e,ey,eb,l⟩
 ·subst ey;obtain⟨z,hd,vs,rel,dd⟩:=uT I.hok e;refine wpAny_notIn_of (CQ ry) hd dd.mapOf ?_;rw[<-(rel.val k).isSome_eq,<-l];exact h _ (I.tok _)
 ·subst ey;cases (show u=Value.ref b from ry);obtain⟨z,hd,xs,rel,dd⟩:=C1 I.hok e;refine wpAny_notIn_heap (tupleKind_room_in1 hu) (wC I.hok eb) hd dd ?_;have q:=(rel.val k).isSome_eq;rw[Option.isSome_map]at q;rw[<-q,<-l];exact h _ (I.tok _)
theorem C5{h':Heap}{t':Nat}{ob:HO}(I:Inv X pins σ H s)(mu:Mut (H a))(hs:Heap.SameBut a s.heap h')(he:∃q,h'.get? a=some q)(new:cD X.prog X.w (upd H a ob) h' a ob) :
  Inv X pins σ (upd H a ob) { s with heap:=h',toks:=t' } :=
 I.write (x:=a) (e:=a) mu (.inl rfl) (λb q hb z=>(hs.2 b hb).trans z) he new
theorem QE{P:Program}{w:World}{H':Hp}{h':Heap}{kvs:List (Key×V)}{vs:List (Key×Value)}(z:kvs.length<=ZW)(hd:(a==sysModules)=false)(rel:KV kvs vs)(dd:h'.DictOf (cQ P w) a vs) :
  cD P w H' h' a (.dK kvs):=(kA z hd vs rel dd)
theorem E2{H':Hp}{Q:Unit->Shared->Prop}(hu:A.units+1<cLine)(I:Inv X pins σ H s)(g:BJ H a y v H')(ry:RelV y u)(rv:RelV v r)(h:∀s',Inv X pins σ H' s'->Q () s') :
  wpAny (!3) A (setItem (.ref a) u r) Q E s:=by
 rcases g with⟨kvs,k,e,ey,l,eH⟩ | ⟨kvs,k,b,e,ey,eb,l,eH⟩
 ·subst ey eH;obtain⟨z,hd,vs,rel,dd⟩:=NV I.hok e;have hz:vs.length<=ZW:=by rw[<-rel.length];exact z
  have hl:(putK kvs k v).length<=ZW:=by have:=kP kvs k v;lia
  refine wpAny_setItem_pairs (hsz:=hz) (CQ ry) dd λh' dd' hs=>h _ ?_;have he:∃q,h'.get? a=some q:=let⟨q,_,_,hq,_⟩:=dd';⟨q,hq⟩;exact C5 I (by rw[e];exact True.intro) hs he (QE hl hd (rel.put k rv) dd')
 ·subst ey eH;cases (show u=Value.ref b from ry);obtain⟨z,hd,xs,rel,dd⟩:=SB I.hok e;have hz:xs.length<=ZW:=by rw[<-Paired.length rel];exact z
  have hl:(putK kvs k v).length<=ZW:=by have:=kP kvs k v;lia
  refine wpAny_setItem_heap (hsz:=hz) (tupleKind_room_in1 hu) (wC I.hok eb) dd λh' dd' hs=>h _ ?_;obtain⟨q,es,ep,hq,h2,h3,h4,_,h5⟩:=dd';refine C5 I (by rw[e];exact True.intro) hs ⟨q,hq⟩ (rF hl hd _ ((rel.put k eb rv).keeps λc ys ec=>?_) q es ep hq h2 (xPP h3 h4 h5));rw[aH (b8 ec e (λz=>nomatch z))];exact ec
end
section
variable{X:Cx}{pins:List (!16)}{σ:St}{H:Hp}{s:Shared}{a:Addr}{kvs:List (Key×V)}{k:Key}{u:Value}{A:Around}{E:Value->Shared->Prop}
end
def SI(i:Expr):Prop:=∀ov iv,subscripted i false ov iv=operate [ov,iv] (getItem ov iv)
theorem KO{prog:Program}{w:World}{A:Around}{E:Value->Shared->Prop}{s:Shared}{env:Env}{value slice:Expr}{pos:Pos}{T id:String}{Q:Value->Shared->Prop}
  (hl:typeLookup (.type T) "__getitem__" = pure (some (.builtin id))) (hs:SI slice)
  (h:wpAny (!17) A (eval value env) (λo s₁=>wpAny (!17) A (eval slice env) (λi s₂=>s₂.TypeIs o T/\wpAny (!17) A (getItem o i) Q E s₂) E s₁) E s) :
  wpAny (!17) A (eval (.Subscript value slice pos) env) Q E s:=by
 refine Subscript_ (ZX h (λo s₁ h₁=>ZX h₁ (λi s₂ h₂=>?_) λ_ _ x=>x) λ_ _ x=>x);obtain⟨hT,h₂⟩:=h₂;unfold subscriptTail;refine ZZ ?_;rw[getitemInPython_of_ne hT.not_modules];refine ZZ (wpAny_specialOf hT hl ?_);have fin:wpAny (!17) A (subscripted slice false o i) (λr s₃=>wpAny (!17) A (letTemporaryGo value o r >>= λ_=>pure r) Q E s₃) E s₂:=by
  rw[hs o i];exact wpAny_operating (ZX h₂ (λr s₃ h₃=>ZZ (wpAny_letTemporaryGo (ZY h₃))) λ_ _ x=>x)
 first
  |exact ZY (ZZ fin)
  |exact ZZ (ZY (ZZ fin))
  |exact ZZ fin
theorem yN{X:Cx}{pins:List (!16)}{σ:St}{H:Hp}{s:Shared}{a:Addr}{y:V}{o:Option V}(I:Inv X pins σ H s)(g:i9 H a y o):s.TypeIs (.ref a) "dict":=by
 rcases g with⟨kvs,k,e,_,_⟩ | ⟨kvs,k,b,e,_,_,_⟩
 ·obtain⟨_,_,vs,_,dd⟩:=uT I.hok e;exact dd.typeIs
 ·obtain⟨_,_,xs,_,dd⟩:=C1 I.hok e;exact dd.typeIs
def QW(td ty:TE):TE:=λσ H Q=>td σ H λx H1=>ty σ H1 λy H2=>x.gr λa=>∃v,i9 H2 a y (some v)/\Q v H2
def KN(ty td:TE):TE:=λσ H Q=>ty σ H λy H1=>td σ H1 λx H2=>x.gr λa=>∃o,i9 H2 a y o/\Q (.bl (!o.isSome)) H2
def Q9(td ty tv:TE):TS:=λD σ H=>tv σ H λv H1=>td σ H1 λx H2=>ty σ H2 λy H3=>x.gr λa=>∃H4,BJ H3 a y v H4/\D.nx σ H4
section
variable{X:Cx}{o i e value:Expr}{pos pos' tpos:Pos}{td ty tv:TE}
theorem jV(hu:X.A.units+1<cLine)(ho:PE X o td)(hi:PE X i ty)(hs:SI i):PE X (.Subscript o i pos) (QW td ty):=by
 sleep 2;refine KO PySem.F.slot_dict_getitem.lookup hs (cW (ho pins s σ H _ I h) λu s1 x H1 I1 rx q1=>cW (hi pins s1 σ H1 _ I1 q1) λiv s2 y H2 I2 ry zz=>?_);obtain⟨a,ex,v,g,q2⟩:=bV zz;subst ex;obtain rfl:u=Value.ref a:=rx;exact⟨yN I2 g,E3 hu I2 g ry λw' s3 I3 rw'=>(aG v H2 I3 rw' q2)⟩
theorem uI(hu:X.A.units+1<cLine)(hi:PE X i ty)(ho:PE X o td):PC X .NotIn i o (KN ty td):=by
 sleep 2;refine cW (hi pins s σ H _ I h) λiv s1 y H1 I1 ry q1=>cW (ho pins s1 σ H1 _ I1 q1) λu s2 x H2 I2 rx zz=>?_;obtain⟨a,ex,ov,g,q2⟩:=bV zz;subst ex;obtain rfl:u=Value.ref a:=rx;exact MX hu I2 g ry λs3 I3=>(aG (.bl (!ov.isSome)) H2 I3 rfl q2)
theorem qE(hu:X.A.units+1<cLine)(ho:PE X o td)(hi:PE X i ty)(hv:PE X value tv)(hs:swapsWith value (some (.Subscript o i pos')) pos.line X.env=pure false) :
  PS X (.Assign [.Subscript o i pos'] value pos) (Q9 td ty tv):=by
 sleep 9;refine wpAny_Assign_Subscript (cW (hv pins s σ H _ I h) λr s1 v H1 I1 rv q1=>cW (ho pins s1 σ H1 _ I1 q1) λu s2 x H2 I2 rx q2=>cW (hi pins s2 σ H2 _ I2 q2) λiv s3 y H3 I3 ry zz=>?_) hs;obtain⟨a,ex,H4,g,q3⟩:=bV zz;subst ex;obtain rfl:u=Value.ref a:=rx;exact E2 hu I3 g ry rv λs4 I4=>(bM σ H4 I4 q3)
end
theorem JK{P:Program}{w:World}{H:Hp}(h:Heap)(hb:sysModules<h.objs.size):cD P w H (h.push { cls:=.type "dict",data:=.dict #[] }) h.objs.size (.dK []) :=
 (kA (YZ _) (beq_eq_false_iff_ne.mpr (Yh (ZA hb))) ([]) .nil (Heap.DictOf.new h))
def N7:TE:=λ_ H Q=>∀p,H p=none->Q (.ref p) (upd H p (.dK []))
section
variable{X:Cx}{pos:Pos}
theorem nC:PE X (.Dict [] [] pos) N7:=λpins s σ H Q I h =>
 wpAny_Dict_empty (aG (.ref s.heap.objs.size) _ (I.laid (a:=s.heap.objs.size) (o:=.dK []) (t':=s.toks) (λ_ _ q=>YW _ q) (ZC _) (JK s.heap I.big)) rfl (h _ (I.hok.fresh (ZC _))))
end
section
variable{X:Cx}{e ste:Expr}{te:TE}{lo hi:Option Expr}{tl th tk:TO}{pos p2:Pos}
end
theorem vO{α:Type}(d:List Nat)(F:Nat->α):(ZS d.length).map (λi=>F (d.getD i 0))=d.map F:=by
 apply Yt;intro i;by_cases h:i<d.length
 ·rw[Zk,Zk,Yk h,Zz h];simp[List.getD,h]
 ·rw[Zr (!41),Zr (!41)]
end L2
namespace L2
open PySem PyProof.Rows
theorem GZ{κ:Type}[DecidableEq κ](kvs:List (κ×V))(k:κ)(v:V):(putK kvs k v).length<=kvs.length+1:=by
 unfold putK;split<;>simp
theorem zN{l:List Nat}{i:Nat}{x:V}(h:(vns l)[i]?=some x):i<l.length/\x=vn (l.getD i 0):=by
 rw[Zk]at h;obtain⟨y,h1,h2⟩:=Xv.mp h;obtain⟨hi,rfl⟩:=Zj.mp h1;exact⟨hi,by rw[<-h2];simp[List.getD,hi]⟩
theorem gR{rs:List Addr}{i:Nat}{x:V}(h:(rs.map V.ref)[i]?=some x):∃r,rs[i]?=some r/\x=.ref r:=by
 rw[Zk]at h;obtain⟨r,h1,h2⟩:=Xv.mp h;exact(xWP r h1 h2.symm)
end L2
namespace PySem
set_option maxRecDepth 100000
namespace F
end F
section
variable{prog:Program}{w:World}{A:Around}{E:Value->Shared->Prop}{s:Shared}
end
section
variable{prog:Program}{w:World}{A:Around}{s:Shared}
end
section
variable{prog:Program}{w:World}{A:Around}{E:Value->Shared->Prop}{s:Shared}
end
end PySem
namespace L2
open PySem PySem.Spec PyProof.Rows
section
variable{X:Cx}{e:Expr}{te:TE}{p p2 pos pos2:Pos}
end
section
variable{X:Cx}{K:PySem.W.Frag}{e ste:Expr}{te:TE}{lo hi:Option Expr}{tl th tk:TO}{p p2 pos pos2:Pos}
end
end L2
namespace SO
open PySem PyProof PyProof.Rows
structure Kept(k:SortKind)(z:Array Keyed)(t:SortSt):Prop where
 kd:kindOf t=k
 pm:(arrOf t).Perm z
 nf:failedOf t=none
 np:pendingOf t=#[]
def rk(ρ:Keyed->Int)(xs:Array Keyed)(i:Nat):Int:=(xs[i]?.map ρ).getD 0
def Up(ρ:Keyed->Int)(xs:Array Keyed)(m:Nat):Prop:=∀i j,i<=j->j<m->rk ρ xs i<=rk ρ xs j
def Dn(ρ:Keyed->Int)(xs:Array Keyed)(m:Nat):Prop:=∀i j,i<=j->j<m->rk ρ xs j<=rk ρ xs i
theorem xI{ρ:Keyed->Int}{xs ys:Array Keyed}{i j:Nat}(e:xs[i]?=ys[j]?):rk ρ xs i=rk ρ ys j:=by
 simp only[rk,e]
theorem uD{ρ:Keyed->Int}{xs:Array Keyed}{a d:Nat}(ha:a<xs.size)(hd:d<=a)(i:Nat) :
  rk ρ (bubble xs a d) i=if i=a-d then rk ρ xs a else if a-d<i/\i<=a then rk ρ xs (i-1) else rk ρ xs i:=by
 have e:=getElem?_bubble ha d hd i;split
 ·next q=>rw[Yb q]at e;exact xI e
 ·next q =>
  rw[Ya q]at e;split
  ·next q2=>rw[Yb q2]at e;exact xI e
  ·next q2=>rw[Ya q2]at e;exact xI e
theorem oM{ρ:Keyed->Int}{xs:Array Keyed}{a b:Nat}(hb:b<=xs.size)(i:Nat) :
  rk ρ (mirror xs a b ((b-a) / 2)) i=if a<=i/\i<b then rk ρ xs (a+b-1-i) else rk ρ xs i:=by
 have e:=getElem?_mirror_all (i:=a) hb i;split
 ·next q=>rw[Yb q]at e;exact xI e
 ·next q=>rw[Ya q]at e;exact xI e
theorem rT{ρ:Keyed->Int}{xs:Array Keyed}{a b:Nat}(hb:b<=xs.size)
  (h:∀i,a<=i->i<b->rk ρ xs i=rk ρ xs (b-1)) (i:Nat):rk ρ (mirror xs a b ((b-a) / 2)) i=rk ρ xs i:=by
 rw[oM hb];by_cases q:a<=i/\i<b
 ·rw[Yb q];have h1:=h (a+b-1-i) (by omega) (by omega);have h2:=h i q.1 q.2
  lia
 ·rw[Ya q]
def Tells(M:Model)(A:Around)(E:Value->Shared->Prop)(s:Shared)(k:SortKind)(z:Array Keyed)(ρ:Keyed->Int):Prop :=
 ∀(p q:Keyed) (t:SortSt) (Q:Option Bool->SortSt->Prop),p∈z.toList->q∈z.toList->kindOf t=k ->
  Q (some (decide (ρ p<ρ q))) t->wpS M A E s (lt' p q) Q t
section
variable{M:Model}{A:Around}{E:Value->Shared->Prop}{s:Shared}{k:SortKind}{z:Array Keyed}{ρ:Keyed->Int}
theorem Kept.len{t:SortSt}(h:Kept k z t):(arrOf t).size=z.size:=h.pm.size_eq
theorem Kept.put{t:SortSt}(h:Kept k z t){xs:Array Keyed}(q:xs.Perm (arrOf t)):Kept k z (setArr t xs) :=
 ⟨h.kd,q.trans h.pm,h.nf,h.np⟩
theorem Kept.nth{t:SortSt}(h:Kept k z t){i:Nat}(hi:i<z.size) :
  ∃p,(arrOf t)[i]?=some p/\p∈z.toList/\rk ρ (arrOf t) i=ρ p:=by
 have hi':i<(arrOf t).size:=by rw[h.len];exact hi
 have e:(arrOf t)[i]?=some (arrOf t)[i]:=getElem?_pos _ i hi';refine(aM _ e ((Array.perm_iff_toList_perm.mp h.pm).mem_iff.mp (!5)) ?_);simp[rk,e]
theorem less(T:Tells M A E s k z ρ){t:SortSt}(h:Kept k z t){i j:Nat}(hi:i<z.size)(hj:j<z.size){Q:Option Bool->SortSt->Prop}
  (q:Q (some (decide (rk ρ (arrOf t) i<rk ρ (arrOf t) j))) t):wpS M A E s (ltAt' i j) Q t:=by
 obtain⟨a,ea,ma,ra⟩:=h.nth (ρ:=ρ) hi;obtain⟨b,eb,mb,rb⟩:=h.nth (ρ:=ρ) hj;rw[ra,rb]at q;rw[ltAt'_eq];refine wpS_bind (wpS_get ?_);have e1:elem' (arrOf t) i=pure a:=by rw[elem'_eq,ea]
 have e2:elem' (arrOf t) j=pure b:=by rw[elem'_eq,eb]
 show wpS M A E s (elem' (arrOf t) i >>= λu=>elem' (arrOf t) j >>= λv=>lt' u v) Q t;rw[e1,e2];exact wpS_bind (wpS_pure (wpS_bind (wpS_pure (T a b t Q ma mb h.kd q))))
def Slot(ρ:Keyed->Int)(xs:Array Keyed)(m l r:Nat):Prop :=
 l<=r/\r<=m/\(∀i,i<l->rk ρ xs i<=rk ρ xs m)/\(∀i,r<=i->i<m->rk ρ xs m<rk ρ xs i)
theorem Up.slotted{xs:Array Keyed}{m l:Nat}(hm:m<xs.size)(hu:Up ρ xs m)(h:Slot ρ xs m l l):Up ρ (bubble xs m (m-l)) (m+1):=by
 obtain⟨_,h2,h3,h4⟩:=h;intro i j hij hj;have el:m-(m-l)=l:=by lia
 rw[uD hm (by lia),uD hm (by lia),el];by_cases c1:i<l
 ·rw[Ya (by lia),Ya (by lia)];by_cases c2:j=l
  ·rw[Yb c2];exact h3 i c1
  ·rw[Ya c2];by_cases c3:l<j/\j<=m
   ·rw[Yb c3];exact hu _ _ (by lia) (by omega)
   ·rw[Ya c3];exact hu _ _ hij (by lia)
 ·by_cases c2:j=l
  ·have:i=l:=by lia
   rw[Yb c2,Yb this];sleep 16
  ·rw[Ya c2,Yb (show l<j/\j<=m by lia)];by_cases c3:i=l
   ·rw[Yb c3];exact Int.le_of_lt (h4 _ (by lia) (by lia))
   ·rw[Ya c3,Yb (by lia)];exact hu _ _ (by omega) (by lia)
theorem IV(T:Tells M A E s k z ρ){t:SortSt}{n d:Nat}(hn:n<=z.size)(hd:d<=n)(hK:Kept k z t)(hu:Up ρ (arrOf t) d)
  {Q:Bool->SortSt->Prop}(q:∀t',Kept k z t'->Up ρ (arrOf t') n->Q true t'):wpS M A E s (binarySort' 0 n d) Q t:=by
 rw[binarySort'_eq];simp only[Nat.zero_add];refine wpS_bind (wpS_mono (wpS_forRange (Q:=λc t'=>c=(none,())/\Kept k z t'/\Up ρ (arrOf t') n)
  (λm c t'=>c=(none,())/\Kept k z t'/\Up ρ (arrOf t') (min m n)) ?_ ?_ ?_) λc t' h=>by obtain⟨rfl,a,b⟩:=h;exact wpS_pure (q t' a b))
 ·rintro m c t' h1 h2 ⟨rfl,hK',hu'⟩;rw[Nat.min_eq_left (by lia)]at hu';have hm:m<z.size:=by lia
  have hm':m<(arrOf t').size:=by rw[hK'.len];exact hm
  refine wpS_bind (wpS_mono (wpS_forRange (Q:=λc t2=>t2=t'/\∃l,c=(none,l,l)/\Slot ρ (arrOf t') m l l)
   (λx c t2=>t2=t'/\∃l r,c=(none,l,r)/\r-l<=m-x/\Slot ρ (arrOf t') m l r) ?_ ?_ ?_) ?_)
  ·rintro x c t2 _ hx ⟨rfl,l,r,rfl,hs,hS⟩;dsimp only;obtain⟨s1,s2,s3,s4⟩:=hS;by_cases hlr:l>=r
   ·rw[Yb hlr];exact wpS_pure (KA rfl l (by rw[show r=l by lia]) (ZC _) (by lia) s3 (λi a b=>s4 i (by lia) b))
   ·rw[Ya hlr];refine wpS_bind (less T hK' hm (show(l+r) / 2<z.size by lia) ?_);by_cases hc:rk ρ (arrOf t2) m<rk ρ (arrOf t2) ((l+r) / 2)
    ·rw[Ye hc];simp only[if_true];refine wpS_pure (lC rfl l ((l+r) / 2) rfl (by omega) (by lia) (by lia) s3 (λi a b=>?_));exact Int.lt_of_lt_of_le hc (hu' _ _ a b)
    ·rw[Yc hc];simp only[YS,if_false];refine wpS_pure (lC rfl ((l+r) / 2+1) r rfl (by omega) (by lia) (by lia) (λi a=>?_) s4);have:=hu' i ((l+r) / 2) (by lia) (by lia)
     lia
  ·rintro c t2 ⟨rfl,l,r,rfl,hs,hS⟩;have e:r=l:=by have:=hS.1;lia
   subst e;exact(fN rfl _ rfl hS)
  ·exact(lC rfl 0 m rfl (by lia) (by lia) (by lia) (λi a=>by lia) (λi a b=>by lia))
  ·rintro c t2 ⟨rfl,l,rfl,hS⟩;dsimp only;rw[moveDown'_eq];refine wpS_bind (wpS_modify (wpS_pure (xPP rfl (hK'.put (bubble_perm _ _ _)) ?_)));rw[Nat.min_eq_left (by lia)];exact hu'.slotted hm' hS
 ·rintro c t' ⟨e,hK',hu'⟩;refine(xPP e hK' ?_)
  rwa [show min (max (max d 1) n) n=n by lia]at hu'
 ·refine(xPP rfl hK (λi j hij hj=>?_));by_cases hd0:d=0
  ·rw[show i=j by lia];sleep 16
  ·exact hu i j hij (by lia)
end
section
variable{prog:Program}{w:World}{A:Around}{E:Value->Shared->Prop}{s:Shared}{k:SortKind}{z:Array Keyed}{ρ:Keyed->Int}
theorem Up.one(xs:Array Keyed){m:Nat}(h:m<=1):Up ρ xs m:=λi j a b=>by
 rw[show i=j by lia];sleep 16
theorem Up.more{xs:Array Keyed}{m:Nat}(hu:Up ρ xs m)(h:¬rk ρ xs m<rk ρ xs (m-1)):Up ρ xs (m+1):=by
 intro i j a b;by_cases c:j<m
 ·exact hu i j a c
 ·rw[show j=m by lia];by_cases c2:i=m
  ·rw[c2];sleep 16
  ·have:=hu i (m-1) (by lia) (by lia);lia
theorem Dn.more{xs:Array Keyed}{m:Nat}(hu:Dn ρ xs m)(h:rk ρ xs m<=rk ρ xs (m-1)):Dn ρ xs (m+1):=by
 intro i j a b;by_cases c:j<m
 ·exact hu i j a c
 ·rw[show j=m by lia];by_cases c2:i=m
  ·rw[c2];sleep 16
  ·have:=hu i (m-1) (by lia) (by lia);lia
theorem Dn.same{xs ys:Array Keyed}{m:Nat}(hu:Dn ρ xs m)(h:∀i,rk ρ ys i=rk ρ xs i):Dn ρ ys m:=λi j a b=>by
 rw[h,h];exact hu i j a b
theorem Dn.turned{xs:Array Keyed}{m:Nat}(hm:m<=xs.size)(hu:Dn ρ xs m):Up ρ (mirror xs 0 m ((m-0) / 2)) m:=λi j a b=>by
 rw[oM hm,oM hm,Yb (by lia),Yb (by lia)];exact hu _ _ (by omega) (by omega)
theorem rising(T:Tells (!17) A E s k z ρ){t:SortSt}{a n:Nat}(hn:n<=z.size)(h1:1<=a)(h2:a<=n)(hK:Kept k z t)(hu:Up ρ (arrOf t) a)
  {Q:AscSt->SortSt->Prop}
  (q:∀m,a<=m->m<=n->Up ρ (arrOf t) m->(m=n\/rk ρ (arrOf t) m<rk ρ (arrOf t) (m-1))->Q (none,m) t) :
  wpS (!17) A E s (ascLoop a n) Q t:=by
 unfold ascLoop;refine wpS_forRange (λx c t'=>c=(none,x)/\t'=t/\Up ρ (arrOf t) x) ?_ ?_ (xPP rfl rfl hu)
 ·rintro x c t' g1 g2 ⟨rfl,rfl,hx⟩;dsimp only;refine wpS_bind (less T hK (show x<z.size by lia) (show x-1<z.size by lia) ?_);by_cases c:rk ρ (arrOf t') x<rk ρ (arrOf t') (x-1)
  ·rw[Ye c];simp only[if_true];exact wpS_pure (q x g1 (by lia) hx (Or.inr c))
  ·rw[Yc c];simp only[YS,if_false];exact wpS_pure (xPP rfl rfl (hx.more c))
 ·rintro c t' ⟨rfl,rfl,hx⟩;have e:max a n=n:=by lia
  rw[e]at hx ⊢;exact q n h2 (ZC _) hx (Or.inl rfl)
def Flat(ρ:Keyed->Int)(xs:Array Keyed)(m e:Nat):Prop:=e+1<=m/\∀i,m-(e+1)<=i->i<m->rk ρ xs i=rk ρ xs (m-1)
theorem lB(xs:Array Keyed){m:Nat}(h:1<=m):Flat ρ xs m 0:=⟨h,λi a b=>by rw[show i=m-1 by lia]⟩
theorem Flat.more{xs:Array Keyed}{m e:Nat}(h:Flat ρ xs m e)(g:rk ρ xs m=rk ρ xs (m-1)):Flat ρ xs (m+1) (e+1) :=
 ⟨by have:=h.1;lia,λi a b=>by
  rw[show m+1-1=m by lia];by_cases c:i=m
  ·rw[c]
  ·rw[g];exact h.2 i (by lia) (by lia)⟩
theorem back(T:Tells (!17) A E s k z ρ){t:SortSt}{m n:Nat}(hn:n<=z.size)(h1:1<=m)(h2:m<=n)(hK:Kept k z t)(hd:Dn ρ (arrOf t) m)
  {Q:Option Nat->SortSt->Prop}(q:∀m' t',1<=m'->m'<=n->Kept k z t'->Up ρ (arrOf t') m'->Q (some m') t') :
  wpS (!17) A E s (tail3 m n) Q t:=by
 unfold tail3;have hs:m<=(arrOf t).size:=by rw[hK.len];lia
 refine wpS_bind (wpS_reverse ?_);have hK':=hK.put (mirror_perm (arrOf t) 0 m ((m-0) / 2));refine wpS_bind (rising T hn h1 h2 hK' (hd.turned hs) λm' g1 g2 g3 _=>?_);exact wpS_pure (q m' _ (by lia) g2 hK' g3)
theorem MV(T:Tells (!17) A E s k z ρ){t:SortSt}{m n:Nat}(hn:n<=z.size)(h1:1<=m)(h2:m<=n)(hK:Kept k z t)(hd:Dn ρ (arrOf t) m)
  {Q:DescSt->SortSt->Prop}
  (q:∀m' e t',1<=m'->m'<=n->Kept k z t'->Dn ρ (arrOf t') m'->Flat ρ (arrOf t') m' e->Q (none,m',e) t') :
  wpS (!17) A E s (descLoop m n) Q t:=by
 unfold descLoop;refine wpS_forRange (λx c t'=>∃e,c=(none,x,e)/\Kept k z t'/\Dn ρ (arrOf t') x/\Flat ρ (arrOf t') x e) ?_ ?_ (cC 0 rfl hK hd (lB _ h1))
 ·rintro x c t' g1 g2 ⟨e,rfl,hK',hx,hF⟩;dsimp only;have hs:x<=(arrOf t').size:=by rw[hK'.len];lia
  refine wpS_bind (less T hK' (show x<z.size by lia) (show x-1<z.size by lia) ?_);by_cases c:rk ρ (arrOf t') x<rk ρ (arrOf t') (x-1)
  ·rw[Ye c];simp only[if_true];have hm:=hx.more (Int.le_of_lt c);by_cases c2:e>0
   ·rw[Yb c2];refine wpS_bind (wpS_reverse (wpS_pure (cC 0 rfl (hK'.put (mirror_perm _ _ _ _)) (hm.same (rT hs hF.2)) (lB _ (by lia)))))
   ·rw[Ya c2];exact wpS_pure (cC 0 rfl hK' hm (lB _ (by lia)))
  ·rw[Yc c];simp only[YS,if_false];refine wpS_bind (less T hK' (show x-1<z.size by lia) (show x<z.size by lia) ?_);by_cases c2:rk ρ (arrOf t') (x-1)<rk ρ (arrOf t') x
   ·rw[Ye c2];simp only[if_true];exact wpS_pure (q x e t' (by lia) (by lia) hK' hx hF)
   ·rw[Yc c2];simp only[YS,if_false];have e2:rk ρ (arrOf t') x=rk ρ (arrOf t') (x-1):=by lia
    exact wpS_pure (cC (e+1) rfl hK' (hx.more (by lia)) (hF.more e2))
 ·rintro c t' ⟨e,rfl,hK',hx,hF⟩;have e2:max m n=n:=by lia
  rw[e2]at hx hF ⊢;exact q n e t' (by lia) (ZC _) hK' hx hF
theorem JC(T:Tells (!17) A E s k z ρ){t:SortSt}{m n:Nat}(hn:n<=z.size)(h2:m+1<=n)(hK:Kept k z t)(hd:Dn ρ (arrOf t) (m+1))
  {Q:Option Nat->SortSt->Prop}(q:∀m' t',1<=m'->m'<=n->Kept k z t'->Up ρ (arrOf t') m'->Q (some m') t') :
  wpS (!17) A E s (descPart m n) Q t:=by
 unfold descPart;refine wpS_bind (wpS_lift (wpAny_rule ⟨rfl,?_⟩));refine wpS_bind (MV T hn (by lia) h2 hK hd λm' e t' g1 g2 g3 g4 g5=>?_);dsimp only;have hs:m'<=(arrOf t').size:=by rw[g3.len];lia
 by_cases c:e>0
 ·rw[Yb c];exact wpS_bind (wpS_reverse (back T hn g1 g2 (g3.put (mirror_perm _ _ _ _)) (g4.same (rT hs g5.2)) q))
 ·rw[Ya c];exact back T hn g1 g2 g3 g4 q
theorem run(T:Tells (!17) A E s k z ρ){t:SortSt}{n:Nat}(hn:n<=z.size)(h1:1<=n)(hK:Kept k z t)
  {Q:Option Nat->SortSt->Prop}(q:∀m' t',1<=m'->m'<=n->Kept k z t'->Up ρ (arrOf t') m'->Q (some m') t') :
  wpS (!17) A E s (countRun' 0 n) Q t:=by
 rw[countRun0_eq];refine wpS_bind (rising T hn (ZC 1) h1 hK (Up.one _ (ZC 1)) λm g1 g2 g3 g4=>?_);dsimp only;by_cases c:m=n
 ·rw[Yb (by simpa using c)];exact wpS_pure (q m t g1 g2 hK g3)
 rw[Ya (by simpa using c)];have lt:=g4.resolve_left c;have hs:m<=(arrOf t).size:=by rw[hK.len];lia
 by_cases c2:m>1
 ·rw[Yb c2];refine wpS_bind (less T hK (show 0<z.size by lia) (show m-1<z.size by lia) ?_);by_cases c3:rk ρ (arrOf t) 0<rk ρ (arrOf t) (m-1)
  ·rw[Ye c3];simp only[if_true];exact wpS_pure (q m t g1 g2 hK g3)
  ·rw[Yc c3];simp only[YS,if_false];have lev:∀i,0<=i->i<m->rk ρ (arrOf t) i=rk ρ (arrOf t) (m-1):=λi _ b=>by
    have a1:=g3 0 i (by lia) b;have a2:=g3 i (m-1) (by lia) (by lia)
    lia
   have hd:Dn ρ (arrOf t) m:=λi j a b=>by
    rw[lev i (by lia) (by lia),lev j (by lia) b];sleep 16
   exact wpS_bind (wpS_reverse (JC T hn (by lia) (hK.put (mirror_perm _ _ _ _)) ((hd.more (Int.le_of_lt lt)).same (rT hs lev)) q))
 ·rw[Ya c2];have e:m=1:=by lia
  have hd:Dn ρ (arrOf t) m:=λi j a b=>by rw[show i=j by lia];sleep 16
  exact JC T hn (by lia) hK (hd.more (Int.le_of_lt lt)) q
end
section
variable{prog:Program}{w:World}{A:Around}{E:Value->Shared->Prop}{s:Shared}{k:SortKind}{z:Array Keyed}{ρ:Keyed->Int}
def J7(ρ:Keyed->Int)(z:Array Keyed)(t:SortSt):Prop :=
 (arrOf t).Perm z/\Up ρ (arrOf t) z.size/\failedOf t=none/\(pendingOf t).size<=1
theorem Kept.ended{t:SortSt}(h:Kept k z t)(hu:Up ρ (arrOf t) z.size)(x:Nat×Nat×Nat):J7 ρ z (setPending t ((pendingOf t).push x)):=by
 refine(bN h.pm hu h.nf ?_);show((pendingOf t).push x).size<=1;rw[h.np];exact ZC 1
theorem ordered(T:Tells (!17) A E s k z ρ){t:SortSt}(h2:2<=z.size)(h64:z.size<64)(hK:Kept k z t)
  {Q:Unit->SortSt->Prop}(q:∀t',(arrOf t').Perm z->failedOf t'=none->Up ρ (arrOf t') z.size->Q () t') :
  wpS (!17) A E s sortRuns' Q t:=by
 have least:minRun' z.size z.size 0=z.size:=by
  cases e:z.size with
  |zero=>lia
  |succ f=>rw[e]at h64;rw[minRun'_succ,Yb h64]
 rw[sortRuns'_eq];refine wpS_bind (wpS_get ?_);dsimp only;simp only[hK.len,least];refine wpS_bind (wpS_mono (wpS_forRange (Q:=λc t'=>c=(none,z.size)/\J7 ρ z t')
  (λx c t'=>(x=0/\c=(none,0)/\Kept k z t')\/(0<x/\c=(none,z.size)/\J7 ρ z t')) ?_ ?_ ?_) ?_)
 ·rintro x c t' _ hx (⟨rfl,rfl,hK'⟩ | ⟨g,rfl,hE⟩)
  ·dsimp only;rw[Ya (by lia)];simp only[Nat.sub_zero,Nat.min_self,Nat.zero_add];refine wpS_bind (run T (ZC _) (by lia) hK' λm t2 g1 g2 g3 g4=>?_);dsimp only;by_cases c:m<z.size
   ·rw[Yb c];refine wpS_bind (wpS_lift (wpAny_rule ⟨rfl,?_⟩));refine wpS_bind (IV T (ZC _) g2 g3 g4 λt3 g5 g6=>?_);simp only[Bool.not_true,YS,if_false];refine wpS_bind (wpS_get ?_);have e:(pendingOf t3).back?=none:=by rw[g5.np];rfl
    rw[e];exact wpS_bind (wpS_modify (wpS_pure (Or.inr (xPP (by lia) rfl (g5.ended g6 _)))))
   ·rw[Ya c];have e1:m=z.size:=by lia
    subst e1;refine wpS_bind (wpS_get ?_);have e:(pendingOf t2).back?=none:=by rw[g3.np];rfl
    rw[e];exact wpS_bind (wpS_modify (wpS_pure (Or.inr (xPP (by lia) rfl (g3.ended g4 _)))))
  ·dsimp only;rw[Yb (ZC _)];exact wpS_pure ⟨rfl,hE⟩
 ·rintro c t' (⟨g,_,_⟩ | ⟨_,e,hE⟩)
  ·lia
  ·exact⟨e,hE⟩
 ·exact Or.inl (xPP rfl rfl hK)
 ·rintro c t' ⟨rfl,hE⟩;dsimp only;refine wpS_bind (wpS_mono (wpS_forRange (Q:=λc t2=>c=(none,())/\t2=t') (λ_ c t2=>c=(none,())/\t2=t') ?_ (λ_ _ h=>h) ⟨rfl,rfl⟩) ?_)
  ·rintro x c t2 _ _ ⟨rfl,rfl⟩;refine wpS_bind (wpS_get ?_);rw[Yb hE.2.2.2];exact wpS_pure ⟨rfl,rfl⟩
  ·rintro c t2 ⟨rfl,rfl⟩;exact wpS_pure (q _ hE.1 hE.2.2.1 hE.2.1)
def pB(h:Heap)(a:Addr)(vs:List Value):Heap :=
 ((h.update a (Obj.mapSeq λ_=>#[])).push (seqObj "tuple" vs.toArray 0)).push (seqObj "list" #[] 0)
abbrev cM(vs:List Value):Array Keyed:=vs.toArray.zip vs.toArray
theorem kB(vs:List Value):(cM vs).size=vs.length:=by simp[cM]
def ahead(h:Heap)(vs:List Value):Heap :=
 ((h.push (seqObj "list" #[] 0)).update h.objs.size (Obj.mapSeq (·++vs.toArray))).push (seqObj "list" vs.toArray 0)
end
def lx:List Int->List Int->Bool
 |[],[]=>false
 |[],_::_=>true
 |_::_,[]=>false
 |a::x,b::y=>if a=b then lx x y else decide (a<b)
theorem vW:∀x:List Int,lx x x=false
 |[]=>rfl
 |a::x=>by unfold lx;rw[Yb rfl];exact vW x
theorem sL:∀x y u:List Int,lx x y=true->lx y u=true->lx x u=true
 |[],[],_,h,_=>by simp[lx]at h
 |[],_::_,[],_,h=>by simp[lx]at h
 |[],_::_,_::_,_,_=>rfl
 |_::_,[],_,h,_=>by simp[lx]at h
 |_::_,_::_,[],_,h=>by simp[lx]at h
 |a::x,b::y,c::u,h1,h2=>by
  unfold lx at h1 h2 ⊢;by_cases e1:a=b
  ·rw[Yb e1]at h1;by_cases e2:b=c
   ·rw[Yb e2]at h2;rw[Yb (e1.trans e2)];exact sL x y u h1 h2
   ·rw[Ya e2]at h2;rw[Ya (by lia)];rw[e1];exact h2
  ·rw[Ya e1]at h1;have l1:=Yf h1;by_cases e2:b=c
   ·rw[Ya (by lia)];exact Ye (by lia)
   ·rw[Ya e2]at h2;have l2:=Yf h2;rw[Ya (by lia)];exact Ye (by lia)
theorem yC:∀x y:List Int,lx x y=false->lx y x=false->x=y
 |[],[],_,_=>rfl
 |[],_::_,h,_=>by simp[lx]at h
 |_::_,[],_,h=>by simp[lx]at h
 |a::x,b::y,h1,h2=>by
  unfold lx at h1 h2;by_cases e:a=b
  ·rw[Yb e]at h1;rw[Yb e.symm]at h2;rw[e,yC x y h1 h2]
  ·rw[Ya e]at h1;rw[Ya (λg=>e g.symm)]at h2;have l1:=of_decide_eq_false h1;have l2:=of_decide_eq_false h2;lia
def place(L:List (List Int))(x:List Int):Nat:=L.countP λy=>lx y x
theorem HC(L:List (List Int)){x y:List Int}(h:lx x y=true):place L x<=place L y :=
 List.countP_mono_left λu _ g=>sL u x y g h
theorem place_lt:∀(L:List (List Int)) {x y:List Int},x∈L->lx x y=true->place L x<place L y
 |[],_,_,m,_=>by cases m
 |u::L,x,y,m,h=>by
  unfold place;rw[List.countP_cons,List.countP_cons];have a:=HC L h;unfold place at a;by_cases e:u=x
  ·subst e;rw[vW,h];simp;lia
  ·have b:=place_lt L (x:=x) (y:=y) (by cases m with | head=>exact Yg rfl e | tail _ g=>exact g) h;unfold place at b;by_cases g:lx u x=true
   ·rw[g,sL _ _ _ g h];simp;lia
   ·have g':lx u x=false:=by simpa using g
    rw[g'];simp;lia
theorem f9(L:List (List Int)){x y:List Int}(hx:x∈L)(hy:y∈L):decide ((place L x:Int)<place L y)=lx x y:=by
 cases h:lx x y with
 |true=>exact Ye (by have:=place_lt L hx h;lia)
 |false =>
  refine Yc ?_;cases g:lx y x with
  |true=>have:=place_lt L hy g;lia
  |false=>rw[yC x y h g];lia
section
variable{prog:Program}{w:World}{A:Around}{E:Value->Shared->Prop}{s:Shared}
theorem LU(b:Bool){x y:Int}{t u:Tok}{Q:Bool->Shared->Prop}(h:Q (decide (x<y)) s):wpAny (!17) A (oneLt' b (.int x t) (.int y u)) Q E s:=by
 cases b with
 |true=>exact oneLt_int h
 |false=>exact PySem.W.kat_one _ _ (wpAny_lt_int h)
theorem yE{b fin:Bool}{Q:Bool->Shared->Prop}:∀{xs ys:List Value}{ns ms:List Int}(i:Nat),IntsAre xs ns->IntsAre ys ms ->
  fin=decide (ns.length<ms.length)->Q (lx ns ms) s->PySem.W.KatLex prog w A b fin Q (xs.zip ys) i s
 |_,_,_,_,i,.nil,.nil,e,q=>by subst e;exact PySem.W.kat_nil q
 |_,_,_,_,i,.nil,.cons _ _ _,e,q=>by
  subst e;refine PySem.W.kat_nil ?_;rw[Ye (!5)];exact q
 |_,_,_,_,i,.cons _ _ _,.nil,e,q=>by
  subst e;refine PySem.W.kat_nil ?_;rw[Yc (!5)];exact q
 |_,_,_,_,i,.cons (vs:=xs) (ns:=ns) n t hx,.cons (vs:=ys) (ns:=ms) m u hy,e,q=>by
  rw[List.zip_cons_cons];refine PySem.W.kat_cons (wpAny_eqBool_int ?_);unfold lx at q;by_cases c:n=m
  ·rw[Yb c]at q;rw[show(n==m)=true by simpa using c];refine PySem.W.kat_yes (yE (i+1) hx hy ?_ q);rw[e];simp
  ·rw[Ya c]at q;rw[show(n==m)=false by simpa using c];exact PySem.W.kat_no (LU _ q)
def BD(h:Heap)(vs:List Value)(kf:Value->List Int):Prop :=
 ∀v∈vs,∃a o xs n,v=.ref a/\h.get? a=some o/\o.cls=.type "tuple"/\o.data=.seq xs n/\IntsAre xs.toList (kf v)
def rank(vs:List Value)(kf:Value->List Int)(p:Keyed):Int:=place (vs.map kf) (kf p.1)
theorem lM{vs:List Value}{p:Keyed}(h:p∈(cM vs).toList):p.1∈vs:=by
 have:p∈vs.zip vs:=by simpa[cM] using h
 exact(List.of_mem_zip (a:=p.1) (b:=p.2) this).1
theorem kT{xs:List Value}{ns:List Int}(h:IntsAre xs ns):xs.length=ns.length:=by
 induction h with
 |nil=>rfl
 |cons _ _ _ ih=>simp[ih]
theorem zS{vs:List Value}{kf:Value->List Int}{b:Bool}(h:BD s.heap vs kf):Tells (!17) A E s (tuples' b) (cM vs) (rank vs kf):=by
 intro p q t Q hp hq hk hQ;have mp:=lM hp;have mq:=lM hq;obtain⟨a,o,xs,n,e1,g1,_,d1,i1⟩:=h _ mp;obtain⟨a',o',xs',n',e2,g2,_,d2,i2⟩:=h _ mq;have r:decide (rank vs kf p<rank vs kf q)=lx (kf p.1) (kf q.1):=f9 _ (Yr mp) (Yr mq);rw[r]at hQ;rw[lt'_eq];refine wpS_bind (wpS_get ?_);rw[hk,e1,e2];refine wpS_bind (wpS_lift (wpAny_attempt (PySem.W.kat_lt g1 d1 g2 d2 (yE 0 i1 i2 ?_ ⟨rfl,?_⟩))))
 ·have l1:=kT i1;have l2:=kT i2;simp only[Array.length_toList]at l1 l2;rw[l1,l2]
 ·exact wpS_pure hQ
end
end SO
namespace SO
open PySem PyProof PyProof.Rows
open AutoSeq1 (wpAny_loadPart')
theorem lN:∀{xs:List Value}{ns:List Int},IntsAre xs ns->∀i,i<xs.length->∃n t,xs[i]?=some (.int n t)/\ns[i]?=some n
 |_,_,.nil,i,h=>by simp at h
 |_,_,.cons n t _,0,_=>(bM n t rfl rfl)
 |_,_,.cons _ _ r,i+1,h=>by
  obtain⟨n,t,e1,e2⟩:=lN r i (by simpa using h);exact(bM n t (by simpa using e1) (by simpa using e2))
section
variable{prog:Program}{w:World}{A:Around}{E:Value->Shared->Prop}{s:Shared}
end
end SO
namespace SO
open PySem PyProof PyProof.Rows
theorem wV:∀vs:List Value,vs.zip vs=vs.map λv=>(v,v)
 |[]=>rfl
 |v::vs=>by rw[List.zip_cons_cons,wV vs];rfl
theorem pF(vs:List Value):(cM vs).toList=vs.map λv=>(v,v):=by
 rw[<-wV];simp[cM]
theorem twice{vs:List Value}{q:Keyed}(h:q∈(cM vs).toList):q.2=q.1:=by
 rw[pF]at h;obtain⟨v,_,rfl⟩:=Zh.mp h;rfl
theorem yU{vs:List Value}{kf:Value->List Int}{xs:Array Keyed}(p:xs.Perm (cM vs))(u:Up (rank vs kf) xs vs.length) :
  (xs.map (·.2)).toList.Perm vs/\(xs.map (·.2)).toList.Pairwise λa b=>lx (kf b) (kf a)=false:=by
 have pl:=Array.perm_iff_toList_perm.mp p;constructor
 ·have e:=pl.map (·.2);rw[pF,Ym]at e;have e2:vs.map ((λq:Keyed=>q.2)∘λv=>(v,v))=vs:=by
   have:((λq:Keyed=>q.2)∘λv:Value=>(v,v))=id:=rfl;rw[this,List.map_id]
  rw[e2]at e;rw[Array.toList_map];exact e
 ·rw[Array.toList_map,List.pairwise_map,List.pairwise_iff_getElem];intro i j hi hj hij;have z:xs.size=vs.length:=by rw[p.size_eq,kB]
  have hi':i<xs.size:=by simpa using hi
  have hj':j<xs.size:=by simpa using hj
  have r:=u i j (by lia) (by lia);have mi:xs[i]∈(cM vs).toList:=pl.mem_iff.mp (!5);have mj:xs[j]∈(cM vs).toList:=pl.mem_iff.mp (!5);have ri:rk (rank vs kf) xs i=rank vs kf xs[i]:=by simp[rk,hi']
  have rj:rk (rank vs kf) xs j=rank vs kf xs[j]:=by simp[rk,hj']
  rw[ri,rj]at r;have t:=f9 (vs.map kf) (x:=kf xs[j].1) (y:=kf xs[i].1) (Yr (lM mj)) (Yr (lM mi));rw[Yc (by unfold rank at r;lia)]at t;simp only[Array.getElem_toList];rw[twice mi,twice mj];exact t.symm
theorem E8{h:Heap}{vs:List Value}{b:Addr}{o:Obj}(hb:h.get? b=some o):(pB (ahead h vs) (h.objs.size+1) vs).get? b=some o:=by
 have lt:=YV hb;unfold pB ahead;refine YW _ (YW _ ?_);rw[Heap.get?_update_ne _ _ _ _ (ZA (Xj lt))];refine YW _ ?_;rw[Heap.get?_update_ne _ _ _ _ (ZA lt)];exact YW _ hb
section
variable{prog:Program}{w:World}{A:Around}{E:Value->Shared->Prop}{s:Shared}
theorem BD.mono{h h':Heap}{vs:List Value}{kf:Value->List Int}(H:BD h vs kf)(g:∀b o,h.get? b=some o->h'.get? b=some o):BD h' vs kf:=λv m=>by
 obtain⟨a,o,xs,n,e,g1,r⟩:=H v m;exact(BL a o xs n e (g _ _ g1) r)
end
end SO
namespace L2
open PySem PySem.Spec PyProof.Rows
section
variable{X:Cx}
theorem tX:∀{ps:List Addr}{us:List Value},bD (ps.map V.ref) us->us=ps.map Value.ref
 |[],us,r=>by rw[List.map_nil]at r;cases r;rfl
 |p::ps,us,r=>by
  rw[ZJ]at r;cases r with
  |cons a b =>
   rw[tX b];cases a;rfl
theorem uG:∀(ps:List Addr),bD (ps.map V.ref) (ps.map Value.ref)
 |[]=>.nil
 |_::ps=>.cons rfl (uG ps)
def keyOf(kf:Addr->List Int):Value->List Int
 |.ref a=>kf a
 |_=>[]
theorem ED{ps:List Addr}{us:List Value}(h:us.Perm (ps.map Value.ref)):∃ps':List Addr,us=ps'.map Value.ref/\ps'.Perm ps:=by
 have e:us=(us.map λu=>match u with | .ref a=>a | _=>0).map Value.ref:=by
  rw[Ym];refine(List.map_id us).symm.trans (Ys λu m=>?_);obtain⟨a,_,rfl⟩:=Zh.mp (h.mem_iff.mp m);rfl
 refine(xWP _ e ?_);have g:=h.map λu:Value=>match u with | .ref a=>a | _=>0
 rw[Ym]at g;have i:((λu:Value=>match u with | .ref a=>a | _=>0)∘Value.ref)=id:=rfl;rw[i,List.map_id]at g;exact g
end
end L2
namespace SO
open PySem PyProof PyProof.Rows
section
variable{prog:Program}{w:World}{A:Around}{E:Value->Shared->Prop}{s:Shared}
theorem j5{h:Heap}{kf:Value->List Int}:∀{vs:List Value},BD h vs kf->(∀v∈vs,kf v≠[]) ->
  ∃fs:List Value,PySem.W.KatTups h vs fs/\fs.length=vs.length/\∀f∈fs,∃n t,f=.int n t
 |[],_,_=>(aM ([]) PySem.W.KatTups.nil rfl (λ_ m=>by cases m))
 |v::vs,H,ne=>by
  obtain⟨fs,k,l,g⟩:=j5 (vs:=vs) (λu m=>H u (.tail _ m)) λu m=>ne u (.tail _ m);obtain⟨a,o,xs,n,e,g1,c,d,i⟩:=H v (.head _);have hz:0<xs.toList.length:=by
   rw[kT i];exact List.length_pos_iff.mpr (ne v (.head _))
  obtain⟨n0,t0,e0,_⟩:=lN i 0 hz;subst e;refine(aM (.int n0 t0::fs) (PySem.W.KatTups.cons g1 c d (by simpa using e0) k) (by simp[l]) (λf m=>?_));cases m with
  |head=>exact(xWW n0 t0 rfl)
  |tail _ m=>exact g f m
end
end SO
namespace L2
open PySem PySem.Spec PyProof.Rows
section
variable{X:Cx}
end
end L2
namespace SO
open PySem PyProof PyProof.Rows
section
variable{prog:Program}{w:World}{A:Around}{E:Value->Shared->Prop}{s:Shared}{k:SortKind}{ρ:Keyed->Int}
theorem D0{a:Addr}{vs:List Value}{n:Nat}{P:Fin->Shared->Prop}(ho:s.heap.get? a=some (seqObj "list" vs.toArray n))(h64:vs.length<64)
  (hk:2<=vs.length->∀{Q:SortKind->Shared->Prop},Q k { s with heap:=pB s.heap a vs }->wpAny (!17) A (keyKind' vs.toArray) Q E { s with heap:=pB s.heap a vs })
  (T:Tells (!17) A (λ_ _=>False) { s with heap:=pB s.heap a vs } k (cM vs) ρ)
  (h:∀xs:Array Keyed,xs.Perm (cM vs)->Up ρ xs vs.length->P (.done (.ret .none)) { s with heap:=sortedHeap s.heap a vs (xs.map (·.2)).reverse }) :
  wpAny (!17) A (Builtin.«list.sort» ⟨[.ref a],[(Str.ofString "reverse",.bool true)]⟩) P E s:=by
 obtain⟨n1,ho1⟩:∃n1,(s.heap.update a (Obj.mapSeq λ_=>#[])).get? a=some (seqObj "list" #[] n1):=⟨_,get?_update_seq ho (λ_=>#[])⟩
 have ho2:(pB s.heap a vs).get? a=some (seqObj "list" #[] n1):=YW _ (YW _ ho1);have flip:(cM vs).reverse.Perm (cM vs):=Array.perm_iff_toList_perm.mpr (by rw[Array.toList_reverse];exact List.reverse_perm _);have T':Tells (!17) A (λ_ _=>False) { s with heap:=pB s.heap a vs } k (cM vs).reverse ρ:=λp q t Q hp hq=>T p q t Q
  ((Array.perm_iff_toList_perm.mp flip).mem_iff.mp hp) ((Array.perm_iff_toList_perm.mp flip).mem_iff.mp hq)
 have zs:(cM vs).reverse.size=vs.length:=by rw[Array.size_reverse,kB]
 have room:∀xs:Array Keyed,xs.Perm (cM vs)->(xs.map (·.2)).reverse.size<=ZW+1:=λxs p=>by
  rw[Array.size_reverse,Array.size_map,p.size_eq,kB,sizeLine_eq];lia
 rw[list_sort_rev];refine ZZ (listItems_at ho rfl ?_);refine ZZ (listUpdate_at ho rfl ?_);refine ZZ (seqEpoch_at ho1 rfl ?_);refine ZZ (wpAny_newTuple ?_);refine ZZ (wpAny_newList ?_);refine ZU ?_;show wpAny (!17) A _ P E { s with heap:=pB s.heap a vs };dsimp only;rw[Yb rfl];refine ZZ (wpAny_rule ?_);have last:∀t:SortSt,(arrOf t).Perm (cM vs)->failedOf t=none->Up ρ (arrOf t) vs.length ->
   wpAny (!17) A (do
    let out:=(arrOf t).map (·.2)
    let touched:=(<-seqEpoch a) != n1
    Builtin.List.listUpdate (.ref a) λ_=>if true=true then out.reverse else out
    if let some e:=failedOf t then rule "list.sort.comparison-raised";throw e
    if touched then rule "list.sort.modified";raiseError "ValueError" "list modified during sort"
    ret .none) P E { s with heap:=pB s.heap a vs }:=by
  intro t p f u;refine ZZ (seqEpoch_at ho2 rfl ?_);refine ZZ (listUpdate_at ho2 rfl ?_ (hsz2:=room _ p));rw[f];simp only[bne_self_eq_false,YS,if_false];exact ZY (h _ p u)
 by_cases c:vs.length<2
 ·have c':vs.toArray.size<2:=by simpa using c
  rw[Yb c',Yb c'];refine ZZ (ZY ?_);rw[StateT.run_pure];refine ZZ (ZY ?_);exact last (SortSt.mk' general' (cM vs).reverse #[] 7 none) flip rfl (Up.one _ (by lia))
 ·have c':¬vs.toArray.size<2:=by simpa using c
  rw[Ya c',Ya c'];refine ZZ (hk (by lia) ?_);refine ZZ (ZX (ordered (Q:=λ_ t=>(arrOf t).Perm (cM vs).reverse/\failedOf t=none/\Up ρ (arrOf t) (cM vs).reverse.size) T'
   (t:=SortSt.mk' k (cM vs).reverse #[] 7 none) (by rw[zs];lia) (by rw[zs];exact h64) ⟨rfl,Array.Perm.refl _,rfl,rfl⟩
   λt' a1 a2 a3=>(xPP a1 a2 a3)) ?_ λ_ _ e=>e.elim)
  rintro⟨⟨⟩,t⟩ s' ⟨rfl,p,f,u⟩;rw[zs]at u;exact last t (p.trans flip) f u
theorem xH{l:Addr}{vs:List Value}{Q:Value->Shared->Prop}(hl:s.heap.IsList l vs.toArray)(h64:vs.length<64)
  (hk:2<=vs.length->∀{E:Value->Shared->Prop}{Q:SortKind->Shared->Prop},Q k { s with heap:=pB (ahead s.heap vs) (!22) vs } ->
   wpAny (!17) A.in1.in1 (keyKind' vs.toArray) Q E { s with heap:=pB (ahead s.heap vs) (!22) vs })
  (T:Tells (!17) A.in1.in1 (λ_ _=>False) { s with heap:=pB (ahead s.heap vs) (!22) vs } k (cM vs) ρ)
  (h:∀xs:Array Keyed,xs.Perm (cM vs)->Up ρ xs vs.length->Q (.ref (!22)) { s with heap:=sortedAll s.heap vs (xs.map (·.2)).reverse }) :
  wpAny (!17) A (call (.builtin "sorted") [.ref l] [(Str.ofString "reverse",.bool true)]) Q E s:=by
 have sz:((s.heap.push (seqObj "list" #[] 0)).update s.heap.objs.size (Obj.mapSeq (·++vs.toArray))).objs.size=s.heap.objs.size+1:=by
  rw[Heap.size_update,size_push']
 have ho:(ahead s.heap vs).get? (!22)=some (seqObj "list" vs.toArray 0):=by
  unfold ahead;rw[<-sz];exact YU _ rfl
 refine call_function_entry_kw kind_sorted plain_sorted entry_sorted (args_sorted_rev _ _) ?_;unfold Builtin.«sorted»;refine ZZ (m:=checkCount "sorted" 1 1 _) (ZY ?_);refine ZZ (collect_list hl ?_);refine ZZ (wpAny_newList ?_);rw[sz];show wpAny (!17) _ _ _ _ { s with heap:=ahead s.heap vs };refine ZZ (ZU (wpAny_call_entry_kw slot_list_sort (xWP _ ho rfl) entry_list_sort
  (D0 (s:={ s with heap:=ahead s.heap vs }) (k:=k) (ρ:=ρ) ho h64 (λg _ q=>hk g q) T λxs p u=>(xWP _ rfl ?_)) (args_list_sort_rev _ _)))
 exact ZY (xWP _ rfl (h xs p u))
theorem oI{l:Addr}{vs:List Value}{kf:Value->List Int}{Q:Value->Shared->Prop}(hl:s.heap.IsList l vs.toArray)(h64:vs.length<64)
  (H:BD s.heap vs kf) (ne:∀v∈vs,kf v≠[])
  (h:∀out:Array Value,out.toList.Perm vs->(out.toList.Pairwise λa b=>lx (kf a) (kf b)=false)->Q (.ref (!22)) { s with heap:=sortedAll s.heap vs out }) :
  wpAny (!17) A (call (.builtin "sorted") [.ref l] [(Str.ofString "reverse",.bool true)]) Q E s:=by
 have H':BD (pB (ahead s.heap vs) (!22) vs) vs kf:=H.mono λ_ _=>E8;refine xH (k:=tuples' true) (ρ:=rank vs kf) hl h64 (λh2 _ _ q=>?_) (zS H') λxs p u=>h _ ?_ ?_
 ·obtain⟨fs,k,lf,g⟩:=j5 H' ne;refine PySem.W.kat_kind (T:=Value.type "int") k (by lia) (λv m=>?_) (!1) q;obtain⟨n,t,rfl⟩:=g v m;exact .now
 ·rw[Array.toList_reverse];exact(List.reverse_perm _).trans (yU p u).1
 ·rw[Array.toList_reverse,List.pairwise_reverse];exact(yU p u).2
end
end SO
namespace L2
open PySem PySem.Spec PyProof.Rows
section
variable{X:Cx}
def J8(X:Cx)(f:Value)(ks:List Str)(r:List V->List V->Hp->VK->Prop):Prop :=
 ∀(pins:List (!16)) (s:Shared) (σ:St) (H:Hp) (xs:List V) (us:List Value) (zs:List V) (ws:List Value) (Q:VK),Inv X pins σ H s->bD xs us->bD zs ws->r xs zs H Q ->
  wpAny (!3) X.A (call f us (ks.zip ws)) (EP X pins σ Q) X.xe s
def SY(r:List V->List V->Hp->VK->Prop)(t tk:TA):TE:=λσ H Q=>t σ H λvs H1=>tk σ H1 λzs H2=>r vs zs H2 Q
theorem EE{x:Str}{p pos:Pos}{e:Expr}{es:List Expr}{t tk:TA}{id:String}{ks:List Str}{kws:List Keyword}{r:List V->List V->Hp->VK->Prop}(hc:J8 X (.builtin id) ks r)(hg:Gl X x)(hm:X.mg x=none)(hv:bootBuiltins x=some (.builtin id))
  (ha:PA X (e::es) t) (hkw:PK X kws tk) (hn:x≠"__name__":=by decide) (hdb:(!48)=false:=by decide)
  (he:backTo pos (starEach (e::es) X.env)=(false,eval e X.env)::backTo pos (starEach es X.env):=by rfl) (hpl:(backTo pos (starEach (e::es) X.env)).any (·.1)=false:=by rfl)
  (hall:(backToKw pos (keywordEach kws X.env)).all (·.1.isSome)=true:=by rfl) (hno:(backToKw pos (keywordEach kws X.env)).any (·.1.isNone)=false:=by rfl)
  (hks:(backToKw pos (keywordEach kws X.env)).filterMap (·.1)=ks:=by rfl):PE X (.Call (.Name x p) (e::es) kws pos) (SY r t tk):=by
 sleep 2;refine wpAny_Call_Name_kw (kQ I hg hm hv ?_ hn hdb);refine callWith_kw (thn (ha pos pins s σ H _ I h) λus s1 ⟨vs,H1,I1,r1,q⟩=>?_) he hpl hall hno;refine thn (hkw pos pins s1 σ H1 _ I1 q) λws s2 ⟨zs,H2,I2,rz,q2⟩=>?_;rw[hks];exact hc pins s2 σ H2 vs us zs ws Q I2 r1 rz q2
theorem tQ:J8 X (.builtin "sorted") ["reverse"] (λxs zs H Q=>∃(p:Addr) (ps:List Addr) (kf:Addr->List Int),xs=[.ref p]/\zs=[.bl true]/\SqL H p (ps.map V.ref)/\(∀q∈ps,kf q≠[]/\SqT H q ((kf q).map V.int))/\ps.length<64 /\
  ∀(l:Addr) (ps':List Addr),H l=none->ps'.Perm ps->(ps'.Pairwise λa b=>SO.lx (kf a) (kf b)=false)->Q (.ref l) (upd H l (.lst (ps'.map V.ref)))):=by
 intro pins s σ H xs us zs ws Q I r rz h;obtain⟨p,ps,kf,rfl,rfl,hq,hk,h64,q⟩:=h;sleep 6;cases rx;obtain⟨v,rfl,rv⟩:=vals1 rz;cases rv;obtain⟨its,r',pl,hz⟩:=I.list hq;have ei:=tX r';subst ei;refine SO.oI (kf:=keyOf kf) pl.isList (by rw[Zq];exact h64) (λv m=>?_) (λv m=>?_) λout a1 a2=>?_
 ·obtain⟨a,ma,rfl⟩:=Zh.mp m;obtain⟨its',r2,⟨o,g1,c1,n,d1⟩,_⟩:=I.tuple (hk a ma).2;exact(aV a o its'.toArray n rfl g1 c1 d1 (show IntsAre its' (kf a) from intsAre_of r2))
 ·obtain⟨a,ma,rfl⟩:=Zh.mp m;exact(hk a ma).1
 ·obtain⟨ps',e1,e2⟩:=ED a1;rw[e1,List.pairwise_map]at a2;obtain⟨e,he⟩:=sortedAll_at s.heap (ps.map Value.ref) out;refine(aG (.ref (!22)) _ (I.laid (t':=s.toks) (λ_ _=>sortedAll_old) (Nat.le_succ _) (show cD X.prog X.w _ _ _ (.lst (ps'.map V.ref)) from(fD ?_ out.toList e ?_ he))) rfl (q _ ps' (I.hok.fresh (Nat.le_succ _)) e2 a2))
  ·rw[Zq,e2.length_eq];exact YQ (by lia:ps.length<=64) (!1)
  ·rw[e1];exact uG ps'
end
end L2
namespace SO
open PySem PyProof PyProof.Rows
section
variable{prog:Program}{w:World}{A:Around}{E:Value->Shared->Prop}{s:Shared}
theorem MQ{xl yl:List Int}{a b:Addr}{oa ob:Obj}{xs ys:Array Value}{na nb:Nat}{P:Fin->Shared->Prop}(hoa:s.heap.get? a=some oa)(hda:oa.data=.seq xs na)(hob:s.heap.get? b=some ob)(hcb:ob.cls=.type "tuple")(hdb:ob.data=.seq ys nb)
  (hia:IntsAre xs.toList xl) (hib:IntsAre ys.toList yl) (h:P (.done (.ret (.bool (lx yl xl)))) s) :
  wpAny (!17) A (Builtin.«tuple.__gt__» ⟨[.ref a,.ref b],[]⟩) P E s:=by
 have hTb:s.TypeIs (.ref b) "tuple":=(xWP ob hob hcb)
 show wpAny _ _ (isInstance (.ref b) (.type "tuple") >>= _) _ _ s;refine ZZ (wpAny_isInstance hTb isSubtype_tuple_tuple ?_);simp only[Bool.not_true,YS,if_false];refine ZZ (wpAny_tupleItemsOf hoa hda ?_);refine ZZ (wpAny_tupleItemsOf hob hdb ?_);refine ZZ ?_;have l1:=kT hia;have l2:=kT hib;simp only[Array.length_toList]at l1 l2;refine wpAny_forIn_list _
  (λrest r s'=>r.1=none/\s'=s/\∃x' y' xs' ys',rest=List.zip xs' ys'/\IntsAre xs' x'/\IntsAre ys' y'/\lx y' x'=lx yl xl/\decide (ys'.length<xs'.length)=decide (ys.size<xs.size))
  _ ?_ ?_ _ _ (rE rfl rfl xl yl xs.toList ys.toList rfl hia hib ⟨ rfl,by simp⟩)
 ·rintro⟨u,v⟩ rest r s' ⟨hr,rfl,x',y',xs',ys',hz,hx',hy',hdec,hlen⟩;cases hx' with
  |nil=>simp at hz
  |@cons k1 t1 xs'' x'' hx'' =>
   cases hy' with
   |nil=>simp at hz
   |@cons k2 t2 ys'' y'' hy'' =>
    simp only[List.zip_cons_cons,List.cons.injEq,Prod.mk.injEq]at hz;obtain⟨⟨rfl,rfl⟩,rfl⟩:=hz;refine ZZ (wpAny_eqBool_int ?_);rw[show lx (k2::y'') (k1::x'')=(if k2=k1 then lx y'' x'' else decide (k2<k1)) from rfl]at hdec;by_cases hk:k1=k2
    ·rw[show(k1==k2)=true by simpa using hk];simp only[Bool.not_true,YS,if_false];rw[Yb hk.symm]at hdec;exact ZY (rE rfl rfl x'' y'' xs'' ys'' rfl hx'' hy'' ⟨ hdec,by simpa using hlen⟩)
    ·rw[show(k1==k2)=false by simpa using hk];simp only[Bool.not_false,if_true];rw[Ya (λz=>hk z.symm)]at hdec;rw[<-hdec]at h;refine ZZ (wpAny_rule ?_);refine ZZ (show wpAny _ _ (compareOp .Gt (.int k1 t1) (.int k2 t2)) _ _ _ from PyProof.Rows.gt_int ?_);exact ZZ (ZY (ZY (ZY h)))
 ·rintro⟨r1,r2⟩ s' ⟨hr,rfl,x',y',xs',ys',hz,hx',hy',hdec,hlen⟩;simp only at hr;subst hr;refine ZY ?_;have hfin:decide (ys.size<xs.size)=lx yl xl:=by
   rw[<-hdec,<-hlen];cases hx' with
   |nil =>
    cases hy' with
    |nil=>rfl
    |cons _ _=>rfl
   |cons _ _ =>
    cases hy' with
    |nil=>rfl
    |cons _ _=>simp at hz
  show P (.done (.ret (.bool (decide (xs.size>ys.size))))) s';rw[show decide (xs.size>ys.size)=decide (ys.size<xs.size) from rfl,hfin];exact h
theorem MP{xl yl:List Int}{a b:Addr}{oa ob:Obj}{xs ys:Array Value}{na nb:Nat}{Q:Value->Shared->Prop}(hu:A.units<cLine)(hoa:s.heap.get? a=some oa)(hca:oa.cls=.type "tuple")(hda:oa.data=.seq xs na)(hob:s.heap.get? b=some ob)(hcb:ob.cls=.type "tuple")(hdb:ob.data=.seq ys nb)
  (hia:IntsAre xs.toList xl) (hib:IntsAre ys.toList yl) (h:Q (.bool (lx yl xl)) s):wpAny (!17) A (compareOp .Gt (.ref a) (.ref b)) Q E s:=by
 show wpAny _ _ (richCompare .Gt (.ref a) (.ref b)) Q E s;exact wpAny_richCompare_same_room (op:=.Gt) (T:="tuple") (xWP oa hoa hca) (xWP ob hob hcb) PySem.F.slot_tuple_gt
  (wpAny_call_entry PySem.F.slot_tuple_gt (xWP oa hoa hca) PySem.F.entry_tuple_gt (MQ hoa hda hob hcb hdb hia hib (aM _ rfl (λz=>by cases z) h)) (PySem.F.args_tuple_gt_2 _ _)) hu
end
end SO
namespace L2
open PySem PySem.Spec PyProof.Rows
section
variable{X:Cx}
theorem O8(hu:X.A.units<cLine):OpR X (compareOp .Gt) (λx y H Q=>x.gr λa=>y.gr λb=>∃(xl:List Int) (yl:List Int),SqT H a (xl.map V.int)/\SqT H b (yl.map V.int)/\Q (.bl (SO.lx yl xl)) H):=by
 sleep 4;obtain⟨a,rfl,z1⟩:=bV h;obtain⟨b,rfl,z2⟩:=bV z1;obtain⟨xl,yl,ha,hb,q⟩:=z2;cases rx;cases ry;obtain⟨its,r1,⟨o,g1,c1,n,d1⟩,_⟩:=I.tuple ha;obtain⟨its',r2,⟨o',g2,c2,n',d2⟩,_⟩:=I.tuple hb;exact SO.MP hu g1 c1 d1 g2 c2 d2 (intsAre_of r1) (intsAre_of r2) (aG (.bl _) H I rfl q)
theorem i9.r{H:Hp}{a:Addr}{kvs:List (Key×V)}{k:Key}(e:Rd H a (.dK kvs)):i9 H a (kV k) (fA kvs k):=.inl (aG kvs k e rfl rfl)
theorem MN{P:Program}{w:World}{n:Int}{v:Value}(h:(cQ P w).is (.inl n) v=true):∃t,v=.int n t:=by
 rcases cH (show pL (.inl n) v=true from h) with⟨i,t,e,rfl⟩ | ⟨x,t,e,_⟩
 ·cases e;exact⟨t,rfl⟩
 ·cases e
theorem uQ{P:Program}{w:World}{kvs:List (Key×V)}{vs:List (Key×Value)}(r:KV kvs vs){ns:List Int}(hn:kvs.map (·.1)=ns.map Sum.inl){us:List Value}(hl:us.length=vs.length)
  (hu:∀(i:Nat) v,us[i]?=some v->∃k x,vs[i]?=some (k,x)/\(cQ P w).is k v=true):bD (!39) us/\us.length=ns.length:=by
 have e1:ns.length=us.length:=by
  have:=congrArg List.length hn;simp only[Zq]at this;rw[hl,<-r.length,this]
 refine⟨vG (by rw[Zq];exact e1) λj x u hx hu'=>?_,e1.symm⟩;obtain⟨k,y,h1,h2⟩:=hu j u hu';have e2:=r.keys;have e3:(vs.map (·.1))[j]?=some k:=by rw[Zk,h1];rfl
 rw[<-e2,hn,Zk]at e3;obtain⟨n,q1,q2⟩:=Xv.mp e3;subst q2;rw[Zk,q1]at hx;cases hx;exact MN h2
theorem A9(hc:X.calm=true):fY X (.type "list") (λxs H Q=>∃(d:Addr) (kvs:List (Key×V)) (ns:List Int),xs=[.ref d]/\Rd H d (.dK kvs)/\kvs.map (·.1)=ns.map Sum.inl/\∀l,H l=none->Q (.ref l) (upd H l (.lst (!39)))):=by
 sleep 3;obtain⟨d,kvs,ns,rfl,hd,hn,q⟩:=h;sleep 6;cases rx;obtain⟨hz,ne,vs,kv,dd⟩:=uT I.hok hd;obtain⟨ep,hat⟩:=dd.dictAt;have hlen:=kv.length;refine PySem.W.kdl_call (PySem.W.kdl_dict (kvs:=vs) (ep:=ep) ne) (I.ok.hd hc) hat (by lia) λh' tk acc' c' k e' it=>?_;obtain⟨hv,hl⟩:=uQ kv hn (us:=acc'.toList) (by rw[Array.length_toList];exact it.1) λi v hi=>it.2 i v (by rw[<-Array.getElem?_toList];exact hi);refine(aG (.ref s.heap.objs.size) _ (I.laid (t':=tk) k (ZC _) (show cD X.prog X.w _ h' _ (.lst (!39)) from(fD ?_ acc'.toList c' hv (by rw[e'])))) rfl (q _ I.fresh));have:=congrArg List.length hn;simp only[Zq]at this;rw[Zq]
 lia
theorem wQ(hc:X.calm=true):fY X (.builtin "sorted") (λxs H Q=>∃(d:Addr) (kvs:List (Key×V)) (ns:List Int),xs=[.ref d]/\Rd H d (.dK kvs)/\kvs.map (·.1)=ns.map Sum.inl/\ns.length<64 /\
  ∀(l:Addr) (ns':List Int),H l=none->ns'.Perm ns->ns'.Pairwise (·<=·)->Q (.ref l) (upd H l (.lst (ns'.map V.int)))):=by
 sleep 3;obtain⟨d,kvs,ns,rfl,hd,hn,h64,q⟩:=h;sleep 6;cases rx;obtain⟨hz,ne,vs,kv,dd⟩:=uT I.hok hd;obtain⟨ep,hat⟩:=dd.dictAt;have hlen:=kv.length;refine Calls.call_function_entry kind_sorted plain_sorted entry_sorted (args_sorted1 _) ?_;unfold Builtin.«sorted»;refine ZZ (m:=checkCount "sorted" 1 1 _) (ZY ?_);refine ZZ (PySem.W.kdu_collect (PySem.W.kdl_dict (kvs:=vs) (ep:=ep) ne) (I.ok.hd hc) hat (by lia) λh' tk acc hk it=>?_);obtain⟨hv,hl⟩:=uQ kv hn (us:=acc.toList) (by rw[Array.length_toList];exact it.1) λi v hi=>it.2 i v (by rw[<-Array.getElem?_toList];exact hi);have hl':acc.toList.length<64:=by lia
 have hz':acc.toList.length<=ZW:=YQ (by lia:acc.toList.length<=64) (!1);refine ZZ (wpAny_newList ?_ hz');have ho:(h'.push (seqObj "list" acc.toList.toArray 0)).get? h'.objs.size=some (seqObj "list" acc.toList.toArray 0):=YU _ rfl;refine ZZ (ZU (wpAny_call_entry slot_list_sort (xWP _ ho rfl) entry_list_sort
  (list_sort_tree (s:={ s with heap:=h'.push (seqObj "list" acc.toList.toArray 0),toks:=tk }) ho (intsAre_of hv) hl' λout ns' a1 a2 a3=>(xWP _ rfl ?_)) (args_list_sort _)))
 refine ZY (xWP _ rfl ?_);have I1:Inv X pins σ H { s with heap:=h',toks:=tk }:=I.kept hk;obtain⟨e,he⟩:=sortedHeap_at (out:=out) ho;refine(aG (.ref h'.objs.size) _ (I1.laid (t':=tk) (λb o eb=>?_) (ZC _) (show cD X.prog X.w _ _ _ (.lst (ns'.map V.int)) from(fD ?_ out.toList e (lG a1) he))) rfl (q _ ns' I1.fresh a2 a3))
 ·have hlt:=YV eb;show(sortedHeap _ _ _ _).get? b=_;rw[sortedHeap_old (ZA hlt) (by rw[Heap.size_push];exact Xj hlt)];exact YW _ eb
 ·rw[Zq,a2.length_eq];exact YQ (by lia:ns.length<=64) (!1)
theorem lR:entryFor table "dict_itemiterator.__iter__" = some Builtin.«dict_keyiterator.__iter__» :=
 entryFor_alias (id':="dict_keyiterator.__iter__") (by kernel_rfl) rfl (by decide +kernel) (by kernel_rfl)
theorem Inv.freeze{pins:List (!16)}{σ:St}{H:Hp}{s:Shared}{d:Addr}{kvs:List (Key×V)}{o:Obj}(I:Inv X pins σ H s)(hd:H d=some (.dK kvs))(ho:s.heap.get? d=some o):Inv X pins σ (upd H d (.frz o (.dK kvs))) s:=by
 have ne:∀b u,H b=some u->(∀z,u≠.dK z)->b≠d:=λb u e z q=>by subst q;rw[hd]at e;cases e;exact z _ rfl
 refine I.step (h':=s.heap) (g':=s.gens) (d':=s.drawn) (t':=s.toks) (ch:=[]) (λ_ z=>nomatch z) (λb o' _ _ _ e _=>e) (λb o' _ _ _ e _=>⟨o'.slots,e⟩) (λb o' _ _ e=>?_) (λb o' _ e=>⟨o',e⟩) (λb xs e=>?_) (λb ob u e=>?_) (λb ps e=>⟨#[],?_⟩) (λm h=>h) (λb u e=>?_) I.bare
 ·rw[aH (λq=>by subst q;rw[hd]at e;cases e)];exact e
 ·rw[aH (ne b _ e λz q=>by cases q)];exact e
 ·rw[aH (ne b _ e λz q=>by cases q)];exact e
 ·rw[aH (ne b _ e λz q=>by cases q),e];simp
 ·by_cases hb:b=d
  ·subst hb;rw[aB]at e;cases e;exact⟨ho,I.hok _ _ hd⟩
  ·rw[aH hb]at e;exact(I.hok b u e).stay (λc v _ q=>q) (λc q=>by rw[aH (ne c _ q λz q'=>by cases q')];exact q) λc xs q=>by rw[aH (ne c _ q λz q'=>by cases q')];exact q
def ItD(d:Addr)(o:Obj)(kvs:List (Key×V)):It :=
 ⟨λi H=>H d=some (.frz o (.dK kvs))/\i<kvs.length,λi H v H'=>∃T p,kvs[i]?=some p/\v=.ref T/\H T=none/\H'=upd H T (.tup [kV p.1,p.2]),λi H=>H d=some (.frz o (.dK kvs))/\kvs.length<=i⟩
theorem RV{P:Program}{w:World}{k:Key}{v:Value}(h:(cQ P w).is k v=true):RelV (kV k) v:=by
 rcases cH (show pL k v=true from h) with⟨i,t,rfl,rfl⟩ | ⟨x,t,rfl,rfl⟩
 ·exact⟨t,rfl⟩
 ·exact⟨t,rfl⟩
theorem KV.get{κ:Type}:∀{kvs:List (κ×V)}{vs:List (κ×Value)}{i:Nat}{p:κ×V},KV kvs vs->kvs[i]?=some p->∃u,vs[i]?=some (p.1,u)/\RelV p.2 u
 |_,_,_,_,.nil,e=>by simp at e
 |_,_,0,_,.cons (b:=q) r _,e=>by
  simp at e;subst e;exact(xWP q.2 (by rw[r.1];rfl) r.2)
 |_,_,i+1,p,.cons _ t,e=>by
  obtain⟨u,h1,h2⟩:=KV.get (i:=i) (p:=p) t (by simpa using e);exact(xWP u (by simpa using h1) h2)
theorem zR{P:Program}{w:World}{K:PySem.W.Frag}{elts:List Expr}{k:Nat}{pos:Pos}(d it:Addr)(o:Obj)(kvs:List (Key×V)){es:Array DictEntry}{ep:Nat}(hdat:o.data=.dict es ep) :
  Turn P w K (.Tuple elts k pos) (ItD d o kvs) [it] it (λi h=>∃ok ov,IsItemIter h it d i kvs.length ep ok ov) where
 mem:=by simp
 obj:=λi h st b hb=>by
  obtain⟨ok,ov,he⟩:=st;have e':=Zb.mp hb;subst e';exact(xWP _ he (λv z=>by
   have z':Data.fields _=Data.cell v:=z;cases z'))
 keep:=λi h h' st k=>by
  obtain⟨ok,ov,he⟩:=st;exact(xWW ok ov (k it (!5) _ he))
 item:=by
  sleep 1;subst hP hw hK;obtain⟨ok,ov,hit⟩:=st;obtain⟨hfz,hi⟩:=hg;obtain⟨ho,hz,ne,vs,kv,dd⟩:=(show cD X.prog X.w H s.heap d (.frz o (.dK kvs)) from I.hok d _ hfz)
  obtain⟨ep',hat⟩:=dd.dictAt;obtain⟨o2,es2,ho2,a1,hd2,a3⟩:=id hat;rw[ho]at ho2;cases ho2;rw[hdat]at hd2;cases hd2;have hlen:=kv.length;rw[hlen]at hit;obtain⟨u,hu,ru⟩:=KV.get kv (Zz hi);have fi:=hf it (!5);refine wpAny_pyNext_items_item hit hat hu λkey h' hkey hout hT hsz hk=>?_;refine(xWP _ rfl ?_);have hTi:it≠s.heap.objs.size:=ZA (YV hit);have I1:Inv X pins σ (upd H s.heap.objs.size (.tup [kV kvs[i].1,kvs[i].2])) { s with heap:=h',toks:=s.toks } :=
   I.turnedNew (ch:=[it]) (λb v hb q=>hk b v (λz=>hb (by simp[z])) q) (λb v q=>by
    by_cases h1:b=it
    ·subst h1;exact⟨_,hout⟩
    ·exact⟨v,hk b v h1 q⟩) (ZC _) hf (fN (!9) ([key,u]) (.cons (RV hkey) (.cons ru .nil)) (aM _ hT rfl ⟨ _,rfl⟩))
  refine wpAny_letOwnedTupleGo_items hout λh2 he2 hs2=>?_;have I2:Inv X pins σ (upd H s.heap.objs.size (.tup [kV kvs[i].1,kvs[i].2])) { s with heap:=h2,toks:=s.toks } :=
   Inv.turned (s:={ s with heap:=h',toks:=s.toks }) (h':=h2) (t':=s.toks) (it:=it) I1 (λb o hb q=>(hs2.2 b hb).trans q) (by rw[aH hTi];exact fi.1) fi.2.1 fi.2.2.2.1 fi.2.2.2.2.1 fi.2.2.2.2.2
  refine(bO (.ref s.heap.objs.size) _ I2 rfl (aO s.heap.objs.size (kvs[i]) (Zz hi) rfl I.fresh rfl) (xWW _ _ (by rw[hlen];exact he2)) (λb hb=>?_));have e':=Zb.mp hb;subst e';rw[aH hTi];exact fi.1
 done:=by
  sleep 1;subst hP hw hK;obtain⟨ok,ov,hit⟩:=st;obtain⟨hfz,hi⟩:=hg;obtain⟨ho,hz,ne,vs,kv,dd⟩:=(show cD X.prog X.w H s.heap d (.frz o (.dK kvs)) from I.hok d _ hfz)
  obtain⟨ep',hat⟩:=dd.dictAt;obtain⟨o2,es2,ho2,a1,hd2,a3⟩:=id hat;rw[ho]at ho2;cases ho2;rw[hdat]at hd2;cases hd2;have hlen:=kv.length;rw[hlen]at hit;obtain⟨f0,f1,f2,f3,f4,f5⟩:=hf it (!5);refine wpAny_pyNext_items_end (I.ok.hd hc) hit hat (Zr (by lia)) λh' eb=>⟨rfl,?_⟩
  exact I.turned (t':=s.toks) (λb o hb q=>eb b o hb q) f0 f1 f3 f4 f5
 self:=λ_ _ s _ _ st h=>by
  obtain⟨ok,ov,he⟩:=st;have hT:s.TypeIs (.ref it) "dict_itemiterator":=(xWP _ he rfl)
  refine wpAny_pyIter_slot hT F.slot_dict_itemiterator_iter (wpAny_call_entry F.slot_dict_itemiterator_iter hT lR ?_ (F.args_dict_itemiterator_iter_1 _));show wpAny _ _ (ret (.ref it)) _ _ s;exact ZY (iQ _ rfl ("dict_itemiterator") _ hT F.slot_dict_itemiterator_next.lookup h)
end
section
variable{X:Cx}
def P9(to:TE):TI:=λσ H R=>to σ H λx H1=>x.gr λd=>∃(kvs:List (Key×V)),H1 d=some (.dK kvs)/\∀o,R (ItD d o kvs) (upd H1 d (.frz o (.dK kvs)))
theorem HD{o:Expr}{to:TE}{elts:List Expr}{k:Nat}{tpos apos cpos:Pos}(ho:PE X o to)
  (hbase:attributeBase o "items" X.env (eval o X.env)=eval o X.env:=by rfl) (hline:(apos.endLine==cpos.line)=true:=by rfl):PI X (.Tuple elts k tpos) (.Call (.Attribute o "items" apos) [] [] cpos) (P9 to):=by
 intro pins s σ H R I h;refine wpAny_Call_method0_late hbase hline (cW (ho pins s σ H _ I h) λv s1 x H1 I1 r1 zz=>?_);obtain⟨d,ex,kvs,hd,q1⟩:=bV zz;subst ex;cases r1;obtain⟨h1,h2⟩:=zO (T:="dict") I1 (show RelV (.ref d) (.ref d) from rfl) (.inr (.inl ⟨rfl,.inl ⟨kvs,hd⟩⟩));obtain⟨hz,ne,vs,kv,dd⟩:=NV I1.hok hd;refine(cG ("dict") ("dict.items") PySem.F.plainAttrs_dict PySem.F.slot_dict_items PySem.F.type_dict_items h1 h2 (Calls.callWith_builtin rfl (PySem.evalArgs_none ?_)));refine call_meetsIn PySem.F.slot_dict_items h1 PySem.F.entry_dict_items (PySem.F.args_dict_items_1 _) (meets_dict_items (cQ X.prog X.w) d ne) ⟨⟨vs,dd⟩,?_⟩;obtain⟨ep,hat⟩:=dd.dictAt;obtain⟨o,es,ho',a1,hdat,a3⟩:=id hat;refine wpAny_pyIter_items (v:=s1.heap.objs.size) (d:=d) (knd:=cQ X.prog X.w) (kvs:=vs) (ep:=ep) (aM _ (YU _ rfl) rfl rfl) (hat.push _) ?_;have I2:=(I1.freeze hd ho').kept (t':=s1.toks) (h':=s1.heap.push { cls:=.type "dict_items",data:=.fields #[.ref d] }) λb u e=>YW _ e;have I3:=I2.kept (t':=s1.toks) (h':=(s1.heap.push { cls:=.type "dict_items",data:=.fields #[.ref d] }).push { cls:=.type "dict_itemiterator",data:=.fields #[.none,.bool false,.ref d,.int 0 0,.int vs.length 0,.int ep 0,.none,.none] }) λb u e=>YW _ e;refine(a7 ((s1.heap.push { cls:=.type "dict_items",data:=.fields #[.ref d] }).objs.size) ([(s1.heap.push { cls:=.type "dict_items",data:=.fields #[.ref d] }).objs.size]) _ _ _ rfl I3 (zR d _ o kvs hdat) (xWW .none .none ?_) ⟨ λb hb=>?_,q1 o⟩)
 ·rw[kv.length];exact YU _ rfl
 ·have e':=Zb.mp hb;subst e';exact I2.fpOk (ZC _) (I2.hok.fresh (ZC _))
end
theorem E1{d:Addr}{o:Obj}{kvs:List (Key×V)}{g:TG}{tb:TS}{D:Ends}{σ:St}{H:Hp}(Pv:Nat->St->Hp->Prop)(h0:Pv 0 σ H)(hl:∀i σ H,i<=kvs.length->Pv i σ H->H d=some (.frz o (.dK kvs)))
  (hs:∀(i:Nat) p σ H T,kvs[i]?=some p->Pv i σ H->H T=none->g (.ref T) σ (upd H T (.tup [kV p.1,p.2])) λσ2 H2=>tb { D with nx:=Pv (i+1),ct:=Pv (i+1),bk:=D.nx } σ2 H2) (hd:∀σ H,Pv kvs.length σ H->D.nx σ H) :
  ∃W:Nat->Nat->St->Hp->Prop,(∃m,W 0 m σ H)/\∀i m σ H,W i m σ H ->
   ((ItD d o kvs).stop i H/\D.nx σ H)\/((ItD d o kvs).go i H/\∃N:St->Hp->Prop,(!45)/\∀x H',(ItD d o kvs).yld i H x H'->g x σ H' λσ2 H2=>tb { D with nx:=N,ct:=N,bk:=D.nx } σ2 H2):=by
 refine(xWP (λi m σ H=>m=kvs.length-i/\i<=kvs.length/\Pv i σ H) (aM kvs.length (!5) (YZ _) h0) ?_);rintro i m σ H ⟨rfl,hi,p⟩;have q:=hl i σ H hi p;by_cases hlt:i<kvs.length
 ·refine .inr (fN ⟨q,hlt⟩ (Pv (i+1)) (λσ' H' p'=>(cC (kvs.length-(i+1)) (by omega) rfl hlt p')) (λx H' y=>?_));obtain⟨T,kv,e,rfl,hT,rfl⟩:=y;exact hs i kv σ _ T e p hT
 ·have e:i=kvs.length:=by lia
  subst e;exact .inl ⟨⟨q,ZC _⟩,hd σ H p⟩
section
variable{X:Cx}{pins:List (!16)}{σ:St}{H:Hp}{s:Shared}{h':Heap}
theorem Inv.turnedCh{t':Nat}{ch:List Addr}(I:Inv X pins σ H s)(k:∀b u,b∉ch->s.heap.get? b=some u->h'.get? b=some u)(hf:∀b∈ch,pU X pins H b):Inv X pins σ H { s with heap:=h',toks:=t' }:=by
 have nit:∀b u,H b=some u->b∉ch:=λb u e z=>by rw[(hf b z).1]at e;cases e
 refine I.step (g':=s.gens) (d':=s.drawn) (ch:=ch) (λb hb=>?_) (λb o _ _ hc e _=>k b o hc e) (λb o _ _ hc e _=>⟨o.slots,k b o hc e⟩) (λb u hc e n=>n) (λb u hc e=>⟨u,k b u hc e⟩)
  (λb xs e=>e) (λb ob u e=>e) (λb ps e=>⟨#[],by rw[e];simp⟩) (λm hm=>?_) (λb u e=>?_) I.bare
 ·exact(bN ((hf b hb).2.2.2.1) ((hf b hb).2.1) ((hf b hb).2.2.2.2.1) ((hf b hb).2.2.2.2.2))
 ·obtain⟨ob,es,ep,ho,r⟩:=hm;exact(jA ob es ep (k _ ob (λz=>(hf _ z).2.1 rfl) ho) r)
 ·refine(I.hok b u e).stay (λc v hc q=>k c v ?_ q) (λc q=>q) λc xs q=>q;rcases hc with z | z
  ·rw[z];exact nit b u e
  ·exact nit c _ z
end
def Itz(a b:Addr):It :=
 ⟨λi H=>∃xs ys x y,H a=some (.lst xs)/\H b=some (.lst ys)/\xs[i]?=some x/\ys[i]?=some y,λi H v H'=>∃T x y,v=.ref T/\H T=none/\H'=upd H T (.tup [x,y])/\(∀xs,H a=some (.lst xs)->xs[i]?=some x)/\∀ys,H b=some (.lst ys)->ys[i]?=some y,λi H=>∃xs ys,H a=some (.lst xs)/\H b=some (.lst ys)/\(xs.length<=i\/ys.length<=i)⟩
theorem FP{P:Program}{w:World}{K:PySem.W.Frag}{elts:List Expr}{k:Nat}{pos:Pos}(a b z TI TO i1 i2:Addr)(d:[z,TI,TO,i1,i2].Nodup) :
  Turn P w K (.Tuple elts k pos) (Itz a b) [z,TI,TO,i1,i2] z (λi h=>IsZip h z TI TO .none/\IsPair h TI (.ref i1) (.ref i2)/\(∃u v,IsPair h TO u v)/\h.IsListIter i1 a i/\h.IsListIter i2 b i):=by
 simp only[List.nodup_cons,Zn,ZM,or_false,not_or]at d;obtain⟨⟨d1,d2,d3,d4⟩,⟨d5,d6,d7⟩,⟨d8,d9⟩,d10,_⟩:=d;have apart:∀{H:Hp}{l l':Addr}{xs ys:List V},H l=some (.lst xs)->H l'=some (.lst ys)->(∀c∈[z,TI,TO,i1,i2],H c=none)->ZipApart z TI TO i1 i2 l l':=λ{H l l' xs ys} h h' hn =>
  ⟨Yh d1,Yh d2,Yh d3,Yh d4,d5,d6,d7,d8,d9,d10,aE h (hn z (!5)),aE h (hn TO (!5)),aE h (hn i1 (!5)),aE h (hn i2 (!5)),
   aE h' (hn z (!5)),aE h' (hn TO (!5)),aE h' (hn i1 (!5)),aE h' (hn i2 (!5))⟩
 refine⟨by simp,?_,?_,?_,?_,?_⟩
 ·rintro i h ⟨hz,hTI,⟨u,v,hTO⟩,⟨o1,h1,c1,e1⟩,⟨o2,h2,c2,e2⟩⟩ b' hb;simp only[Zn,ZM,or_false]at hb;rcases hb with rfl | rfl | rfl | rfl | rfl
  ·exact(xWP _ hz (λv q=>by have q':Data.fields _=Data.cell v:=q;cases q'))
  ·exact(xWP _ hTI (λv q=>by have q':Data.seq _ _=Data.cell v:=q;cases q'))
  ·exact(xWP _ hTO (λv q=>by have q':Data.seq _ _=Data.cell v:=q;cases q'))
  ·exact(xWP _ h1 (λv q=>by rw[e1]at q;cases q))
  ·exact(xWP _ h2 (λv q=>by rw[e2]at q;cases q))
 ·rintro i h h' ⟨hz,hTI,⟨u,v,hTO⟩,h1,h2⟩ kk;exact(bK (kk z (!5) _ hz) (kk TI (!5) _ hTI) (xWW u v (kk TO (!5) _ hTO)) (h1.at λo e=>kk i1 (!5) o e) (h2.at λo e=>kk i2 (!5) o e))
 ·sleep 1;subst hP hw hK;obtain⟨hz,hTI,⟨u,v,hTO⟩,h1,h2⟩:=st;obtain⟨xs,ys,x,y,ha,hb,hx,hy⟩:=hg;have D:=apart ha hb λc hc=>(hf c hc).1;obtain⟨_,its,n,rv,hl,e⟩:=I.lstM ha;obtain⟨_,its2,n2,rv2,hl2,e2⟩:=I.lstM hb;obtain⟨u1,hu1,ru1⟩:=rv.get hx;obtain⟨u2,hu2,ru2⟩:=rv2.get hy;have hux:its.toArray[i]?=some u1:=by simpa using hu1
  have huy:its2.toArray[i]?=some u2:=by simpa using hu2
  refine wpAny_pyNext_zip_item D hz hTI hTO h1 h2 (aM _ e rfl ⟨ n,rfl⟩) (aM _ e2 rfl ⟨ n2,rfl⟩) hux huy λh' a1 a2 a3 a4 a5 a6 hk=>?_;refine(xWP _ rfl ?_);have kk:∀c o,c∉[z,TO,i1,i2]->s.heap.get? c=some o->h'.get? c=some o:=λc o hc q=>hk c o (λx=>hc (by simp[x])) (λx=>hc (by simp[x])) (λx=>hc (by simp[x])) (λx=>hc (by simp[x])) q;have th:∀c o,s.heap.get? c=some o->∃o',h'.get? c=some o':=λc o q=>by
   by_cases c1:c=z
   ·subst c1;exact⟨_,a1⟩
   ·by_cases c2:c=TO
    ·subst c2;exact⟨_,a2⟩
    ·by_cases c3:c=i1
     ·subst c3;obtain⟨o',q1,_⟩:=a3;exact⟨_,q1⟩
     ·by_cases c4:c=i2
      ·subst c4;obtain⟨o',q1,_⟩:=a4;exact⟨_,q1⟩
      ·exact⟨o,hk c o c1 c2 c3 c4 q⟩
  have sub:∀c∈[z,TO,i1,i2],c∈[z,TI,TO,i1,i2]:=λc hc=>by simp at hc ⊢;rcases hc with rfl | rfl | rfl | rfl<;>simp
  have I1:Inv X pins σ (upd H s.heap.objs.size (.tup [x,y])) { s with heap:=h',toks:=s.toks } :=
   I.turnedNew (ch:=[z,TO,i1,i2]) kk th (ZC _) (λc hc=>hf c (sub c hc)) (fN (!9) ([u1,u2]) (.cons ru1 (.cons ru2 .nil)) (aM _ a5 rfl ⟨ _,rfl⟩))
  have fz:=hf z (!5);have neT:∀c∈[z,TI,TO,i1,i2],c≠s.heap.objs.size:=λc hc=>by
   simp only[Zn,ZM,or_false]at hc;rcases hc with rfl | rfl | rfl | rfl | rfl
   ·exact ZA (YV hz)
   ·exact ZA (YV hTI)
   ·exact ZA (YV hTO)
   ·obtain⟨_,q,_⟩:=h1;exact ZA (YV q)
   ·obtain⟨_,q,_⟩:=h2;exact ZA (YV q)
  refine wpAny_letOwnedTupleGo_zip a1 λh2' hz2 hs2=>?_;have I2:Inv X pins σ (upd H s.heap.objs.size (.tup [x,y])) { s with heap:=h2',toks:=s.toks } :=
   Inv.turned (s:={ s with heap:=h',toks:=s.toks }) (h':=h2') (t':=s.toks) (it:=z) I1 (λc o hc q=>(hs2.2 c hc).trans q) (by rw[aH (neT z (!5))];exact fz.1) fz.2.1 fz.2.2.2.1 fz.2.2.2.2.1 fz.2.2.2.2.2
  refine(bO (.ref s.heap.objs.size) _ I2 rfl (dX s.heap.objs.size x y rfl I.fresh rfl (λzs hzs=>by rw[ha]at hzs;cases hzs;exact hx) (λzs hzs=>by rw[hb]at hzs;cases hzs;exact hy)) (bK hz2 ((hs2.2 TI (Yh d1)).trans (hk TI _ (Yh d1) d5 d6 d7 hTI)) (xWW _ _ ((hs2.2 TO (Yh d2)).trans a2)) (a3.at λo q=>(hs2.2 i1 (Yh d3)).trans q) (a4.at λo q=>(hs2.2 i2 (Yh d4)).trans q)) (λc hc=>?_));rw[aH (neT c hc)];exact(hf c hc).1
 ·sleep 1;subst hP hw hK;obtain⟨hz,hTI,⟨u,v,hTO⟩,h1,h2⟩:=st;obtain⟨xs,ys,ha,hb,hx⟩:=hg;have D:=apart ha hb λc hc=>(hf c hc).1;obtain⟨_,its,n,rv,hl,e⟩:=I.lstM ha;obtain⟨_,its2,n2,rv2,hl2,e2⟩:=I.lstM hb;have sub:∀c∈[z,TO,i1,i2],c∈[z,TI,TO,i1,i2]:=λc hc=>by simp at hc ⊢;rcases hc with rfl | rfl | rfl | rfl<;>simp
  refine wpAny_pyNext_zip_end (I.ok.hd hc) D hz hTI hTO h1 h2 (aM _ e rfl ⟨ n,rfl⟩) (aM _ e2 rfl ⟨ n2,rfl⟩) ?_ λh' hk=>⟨rfl,?_⟩
  ·rcases hx with q | q
   ·left;simp;lia
   ·right;simp;lia
  ·exact I.turnedCh (t':=s.toks) (ch:=[z,TO,i1,i2]) (λc o hc q=>hk c o (λx=>hc (by simp[x])) (λx=>hc (by simp[x])) (λx=>hc (by simp[x])) (λx=>hc (by simp[x])) q) λc hc=>hf c (sub c hc)
 ·intro A i s Q E st h;exact wpAny_pyIter_zip st.1 h
section
variable{X:Cx}
def TZ(ta:TA):TI:=λσ H R=>ta σ H λvs H1=>∃a b xs ys,vs=[.ref a,.ref b]/\H1 a=some (.lst xs)/\H1 b=some (.lst ys)/\R (Itz a b) H1
theorem mH{a b:Expr}{ta:TA}{p pos:Pos}{elts:List Expr}{k:Nat}{tpos:Pos}(hg:Gl X "zip")(hm:X.mg "zip" = none)(ha:PA X [a,b] ta)(hs:starEach [a,b] X.env=[(false,eval a X.env),(false,eval b X.env)]:=by rfl)(hs2:starEach [b] X.env=[(false,eval b X.env)]:=by rfl) :
  PI X (.Tuple elts k tpos) (.Call (.Name "zip" p) [a,b] [] pos) (TZ ta):=by
 intro pins s σ H R I h;refine Call_ (kQ I hg hm boot_zip (PyProof.Rows.callWith_type1 (pP (ha pos pins s σ H _ I h) λus s1 vs H1 I1 r1 q1=>?_) (by rw[hs,hs2]) (by rw[hs2];rfl)));obtain⟨l,l2,xs,ys,e,hx,hy,q⟩:=q1;subst e;cases r1 with
 |cons r rr =>
  cases rr with
  |cons r' rr =>
   cases rr;cases r;cases r';obtain⟨_,its,n,rv,hl,e⟩:=I1.lstM hx;obtain⟨_,its2,n2,rv2,hl2,e2⟩:=I1.lstM hy;refine call_zip_2 (aM _ e rfl ⟨ n,rfl⟩) (aM _ e2 rfl ⟨ n2,rfl⟩) λh' z1 z2 z3 z4 z5 hsz hk=>?_;refine wpAny_pyIter_zip z1 ?_;have I2:Inv X pins σ H1 { s1 with heap:=h' }:=I1.kept (t':=s1.toks) hk;refine(a7 (s1.heap.objs.size+4) ([s1.heap.objs.size+4,s1.heap.objs.size+2,s1.heap.objs.size+3,s1.heap.objs.size,s1.heap.objs.size+1]) _ _ H1 rfl I2 (FP l l2 _ _ _ _ _ (!5)) (bK z1 z2 (xWW _ _ z3) z4 z5) ⟨ λc hc=>?_,q⟩);have hc':s1.heap.objs.size<=c:=by
    simp only[Zn,ZM,or_false]at hc;rcases hc with rfl | rfl | rfl | rfl | rfl<;>lia
   exact I1.fpOk hc' (I1.hok.fresh hc')
end
theorem qL{a b:Addr}{xs ys:List V}{g:TG}{tb:TS}{D:Ends}{σ:St}{H:Hp}(Pv:Nat->St->Hp->Prop)(hlen:xs.length=ys.length)(h0:Pv 0 σ H)(hl:∀i σ H,i<=xs.length->Pv i σ H->H a=some (.lst xs)/\H b=some (.lst ys))
  (hs:∀(i:Nat) x y σ H T,xs[i]?=some x->ys[i]?=some y->Pv i σ H->H T=none->g (.ref T) σ (upd H T (.tup [x,y])) λσ2 H2=>tb { D with nx:=Pv (i+1),ct:=Pv (i+1),bk:=D.nx } σ2 H2) (hd:∀σ H,Pv xs.length σ H->D.nx σ H) :
  ∃W:Nat->Nat->St->Hp->Prop,(∃m,W 0 m σ H)/\∀i m σ H,W i m σ H ->
   ((Itz a b).stop i H/\D.nx σ H)\/((Itz a b).go i H/\∃N:St->Hp->Prop,(!45)/\∀x H',(Itz a b).yld i H x H'->g x σ H' λσ2 H2=>tb { D with nx:=N,ct:=N,bk:=D.nx } σ2 H2):=by
 refine(xWP (λi m σ H=>m=xs.length-i/\i<=xs.length/\Pv i σ H) (aM xs.length (!5) (YZ _) h0) ?_);rintro i m σ H ⟨rfl,hi,p⟩;obtain⟨q1,q2⟩:=hl i σ H hi p;by_cases hlt:i<xs.length
 ·refine .inr (fN (gI xs ys (xs[i]) (ys[i]'(by lia)) q1 q2 (by simp[hlt]) (by rw[Zz (by lia)])) (Pv (i+1)) (λσ' H' p'=>(cC (xs.length-(i+1)) (by lia) rfl hlt p')) (λx H' y=>?_));obtain⟨T,x',y',rfl,hT,rfl,y1,y2⟩:=y;exact hs i x' y' σ _ T (y1 xs q1) (y2 ys q2) p hT
 ·have e:i=xs.length:=by lia
  subst e;exact .inl ⟨(aG xs ys q1 q2 (.inl (ZC _))),hd σ H p⟩
end L2
namespace L2
open PySem PyProof.Rows
theorem nO:∀xs ys:List Int,PyData.eqvAll (xs.map PyData.int) (ys.map PyData.int)=decide (xs=ys)
 |[],[]=>rfl
 |[],_::_=>rfl
 |_::_,[]=>rfl
 |x::xs,y::ys=>by
  simp only[ZJ,PyData.eqvAll,nO xs ys,PyData.eqv];by_cases h:x=y
  ·subst h;simp
  ·simp[h]
theorem uS(xs ys:List Int):PyData.eqv (.list (xs.map PyData.int)) (.list (ys.map PyData.int))=decide (xs=ys):=by
 rw[PyData.eqv,nO]
end L2
namespace FL
structure En where
 d:Int
 v:Nat
 k:Nat
 by_:Int
section
variable(rest:Nat->Int)(src dst:Nat->Int->Nat)(len:Nat->Int->Int)(op:Nat->Int->Prop)
def Led(R:List En)(e:En):Prop:=op e.k e.by_/\dst e.k e.by_=e.v/\e.by_≠0/\∃u∈R,u.v=src e.k e.by_/\e.d=u.d+len e.k e.by_
def vA(e:En):Prop:=e.by_=0/\e.d=0/\0<rest e.v
structure Rch(n:Nat)(pr:Nat->Int->Prop)(R W:List En)(nr:Nat->Option Int):Prop where
 old:∀(i:Nat) e,R[i]?=some e->vA rest e\/Led src dst len op (R.take i) e
 wait:∀e∈W,vA rest e\/Led src dst len op R e
 lt:∀e∈R++W,e.v<n
 nd:(R.map (·.v)).Nodup
 up:R.Pairwise λa b=>a.d<=b.d
 mono:∀u∈R,∀e∈W,u.d<=e.d
 dom:∀k by_,pr k by_->op k by_->∃x,nr (dst k by_)=some x/\∃u∈R,u.v=src k by_/\x<=u.d+len k by_
 near:∀v x,nr v=some x->∃e∈R++W,e.v=v/\e.d<=x
 pos:∀v,v<n->0<rest v->∃e∈R++W,e.v=v/\e.d<=0
variable{rest src dst len op}{n:Nat}{pr pr':Nat->Int->Prop}{R W W':List En}{nr:Nat->Option Int}{e:En}
theorem Led.more{R R':List En}(h:Led src dst len op R e)(s:∀u∈R,u∈R'):Led src dst len op R' e:=by
 obtain⟨a,b,c,u,hu,r⟩:=h;exact(N1 a b c u (s u hu) r)
theorem Rch.start(hW:∀e∈W,vA rest e/\e.v<n)(all:∀v,v<n->0<rest v->∃e∈W,e.v=v):Rch rest src dst len op n (λ_ _=>False) [] W (λ_=>none) where
 old:=λi e h=>by simp at h
 wait:=λe he=>.inl (hW e he).1
 lt:=λe he=>(hW e (by simpa using he)).2
 nd:=List.nodup_nil
 up:=.nil
 mono:=λu hu=>by cases hu
 dom:=λ_ _ h=>h.elim
 near:=λ_ _ h=>by cases h
 pos:=λv hv h=>by
  obtain⟨e,he,ev⟩:=all v hv h;exact(aM e (by simpa using he) ev (by rw[(hW e he).1.2.1];exact Int.le_refl _))
theorem Rch.drop(h:Rch rest src dst len op n pr R W nr)(p:W.Perm (e::W'))(he:∃u∈R,u.v=e.v):Rch rest src dst len op n pr R W' nr:=by
 have sub:∀x∈W',x∈W:=λx hx=>p.mem_iff.mpr (.tail _ hx);have inst:∀{v:Nat}{x:Int},(∃e∈R++W,e.v=v/\e.d<=x)->∃e∈R++W',e.v=v/\e.d<=x:=λ{v x} ⟨y,hy,yv,yd⟩=>by
  rcases Zf.mp hy with hy | hy
  ·exact(aM y (ZP _ hy) yv yd)
  ·rcases Zn.mp (p.mem_iff.mp hy) with rfl | hy'
   ·obtain⟨u,hu,uv⟩:=he;exact(aM u (ZP _ hu) (uv.trans yv) (Int.le_trans (h.mono u hu _ hy) yd))
   ·exact(aM y (ZO _ hy') yv yd)
 exact{ old:=h.old,wait:=λx hx=>h.wait x (sub x hx),lt:=λx hx=>h.lt x ((Zf.mp hx).elim (ZP _) λz=>ZO _ (sub x z)),nd:=h.nd,up:=h.up,mono:=λu hu x hx=>h.mono u hu x (sub x hx),dom:=h.dom,near:=λv x hv=>inst (h.near v x hv),pos:=λv hv hp=>inst (h.pos v hv hp) }
theorem Rch.take(h:Rch rest src dst len op n pr R W nr)(p:W.Perm (e::W'))(least:∀x∈W',e.d<=x.d)(he:∀u∈R,u.v≠e.v):Rch rest src dst len op n pr (R++[e]) W' nr:=by
 have me:e∈W:=p.mem_iff.mpr (.head _);have sub:∀x∈W',x∈W:=λx hx=>p.mem_iff.mpr (.tail _ hx);have inst:∀{v:Nat}{x:Int},(∃e∈R++W,e.v=v/\e.d<=x)->∃y∈(R++[e])++W',y.v=v/\y.d<=x:=λ{v x} ⟨y,hy,yv,yd⟩=>by
  refine(aM y ?_ yv yd);rcases Zf.mp hy with hy | hy
  ·exact ZP _ (ZP _ hy)
  ·rcases Zn.mp (p.mem_iff.mp hy) with rfl | hy'
   ·exact ZP _ (ZO _ (.head _))
   ·exact ZO _ hy'
 exact{
  old:=λi x hx=>by
   rcases Xk i R.length with hi | hi
   ·rw[Zx hi]at hx;rw[List.take_append_of_le_length (YX hi)];exact h.old i x hx
   ·rw[Zy hi]at hx;have hz:i-R.length=0:=by
     have:=(Zj.mp hx).1;simp at this
     lia
    rw[hz]at hx;have ex:e=x:=by simpa using hx
    subst ex;have ei:i=R.length:=by lia
    subst ei;rw[List.take_left];exact h.wait _ me
  wait:=λx hx=>(h.wait x (sub x hx)).imp id λz=>z.more λu hu=>ZP _ hu
  lt:=λx hx=>by
   rcases Zf.mp hx with hx | hx
   ·rcases Zf.mp hx with hx | hx
    ·exact h.lt x (ZP _ hx)
    ·cases hx with
     |head=>exact h.lt _ (ZO _ me)
     |tail _ z=>cases z
   ·exact h.lt x (ZO _ (sub x hx))
  nd:=by
   rw[Zt];refine List.nodup_append.mpr (xPP h.nd (!5) ?_);intro a ha b hb;obtain⟨u,hu,rfl⟩:=Zh.mp ha;have:b=e.v:=by simpa using hb
   rw[this];exact he u hu
  up:=List.pairwise_append.mpr (xPP h.up (List.pairwise_singleton _ _) (λa ha b hb=>by
   have:b=e:=by simpa using hb
   rw[this];exact h.mono a ha e me))
  mono:=λu hu x hx=>by
   rcases Zf.mp hu with hu | hu
   ·exact h.mono u hu x (sub x hx)
   ·have:u=e:=by simpa using hu
    rw[this];exact least x hx
  dom:=λk by_ hp ho=>by
   obtain⟨x,h1,u,hu,r⟩:=h.dom k by_ hp ho;exact(tS x h1 u (ZP _ hu) r)
  near:=λv x hv=>inst (h.near v x hv)
  pos:=λv hv hp=>inst (h.pos v hv hp) }
theorem Rch.pass{k:Nat}{by_:Int}(h:Rch rest src dst len op n pr R W nr)(c:op k by_->∃x,nr (dst k by_)=some x/\∃u∈R,u.v=src k by_/\x<=u.d+len k by_)(sub:∀k' b',pr' k' b'->pr k' b'\/(k'=k/\b'=by_)):Rch rest src dst len op n pr' R W nr :=
 ⟨h.old,h.wait,h.lt,h.nd,h.up,h.mono,λk' b' hp ho=>(sub k' b' hp).elim (λz=>h.dom k' b' z ho) λz=>by
  obtain⟨rfl,rfl⟩:=z;exact c ho,h.near,h.pos⟩
theorem Rch.put{k:Nat}{by_:Int}{u:En}(h:Rch rest src dst len op n pr R W nr)(ho:op k by_)(hb:by_≠0)(hu:u∈R)(uv:u.v=src k by_)(top:∀x∈R,x.d<=u.d)(hl:0<=len k by_)(hd:dst k by_<n)
  (better:∀x,nr (dst k by_)=some x->u.d+len k by_<=x) (p:W'.Perm (⟨u.d+len k by_,dst k by_,k,by_⟩::W)) (sub:∀k' b',pr' k' b'->pr k' b'\/(k'=k/\b'=by_)) :
  Rch rest src dst len op n pr' R W' (λv=>if v=dst k by_ then some (u.d+len k by_) else nr v):=by
 have new:(⟨u.d+len k by_,dst k by_,k,by_⟩:En)∈W':=p.mem_iff.mpr (.head _);have grow:∀{v:Nat}{x:Int},(∃e∈R++W,e.v=v/\e.d<=x)->∃e∈R++W',e.v=v/\e.d<=x:=λ{v x} ⟨y,hy,r⟩=>by
  refine(xWP y ?_ r);rcases Zf.mp hy with hy | hy
  ·exact ZP _ hy
  ·exact ZO _ (p.mem_iff.mpr (.tail _ hy))
 exact{
  old:=h.old
  wait:=λx hx=>by
   rcases Zn.mp (p.mem_iff.mp hx) with rfl | hx
   ·exact .inr (KB ho rfl hb u hu uv rfl)
   ·exact h.wait x hx
  lt:=λx hx=>by
   rcases Zf.mp hx with hx | hx
   ·exact h.lt x (ZP _ hx)
   ·rcases Zn.mp (p.mem_iff.mp hx) with rfl | hx
    ·exact hd
    ·exact h.lt x (ZO _ hx)
  nd:=h.nd
  up:=h.up
  mono:=λy hy x hx=>by
   rcases Zn.mp (p.mem_iff.mp hx) with rfl | hx
   ·show y.d<=u.d+len k by_;have:=top y hy
    lia
   ·exact h.mono y hy x hx
  dom:=λk' b' hp ho'=>by
   by_cases z:dst k' b'=dst k by_
   ·refine(xWP _ (Yb z) ?_);rcases sub k' b' hp with y | ⟨rfl,rfl⟩
    ·obtain⟨x,h1,w,hw,wv,hx⟩:=h.dom k' b' y ho';rw[z]at h1;have:=better x h1;exact(aM w hw wv (by lia))
    ·exact(aM u hu uv (Int.le_refl _))
   ·rcases sub k' b' hp with y | ⟨rfl,rfl⟩
    ·obtain⟨x,h1,r⟩:=h.dom k' b' y ho';exact(xWP x ((Ya z).trans h1) r)
    ·exact Yg rfl z
  near:=λv x hv=>by
   by_cases z:v=dst k by_
   ·rw[Yb z]at hv;cases hv;exact(aM _ (ZO _ new) z.symm (Int.le_refl _))
   ·rw[Ya z]at hv;exact grow (h.near v x hv)
  pos:=λv hv hp=>grow (h.pos v hv hp) }
theorem Rch.shut(h:Rch rest src dst len op n pr R [] nr)(all:∀k by_,op k by_->(∃u∈R,u.v=src k by_)->pr k by_){k:Nat}{by_:Int}(ho:op k by_)(hs:∃u∈R,u.v=src k by_):∃u∈R,u.v=dst k by_:=by
 obtain⟨x,h1,_⟩:=h.dom k by_ (all k by_ ho hs) ho;obtain⟨e,he,ev,_⟩:=h.near _ _ h1;rw[List.append_nil]at he;exact(xWP e he ev)
theorem Rch.have_pos(h:Rch rest src dst len op n pr R [] nr){v:Nat}(hv:v<n)(hp:0<rest v):∃u∈R,u.v=v:=by
 obtain⟨e,he,ev,_⟩:=h.pos v hv hp;rw[List.append_nil]at he;exact(xWP e he ev)
noncomputable def lift(R:List En)(D:Int)(v:Nat):Int:=match R.find? λu=>u.v==v with
 |some u=>D-u.d
 |none=>0
theorem gW(nd:(R.map (·.v)).Nodup){u:En}(hu:u∈R)(D:Int):lift R D u.v=D-u.d:=by
 unfold lift;have:R.find? (λw=>w.v==u.v)=some u:=by
  induction R with
  |nil=>cases hu
  |cons a l ih =>
   rw[ZJ,List.nodup_cons]at nd;rcases Zn.mp hu with rfl | hu
   ·exact List.find?_cons_of_pos (!5)
   ·have ne:¬(a.v==u.v)=true:=λz=>nd.1 (by rw[Yi z];exact Zh.mpr (xWP u hu rfl));rw[List.find?_cons_of_neg (p:=λw:En=>w.v==u.v) ne];exact ih nd.2 hu
 rw[this]
theorem nG{v:Nat}(h:∀u∈R,u.v≠v)(D:Int):lift R D v=0:=by
 unfold lift;have:R.find? (λw=>w.v==v)=none:=List.find?_eq_none.mpr λu hu z=>h u hu (Yi z);rw[this]
theorem Rch.slack(h:Rch rest src dst len op n pr (R++[e]) W nr)(all:∀k by_,op k by_->(∃u∈R,u.v=src k by_)->pr k by_)(nn:∀k by_,op k by_->0<=len k by_){k:Nat}{by_:Int}(ho:op k by_) :
  0<=len k by_-lift (R++[e]) e.d (src k by_)+lift (R++[e]) e.d (dst k by_):=by
 have top:∀u∈R++[e],u.d<=e.d:=λu hu=>by
  rcases Zf.mp hu with hu | hu
  ·exact(List.pairwise_append.mp h.up).2.2 u hu e (.head _)
  ·have:u=e:=by simpa using hu
   rw[this];sleep 16
 have nn':=nn k by_ ho;have lo:0<=lift (R++[e]) e.d (dst k by_):=by
  by_cases z:∃u∈R++[e],u.v=dst k by_
  ·obtain⟨u,hu,uv⟩:=z;rw[<-uv,gW h.nd hu];have:=top u hu
   lia
  ·rw[nG λu hu uv=>z (xWP u hu uv)];sleep 16
 by_cases z:∃u∈R++[e],u.v=src k by_
 ·obtain⟨u,hu,uv⟩:=z;rw[<-uv,gW h.nd hu];rcases Zf.mp hu with hu' | hu'
  ·obtain⟨x,h1,w,hw,wv,hx⟩:=h.dom k by_ (all k by_ ho (xWP u hu' uv)) ho;have ew:w.d=u.d:=by
    have a1:=gW h.nd hw 0;have a2:=gW h.nd hu 0;rw[wv,<-uv,a2]at a1
    lia
   obtain⟨y,hy,yv,yd⟩:=h.near _ _ h1;rcases Zf.mp hy with hy | hy
   ·rw[<-yv,gW h.nd hy]
    lia
   ·have:=h.mono e (ZO _ (.head _)) y hy
    lia
  ·have:u=e:=by simpa using hu'
   rw[this]
   lia
 ·rw[nG λu hu uv=>z (xWP u hu uv)]
  lia
theorem Rch.tight(h:Rch rest src dst len op n pr R W nr){i:Nat}(hi:R[i]?=some e)(hb:e.by_≠0)(D:Int):op e.k e.by_/\dst e.k e.by_=e.v/\len e.k e.by_-lift R D (src e.k e.by_)+lift R D (dst e.k e.by_)=0/\∃u j,j<i/\R[j]?=some u/\u.v=src e.k e.by_:=by
 rcases h.old i e hi with z | ⟨a,b,_,u,hu,uv,ud⟩
 ·exact Yg z.1 hb
 ·have hu':=List.mem_of_mem_take hu;obtain⟨j,hj,ej⟩:=Yy.mp hu;rw[Yw]at hj;refine(FJ a b ?_ u j (by lia) ?_ uv)
  ·rw[b,<-uv,gW h.nd hu',gW h.nd (Zg hi)]
   lia
  ·rw[<-ej,List.getElem_take,Zz (by lia)]
end
section
variable{rest:Nat->Int}{src dst:Nat->Int->Nat}{len:Nat->Int->Int}{op:Nat->Int->Prop}{n:Nat}{pr:Nat->Int->Prop}{R W:List En}{nr:Nat->Option Int}
inductive Back(src:Nat->Int->Nat)(R:List En):Nat->List (Nat×Int)->Nat->Prop
 |stop {i:Nat}{e:En}:R[i]?=some e->e.by_=0->Back src R i [] e.v
 |step {i j b:Nat}{e u:En}{ps:List (Nat×Int)}:R[i]?=some e->e.by_≠0->j<i->R[j]?=some u->u.v=src e.k e.by_->Back src R j ps b->Back src R i ((e.k,e.by_)::ps) b
theorem Back.there(h:Rch rest src dst len op n pr R W nr):∀(m i:Nat),i<m->i<R.length->∃ps b,Back src R i ps b/\b<n/\0<rest b
 |0,_,hm,_=>Yg hm (Nat.not_lt_zero _)
 |m+1,i,hm,hi=>by
  have g:=Zz hi;by_cases hb:(R[i]).by_=0
  ·refine(aG ([]) _ (.stop g hb) (h.lt _ (ZP _ (Zp hi))) ?_);rcases h.old i _ g with z | z
   ·exact z.2.2
   ·exact Yg hb z.2.2.1
  ·obtain⟨_,_,_,u,j,hj,gj,uv⟩:=h.tight g hb 0;obtain⟨ps,b,hp,r⟩:=Back.there h m j (by lia) (by lia);exact(bM _ b (.step g hb hj gj uv hp) r)
theorem Back.open_(h:Rch rest src dst len op n pr R W nr){i b:Nat}{ps:List (Nat×Int)}(p:Back src R i ps b):∀q∈ps,op q.1 q.2/\∃(j:Nat) (e:En),j<=i/\R[j]?=some e/\e.k=q.1/\e.by_=q.2/\dst q.1 q.2=e.v/\∃(l:Nat) (u:En),l<j/\R[l]?=some u/\u.v=src q.1 q.2:=by
 induction p with
 |stop _ _=>intro q hq;cases hq
 |@step i j b e u ps g hb hj gj uv _ ih =>
  intro q hq;rcases Zn.mp hq with rfl | hq
  ·obtain⟨t1,t2,_,_⟩:=h.tight g hb 0;exact(lC t1 i e (ZC _) g rfl rfl t2 (aG j u hj gj uv))
  ·obtain⟨o,j',e',hj',r⟩:=ih q hq;exact(fD o j' e' (by lia) r)
theorem JX(nd:(R.map (·.v)).Nodup){i j:Nat}{e u:En}(hi:R[i]?=some e)(hj:R[j]?=some u)(h:e.v=u.v):i=j:=by
 have a:(R.map (·.v))[i]?=some e.v:=by rw[Zk,hi];rfl
 have b:(R.map (·.v))[j]?=some e.v:=by rw[Zk,hj,h];rfl
 obtain⟨hi',ei⟩:=Zj.mp a;obtain⟨hj',ej⟩:=Zj.mp b;exact(List.getElem_inj nd).mp (ei.trans ej.symm)
theorem Back.once(h:Rch rest src dst len op n pr R W nr)(flip:∀k by_,op k by_->src k (-by_)=dst k by_)(one:∀k by_,op k by_->by_=1\/by_ = -1){i b:Nat}{ps:List (Nat×Int)}(p:Back src R i ps b):(ps.map (·.1)).Nodup:=by
 induction p with
 |stop _ _=>exact List.nodup_nil
 |@step i j b e u ps g hb hj gj uv p ih =>
  rw[ZJ,List.nodup_cons];refine⟨λz=>?_,ih⟩;obtain⟨q,hq,eq⟩:=Zh.mp z;obtain⟨oq,j',e',hj',g',k',b',d',l,w,hl,gl,wv⟩:=Back.open_ h p q hq;obtain⟨oe,de,_,_⟩:=h.tight g hb 0;have eq':q.1=e.k:=eq;have nd:=h.nd;by_cases s:q.2=e.by_
  ·rw[eq',s,de]at d';have:=JX nd g g' d'
   lia
  ·have sgn:q.2 = - e.by_:=by
    rcases one _ _ oq with x | x<;>rcases one _ _ oe with y | y<;>rw[x,y]at s ⊢<;>first | rfl | exact Yg rfl s
   have f:=flip _ _ oe;rw[eq',sgn,f,de]at wv;have:=JX nd gl g wv
   lia
end
def sm(m:Nat)(f:Nat->Int):Int:=((ZS m).map f).sum
theorem pZ(f:Nat->Int):sm 0 f=0:=rfl
theorem cJ(m:Nat)(f:Nat->Int):sm (m+1) f=sm m f+f m:=by
 unfold sm;rw[ZI,Zt,List.sum_append];simp
theorem bY{m:Nat}{f g:Nat->Int}(h:∀k,k<m->f k=g k):sm m f=sm m g:=by
 induction m with
 |zero=>rfl
 |succ m ih=>rw[cJ,cJ,ih λk hk=>h k (by lia),h m (by lia)]
theorem GN{m k:Nat}(hk:k<m)(f:Nat->Int)(x:Int):sm m (λj=>f j+if j=k then x else 0)=sm m f+x:=by
 induction m with
 |zero=>exact Yg hk (Nat.not_lt_zero _)
 |succ m ih =>
  rw[cJ,cJ];by_cases z:k=m
  ·subst z;rw[bY (g:=f) λj hj=>by rw[Ya (by lia)];lia,Yb rfl]
   lia
  ·rw[ih (by lia),Ya (λh=>z h.symm)]
   lia
def rs(m:Nat)(a b:Nat->Nat)(need g:Nat->Int)(v:Nat):Int:=need v-sm m (λk=>if a k=v then g k else 0)+sm m (λk=>if b k=v then g k else 0)
theorem RA{m k:Nat}{a b:Nat->Nat}{need g:Nat->Int}(hk:k<m)(x:Int)(v:Nat):rs m a b need (λj=>g j+if j=k then x else 0) v=rs m a b need g v-(if a k=v then x else 0)+(if b k=v then x else 0):=by
 have e:∀c:Nat->Nat,sm m (λj=>if c j=v then g j+(if j=k then x else 0) else 0)=sm m (λj=>if c j=v then g j else 0)+(if c k=v then x else 0):=λc=>by
  rw[<-GN hk];refine bY λj _=>?_;by_cases z:j=k
  ·subst z;rw[Yb rfl,Yb rfl];split<;>lia
  ·rw[Ya z,Ya z];split<;>lia
 unfold rs;rw[e a,e b]
 lia
def dP(g:Nat->Int)(x:Int):List (Nat×Int)->Nat->Int
 |[]=>g
 |(k,by_)::ps=>dP (λj=>g j+if j=k then by_*x else 0) x ps
def sd(a b:Nat->Nat)(k:Nat)(by_:Int):Nat:=if 0<by_ then a k else b k
def fr(a b:Nat->Nat)(k:Nat)(by_:Int):Nat:=if 0<by_ then b k else a k
theorem K5{m k:Nat}{a b:Nat->Nat}{need g:Nat->Int}{by_:Int}(hk:k<m)(one:by_=1\/by_ = -1)(x:Int)(v:Nat) :
  rs m a b need (λj=>g j+if j=k then by_*x else 0) v=rs m a b need g v-(if sd a b k by_=v then x else 0)+(if fr a b k by_=v then x else 0):=by
 rw[RA hk];rcases one with rfl | rfl
 ·have e1:sd a b k 1=a k:=rfl;have e2:fr a b k 1=b k:=rfl;rw[e1,e2,Int.one_mul]
 ·have e1:sd a b k (-1)=b k:=rfl;have e2:fr a b k (-1)=a k:=rfl;have e3 : -1*x = -x:=by lia
  rw[e1,e2,e3];by_cases z:a k=v<;>by_cases y:b k=v<;>simp only[z,y,if_true,if_false]<;>lia
theorem D8{rest:Nat->Int}{len:Nat->Int->Int}{op:Nat->Int->Prop}{n m:Nat}{pr:Nat->Int->Prop}{R W:List En}{nr:Nat->Option Int}{a b:Nat->Nat}{need:Nat->Int}
  (h:Rch rest (sd a b) (fr a b) len op n pr R W nr) (one:∀k by_,op k by_->by_=1\/by_ = -1) (hm:∀k by_,op k by_->k<m) (x:Int) {i c:Nat}{ps:List (Nat×Int)}(p:Back (sd a b) R i ps c) :
  ∀(g:Nat->Int) (e:En),R[i]?=some e->∀v,rs m a b need (dP g x ps) v=rs m a b need g v-(if c=v then x else 0)+(if e.v=v then x else 0):=by
 induction p with
 |@stop i e hi hb =>
  intro g e' he' v;rw[hi]at he';cases he';show rs m a b need g v=_
  lia
 |@step i j c e u ps hi hb hj gj uv p ih =>
  intro g e' he' v;rw[hi]at he';cases he';obtain⟨oe,de,_,_⟩:=h.tight hi hb 0;show rs m a b need (dP (λl=>g l+if l=e.k then e.by_*x else 0) x ps) v=_;rw[ih _ u gj v,K5 (hm _ _ oe) (one _ _ oe),de,uv]
  lia
theorem jT(x:Int):∀(ps:List (Nat×Int)) (g:Nat->Int) {j:Nat},j∉ps.map (·.1)->dP g x ps j=g j
 |[],_,_,_=>rfl
 |(k,by_)::ps,g,j,h=>by
  rw[ZJ,Zn,not_or]at h;show dP (λl=>g l+if l=k then by_*x else 0) x ps j=g j;rw[jT x ps _ h.2,Ya h.1]
  lia
theorem oN(x:Int):∀(ps:List (Nat×Int)) (g:Nat->Int) {k:Nat}{by_:Int},(ps.map (·.1)).Nodup->(k,by_)∈ps->dP g x ps k=g k+by_*x
 |(k',b')::ps,g,k,by_,nd,h=>by
  rw[ZJ,List.nodup_cons]at nd;show dP (λl=>g l+if l=k' then b'*x else 0) x ps k=_;rcases Zn.mp h with e | h
  ·cases e;rw[jT x ps _ nd.1,Yb rfl]
  ·have ne:k≠k':=λz=>nd.1 (Zh.mpr (xWP (k,by_) h z));rw[oN x ps _ nd.2 h,Ya ne]
   lia
section
variable{m n:Nat}{a b:Nat->Nat}{lo:Nat->Int}{hi:Nat->Option Int}{co g p:Nat->Int}
def rt(a b:Nat->Nat)(co p:Nat->Int)(k:Nat):Int:=co k-p (a k)+p (b k)
structure fW(m:Nat)(a b:Nat->Nat)(lo:Nat->Int)(hi:Nat->Option Int)(co g p:Nat->Int):Prop where
 low:∀k,k<m->lo k<=g k
 high:∀k,k<m->∀h,hi k=some h->g k<=h
 over:∀k,k<m->0<rt a b co p k->g k=lo k
 under:∀k,k<m->rt a b co p k<0->hi k=some (g k)
def opn(m:Nat)(lo:Nat->Int)(hi:Nat->Option Int)(g:Nat->Int)(k:Nat)(by_:Int):Prop:=k<m/\((by_=1/\hi k≠some (g k))\/(by_ = -1/\g k≠lo k))
def ln(a b:Nat->Nat)(co p:Nat->Int)(k:Nat)(by_:Int):Int:=by_*rt a b co p k
theorem fC{k:Nat}{by_:Int}(h:opn m lo hi g k by_):by_=1\/by_ = -1:=h.2.imp (·.1) (·.1)
theorem B9(k:Nat){by_:Int}(h:by_=1\/by_ = -1):sd a b k (-by_)=fr a b k by_:=by
 rcases h with rfl | rfl<;>rfl
theorem fW.nn(s:fW m a b lo hi co g p){k:Nat}{by_:Int}(h:opn m lo hi g k by_):0<=ln a b co p k by_:=by
 obtain⟨hk,⟨rfl,z⟩ | ⟨rfl,z⟩⟩:=h
 ·unfold ln;rcases Int.lt_or_le (rt a b co p k) 0 with c | c
  ·exact Yg (s.under k hk c) z
  ·lia
 ·unfold ln;rcases Int.lt_or_le 0 (rt a b co p k) with c | c
  ·exact Yg (s.over k hk c) z
  ·lia
theorem fW.room(s:fW m a b lo hi co g p){k:Nat}{by_:Int}(h:opn m lo hi g k by_):(by_=1->∀x,hi k=some x->1<=x-g k)/\(by_ = -1->1<=g k-lo k):=by
 obtain⟨hk,⟨rfl,z⟩ | ⟨rfl,z⟩⟩:=h
 ·refine⟨λ_ x hx=>?_,λe=>Yg e (!1)⟩;have:=s.high k hk x hx;have ne:g k≠x:=λe=>z (by rw[e];exact hx)
  lia
 ·refine⟨λe=>Yg e (!1),λ_=>?_⟩;have:=s.low k hk
  lia
theorem oK(L:Nat->Int)(k:Nat):rt a b co (λv=>p v+L v) k=rt a b co p k-L (a k)+L (b k):=by
 show co k-(p (a k)+L (a k))+(p (b k)+L (b k))=co k-p (a k)+p (b k)-L (a k)+L (b k)
 lia
section
variable{rest:Nat->Int}{pr:Nat->Int->Prop}{R W:List En}{nr:Nat->Option Int}{e:En}
theorem fW.raised(s:fW m a b lo hi co g p)(h:Rch rest (sd a b) (fr a b) (ln a b co p) (opn m lo hi g) n pr (R++[e]) W nr)(all:∀k by_,opn m lo hi g k by_->(∃u∈R,u.v=sd a b k by_)->pr k by_) :
  fW m a b lo hi co g (λv=>p v+lift (R++[e]) e.d v) where
 low:=s.low
 high:=s.high
 over:=λk hk c=>by
  rw[oK]at c;by_cases z:g k=lo k
  ·exact z
  ·have o:opn m lo hi g k (-1):=⟨hk,.inr ⟨rfl,z⟩⟩
   have q:=h.slack all (λk' b' o'=>s.nn o') o;have e1:sd a b k (-1)=b k:=rfl;have e2:fr a b k (-1)=a k:=rfl;have e3:ln a b co p k (-1) = - rt a b co p k:=by unfold ln;lia
   rw[e1,e2,e3]at q
   lia
 under:=λk hk c=>by
  rw[oK]at c;by_cases z:hi k=some (g k)
  ·exact z
  ·have o:opn m lo hi g k 1:=⟨hk,.inl ⟨rfl,z⟩⟩
   have q:=h.slack all (λk' b' o'=>s.nn o') o;have e1:sd a b k 1=a k:=rfl;have e2:fr a b k 1=b k:=rfl;have e3:ln a b co p k 1=rt a b co p k:=by unfold ln;lia
   rw[e1,e2,e3]at q
   lia
theorem FQ(h:Rch rest (sd a b) (fr a b) (ln a b co p) (opn m lo hi g) n pr R W nr){i c:Nat}{ps:List (Nat×Int)}(q:Back (sd a b) R i ps c)(D:Int):∀d∈ps,rt a b co (λv=>p v+lift R D v) d.1=0:=by
 intro d hd;obtain⟨o,j,u,_,gj,k1,b1,_⟩:=q.open_ h d hd;have hb:u.by_≠0:=by
  rw[b1];rcases fC o with x | x<;>rw[x]<;>decide
 obtain⟨_,_,t,_⟩:=h.tight gj hb D;rw[k1,b1]at t;rw[oK];rcases fC o with x | x
 ·rw[x]at t;have e1:sd a b d.1 1=a d.1:=rfl;have e2:fr a b d.1 1=b d.1:=rfl;have e3:ln a b co p d.1 1=rt a b co p d.1:=by unfold ln;lia
  rw[e1,e2,e3]at t;exact t
 ·rw[x]at t;have e1:sd a b d.1 (-1)=b d.1:=rfl;have e2:fr a b d.1 (-1)=a d.1:=rfl;have e3:ln a b co p d.1 (-1) = - rt a b co p d.1:=by unfold ln;lia
  rw[e1,e2,e3]at t
  lia
end
theorem fW.push{ps:List (Nat×Int)}{x:Int}(s:fW m a b lo hi co g p)(hx:0<=x)(nd:(ps.map (·.1)).Nodup)(op:∀d∈ps,opn m lo hi g d.1 d.2)(zero:∀d∈ps,rt a b co p d.1=0)
  (up:∀d∈ps,d.2=1->∀h,hi d.1=some h->x<=h-g d.1) (dn:∀d∈ps,d.2 = -1->x<=g d.1-lo d.1):fW m a b lo hi co (dP g x ps) p:=by
 have at_:∀k,(dP g x ps k=g k/\k∉ps.map (·.1))\/(∃by_,(k,by_)∈ps/\dP g x ps k=g k+by_*x):=λk=>by
  by_cases z:k∈ps.map (·.1)
  ·obtain⟨d,hd,rfl⟩:=Zh.mp z;exact .inr (xWP d.2 hd (oN x ps g nd hd))
  ·exact .inl ⟨jT x ps g z,z⟩
 refine⟨λk hk=>?_,λk hk h hh=>?_,λk hk c=>?_,λk hk c=>?_⟩
 ·have l:=s.low k hk;rcases at_ k with⟨e,_⟩ | ⟨by_,hd,e⟩
  ·rw[e];exact l
  ·rw[e];rcases fC (op _ hd) with y | y
   ·rw[show by_=1 from y];lia
   ·have:=dn _ hd y;rw[show by_ = -1 from y];have t:x<=g k-lo k:=this
    lia
 ·have l:=s.high k hk h hh;rcases at_ k with⟨e,_⟩ | ⟨by_,hd,e⟩
  ·rw[e];exact l
  ·rw[e];rcases fC (op _ hd) with y | y
   ·have t:x<=h-g k:=up _ hd y h hh;rw[show by_=1 from y];lia
   ·rw[show by_ = -1 from y];lia
 ·rcases at_ k with⟨e,_⟩ | ⟨by_,hd,e⟩
  ·rw[e];exact s.over k hk c
  ·have t:rt a b co p k=0:=zero _ hd
   lia
 ·rcases at_ k with⟨e,_⟩ | ⟨by_,hd,e⟩
  ·rw[e];exact s.under k hk c
  ·have t:rt a b co p k=0:=zero _ hd
   lia
end
theorem vM(m:Nat)(f g:Nat->Int):sm m (λk=>f k+g k)=sm m f+sm m g:=by
 induction m with
 |zero=>rfl
 |succ m ih=>rw[cJ,cJ,cJ,ih];lia
theorem rO(m:Nat)(f g:Nat->Int):sm m (λk=>f k-g k)=sm m f-sm m g:=by
 induction m with
 |zero=>rfl
 |succ m ih=>rw[cJ,cJ,cJ,ih];lia
theorem rP(m:Nat):sm m (λ_=>0)=0:=by
 induction m with
 |zero=>rfl
 |succ m ih=>rw[cJ,ih];rfl
theorem uB{m:Nat}{f:Nat->Int}(h:∀k,k<m->0<=f k):0<=sm m f:=by
 induction m with
 |zero=>exact Int.le_refl _
 |succ m ih =>
  rw[cJ];have:=ih λk hk=>h k (by lia);have:=h m (by lia)
  lia
theorem GM{m:Nat}{f:Nat->Int}(z:sm m f=0){v:Nat}(hv:v<m)(h:f v≠0):∃u,u<m/\0<f u:=by
 by_cases c:∃u,u<m/\0<f u
 ·exact c
 ·exfalso;have neg:∀k,k<m->f k<=0:=λk hk=>Int.not_lt.mp λx=>c (xWP k hk x);have key:∀j,j<=m->sm j f<=0/\(v<j->sm j f<0):=by
   intro j;induction j with
   |zero=>exact λ_=>⟨Int.le_refl _,λx=>Yg x (Nat.not_lt_zero _)⟩
   |succ j ih =>
    intro hj;obtain⟨i1,i2⟩:=ih (by lia);have n1:=neg j (by lia);rw[cJ];refine⟨by lia,λx=>?_⟩;by_cases e:v=j
    ·subst e
     lia
    ·have:=i2 (by lia)
     lia
  have:=(key m (ZC _)).2 hv
  lia
theorem sO{n c l:Nat}{r r':Nat->Int}{x:Int}(hc:c<n)(e:∀v,v<n->r' v=r v-(if c=v then x else 0)+(if l=v then x else 0))(h1:x<=r c)(h2:x<=- r l)(hx:1<=x) :
  sm n (λv=>max (r' v) 0)=sm n (λv=>max (r v) 0)-x:=by
 have ne:c≠l:=λz=>by subst z;lia
 have:=GN hc (λv=>max (r v) 0) (-x);rw[<-Int.sub_eq_add_neg]at this;rw[<-this];refine bY λv hv=>?_;rw[e v hv];by_cases z:v=c
 ·subst z;rw[Yb rfl,Ya (λy=>ne y.symm),Yb rfl]
  lia
 ·rw[Ya (λy=>z y.symm),Ya z];by_cases y:l=v
  ·subst y;rw[Yb rfl]
   lia
  ·rw[Ya y]
   lia
def ss(S:List Nat)(f:Nat->Int):Int:=(S.map f).sum
theorem jS(v:Nat)(S:List Nat)(f:Nat->Int):ss (v::S) f=f v+ss S f:=by unfold ss;rw[ZJ,List.sum_cons]
theorem BV{S:List Nat}(nd:S.Nodup)(m:Nat)(c:Nat->Nat)(g:Nat->Int):ss S (λv=>sm m (λk=>if c k=v then g k else 0))=sm m (λk=>if c k∈S then g k else 0):=by
 induction S with
 |nil =>
  rw[bY (g:=λ_=>0) λk _=>Ya (!5),rP];rfl
 |cons v S ih =>
  rw[List.nodup_cons]at nd;rw[jS,ih nd.2,<-vM];refine bY λk _=>?_;by_cases z:c k=v
  ·rw[Yb z,Ya (λy=>nd.1 (z▸y)),Yb (by rw[z];exact .head _)]
   lia
  ·rw[Ya z];by_cases y:c k∈S
   ·rw[Yb y,Yb (.tail _ y)];lia
   ·rw[Ya y,Ya (λw=>(Zn.mp w).elim z y)];rfl
theorem QZ{S:List Nat}(nd:S.Nodup)(m:Nat)(a b:Nat->Nat)(need g:Nat->Int):ss S (rs m a b need g)=ss S need-sm m (λk=>if a k∈S then g k else 0)+sm m (λk=>if b k∈S then g k else 0):=by
 rw[<-BV nd,<-BV nd];clear nd;induction S with
 |nil=>rfl
 |cons v S ih =>
  rw[jS,jS,jS,jS,ih];unfold rs
  lia
theorem IL{m:Nat}{a b:Nat->Nat}{lo:Nat->Int}{hi:Nat->Option Int}{need g:Nat->Int}{S:List Nat}(nd:S.Nodup)(shut:∀k by_,opn m lo hi g k by_->sd a b k by_∈S->fr a b k by_∈S) :
  (∀k,k<m->a k∈S->b k∉S->hi k=some (g k))/\(∀k,k<m->b k∈S->a k∉S->g k=lo k) /\
  ss S (rs m a b need g)=ss S need+sm m (λk=>if a k∈S then (if b k∈S then 0 else-g k) else if b k∈S then g k else 0):=by
 refine(xPP (λk hk h1 h2=>?_) (λk hk h1 h2=>?_) ?_)
 ·by_cases z:hi k=some (g k)
  ·exact z
  ·exact Yg (shut k 1 ⟨hk,.inl ⟨rfl,z⟩⟩ h1) h2
 ·by_cases z:g k=lo k
  ·exact z
  ·exact Yg (shut k (-1) ⟨hk,.inr ⟨rfl,z⟩⟩ h1) h2
 ·rw[QZ nd];have:sm m (λk=>if a k∈S then (if b k∈S then 0 else-g k) else if b k∈S then g k else 0)=sm m (λk=>if b k∈S then g k else 0)-sm m (λk=>if a k∈S then g k else 0):=by
   rw[<-rO];refine bY λk _=>?_;by_cases x:a k∈S<;>by_cases y:b k∈S<;>simp only[x,y,if_true,if_false]<;>lia
  rw[this]
  lia
end FL
namespace FL
open SO
def Dn(w:List (List Int)):Prop:=w.Pairwise λx y=>lx x y=false
theorem vX{e x y:List Int}(h:lx e y=true)(g:lx x y=false):lx e x=true:=by
 have a:=f9 [e,x,y] (x:=e) (y:=y) (!5) (!5);have b:=f9 [e,x,y] (x:=x) (y:=y) (!5) (!5);have c:=f9 [e,x,y] (x:=e) (y:=x) (!5) (!5);rw[h]at a;rw[g]at b;rw[<-c];have a':=Yf a;have b':=of_decide_eq_false b;exact Ye (by omega)
theorem MH{e x y:List Int}(h:lx e x=false)(g:lx x y=false):lx e y=false:=by
 cases z:lx e y with
 |false=>rfl
 |true=>rw[vX z g]at h;cases h
theorem OP{w:List (List Int)}{e:List Int}{i:Nat}(h:Dn w)(hi:i<=w.length)(f:∀j x,j<i->w[j]?=some x->lx e x=true)(b:∀j x,i<=j->w[j]?=some x->lx e x=false):Dn (w.take i++e::w.drop i):=by
 have tk:∀x∈w.take i,lx e x=true:=λx hx=>by
  obtain⟨j,hj,rfl⟩:=Yy.mp hx;rw[Yw]at hj;refine f j _ (by lia) ?_;rw[List.getElem_take,Zz (by lia)]
 have dr:∀x∈w.drop i,lx e x=false:=λx hx=>by
  obtain⟨j,hj,rfl⟩:=Yy.mp hx;rw[Yp]at hj;refine b (i+j) _ (by lia) ?_;rw[List.getElem_drop,Zz (by lia)]
 have h':(w.take i++w.drop i).Pairwise λx y=>lx x y=false:=by rw[List.take_append_drop];exact h
 obtain⟨h1,h2,h3⟩:=List.pairwise_append.mp h';refine List.pairwise_append.mpr (xPP h1 (List.pairwise_cons.mpr ⟨dr,h2⟩) (λx hx y hy=>?_));rcases Zn.mp hy with rfl | hy
 ·cases z:lx x y with
  |false=>rfl
  |true =>
   have:=vX z (x:=y) (vW y);have q:=tk x hx;have a:=f9 [x,y] (x:=x) (y:=y) (!5) (!5);have b:=f9 [x,y] (x:=y) (y:=x) (!5) (!5);rw[z]at a;rw[q]at b;have a':=Yf a;have b':=Yf b
   lia
 ·exact h3 x hx y hy
theorem MI{w:List (List Int)}{e x:List Int}{m:Nat}(h:Dn w)(hm:w[m]?=some x)(z:lx e x=true):∀j y,j<m+1->w[j]?=some y->lx e y=true:=λj y hj hy=>by
 by_cases c:j=m
 ·subst c;rw[hm]at hy;cases hy;exact z
 ·obtain⟨h1,e1⟩:=Zj.mp hy;obtain⟨h2,e2⟩:=Zj.mp hm;have:=List.pairwise_iff_getElem.mp h j m h1 h2 (by lia);rw[e1,e2]at this;exact vX z this
theorem MJ{w:List (List Int)}{e x:List Int}{m:Nat}(h:Dn w)(hm:w[m]?=some x)(z:lx e x=false):∀j y,m<=j->w[j]?=some y->lx e y=false:=λj y hj hy=>by
 by_cases c:j=m
 ·subst c;rw[hm]at hy;cases hy;exact z
 ·obtain⟨h1,e1⟩:=Zj.mp hy;obtain⟨h2,e2⟩:=Zj.mp hm;have:=List.pairwise_iff_getElem.mp h m j h2 h1 (by lia);rw[e1,e2]at this;exact MH z this
theorem AY{w:List (List Int)}{d d':Int}{r r':List Int}(h:Dn (w++[d::r]))(hx:(d'::r')∈w):d<=d':=by
 have:=(List.pairwise_append.mp h).2.2 _ hx _ (.head _);unfold lx at this;by_cases z:d'=d
 ·lia
 ·rw[Ya z]at this;have:=of_decide_eq_false this
  lia
theorem fW.step{m n c:Nat}{a b:Nat->Nat}{lo:Nat->Int}{hi:Nat->Option Int}{co g p need:Nat->Int}{pr:Nat->Int->Prop}{R W:List En}{nr:Nat->Option Int}{e:En}{ps:List (Nat×Int)}{x:Int}
  (s:fW m a b lo hi co g p) (h:Rch (rs m a b need g) (sd a b) (fr a b) (ln a b co p) (opn m lo hi g) n pr (R++[e]) W nr) (all:∀k by_,opn m lo hi g k by_->(∃u∈R,u.v=sd a b k by_)->pr k by_)
  (q:Back (sd a b) (R++[e]) R.length ps c) (hx:1<=x) (up:∀d∈ps,d.2=1->∀h,hi d.1=some h->x<=h-g d.1) (dn:∀d∈ps,d.2 = -1->x<=g d.1-lo d.1) :
  fW m a b lo hi co (dP g x ps) (λv=>p v+lift (R++[e]) e.d v)/\∀v,rs m a b need (dP g x ps) v=rs m a b need g v-(if c=v then x else 0)+(if e.v=v then x else 0):=by
 refine⟨(s.raised h all).push (by lia) (q.once h (λk b' o=>B9 k (fC o)) λk b' o=>fC o) (λd hd=>(q.open_ h d hd).1) (FQ h q e.d) up dn,λv=>?_⟩;refine D8 h (λk b' o=>fC o) (λk b' o=>o.1) x q g e ?_ v;rw[Zy (ZC _),Nat.sub_self];rfl
theorem OJ{n c:Nat}(hc:c<n)(f:Nat->Int)(x:Int):sm n (λv=>f v*if c=v then x else 0)=f c*x:=by
 have:=GN hc (λ_=>0) (f c*x);rw[rP,Int.zero_add]at this;rw[<-this];refine bY λv _=>?_;by_cases z:c=v
 ·subst z;rw[Yb rfl,Yb rfl];lia
 ·rw[Ya z,Ya (λy=>z y.symm),Int.mul_zero];rfl
theorem p9{n:Nat}(f:Nat->Int)(c:Nat->Nat)(g:Nat->Int):∀m,(∀k,k<m->c k<n)->sm n (λv=>f v*sm m (λk=>if c k=v then g k else 0))=sm m (λk=>f (c k)*g k)
 |0,_=>by
  rw[bY (g:=λ_=>0) λv _=>by rw[pZ,Int.mul_zero],rP];rfl
 |m+1,h=>by
  rw[cJ,<-p9 f c g m λk hk=>h k (by lia),<-OJ (h m (by lia)) f (g m),<-vM];refine bY λv _=>?_;rw[cJ,Int.mul_add]
theorem MZ{m n:Nat}{a b:Nat->Nat}{co g p need:Nat->Int}(z:∀v,v<n->rs m a b need g v=0)(ha:∀k,k<m->a k<n)(hb:∀k,k<m->b k<n) :
  sm m (λk=>co k*g k)=sm n (λv=>p v*need v)+sm m (λk=>rt a b co p k*g k):=by
 have e1:sm n (λv=>p v*need v)=sm m (λk=>p (a k)*g k)-sm m (λk=>p (b k)*g k):=by
  rw[<-p9 p a g m ha,<-p9 p b g m hb,<-rO];refine bY λv hv=>?_;have:=z v hv;unfold rs at this;rw[<-Int.mul_sub];congr 1
  lia
 rw[e1,<-rO,<-vM];refine bY λk _=>?_;show co k*g k=p (a k)*g k-p (b k)*g k+(co k-p (a k)+p (b k))*g k;rw[Int.add_mul,Int.sub_mul]
 lia
end FL
namespace AW
abbrev Ts:=List (Int×Int)
abbrev Os:=List (List Int)
def plc(ts:Ts)(e:Nat):Int:=((ts[e / 2]?).map λt=>if e%2=0 then t.1 else t.2).getD (-1)
def InW(m:Int)(ts:Ts):Prop:=∀t∈ts,(0<=t.1/\t.1<m)/\0<=t.2/\t.2<m
def all2(ts:Ts):List Int:=(ZS (!2)).map λn:Nat=>(n:Int)
def endsAt(ts:Ts)(p:Int):List Int:=(all2 ts).filter λe=>plc ts e.toNat==p
inductive Rch(ts:Ts):Int->Prop
 |zero:Rch ts 0
 |fwd {t:Int×Int}:t∈ts->Rch ts t.1->Rch ts t.2
 |bwd {t:Int×Int}:t∈ts->Rch ts t.2->Rch ts t.1
def DA(m:Int)(ts:Ts):Prop:=∀p:Int,0<=p->p<m->Rch ts p
def Fit(ts:Ts)(os:Os):Prop:=∀(i:Nat) (o:List Int),os[i]?=some o->o.length<=4/\o.Perm (endsAt ts i)
def SG(m:Int)(ts:Ts):Prop:=(1<=m/\m<=200)/\1<=ts.length/\ts.length<=400
def DF(m:Int)(ts:Ts)(os:Os):Prop:=SG m ts/\InW m ts/\(os.length:Int)=m/\Fit ts os/\DA m ts
theorem yB{ts:Ts}{e:Int}:e∈all2 ts↔0<=e/\e<2*ts.length:=by
 unfold all2;rw[Zh];constructor
 ·rintro⟨n,hn,rfl⟩;have:=Zs.mp hn
  lia
 ·rintro⟨h0,h1⟩;exact(xWP e.toNat (Zs.mpr (by lia)) (by lia))
theorem oR{α β:Type}{f:α->β}(hf:∀a b,f a=f b->a=b):∀{l:List α},l.Nodup->(l.map f).Nodup
 |[],_=>List.nodup_nil
 |a::l,h=>by
  obtain⟨h1,h2⟩:=List.nodup_cons.mp h;rw[ZJ,List.nodup_cons];refine⟨λq=>?_,oR hf h2⟩;obtain⟨b,hb,e⟩:=Zh.mp q;exact h1 (hf _ _ e▸hb)
theorem AQ(ts:Ts):(all2 ts).Nodup:=oR (λa b h=>by lia) ZD
theorem AS{ts:Ts}{p e:Int}:e∈endsAt ts p↔(0<=e/\e<2*ts.length)/\plc ts e.toNat=p:=by
 unfold endsAt;rw[Yz,yB,beq_iff_eq]
theorem vV(ts:Ts)(p:Int):(endsAt ts p).Nodup:=(AQ ts).filter _
theorem HG{l l':List Int}(h:l.Nodup)(h':l'.Nodup)(e:∀a,a∈l↔a∈l'):l.Perm l':=(List.perm_ext_iff_of_nodup h h').mpr e
theorem DZ{l l':List Int}(p:l.Perm l')(h:l.Pairwise (·<=·))(h':l'.Pairwise (·<=·)):l=l' :=
 p.eq_of_pairwise (λa b _ _ h1 h2=>Int.le_antisymm h1 h2) h h'
theorem KH(ts:Ts):(all2 ts).Pairwise (·<=·):=by
 unfold all2;rw[List.pairwise_map];exact List.pairwise_lt_range.imp λh=>by lia
theorem DO(ts:Ts)(p:Int):(endsAt ts p).Pairwise (·<=·):=(KH ts).filter _
theorem LI{ts:Ts}{t:Int×Int}{e:Nat}(h:e<2*ts.length):plc (ts++[t]) e=plc ts e:=by
 unfold plc;rw[Zx (by lia)]
theorem G8(ts:Ts)(t:Int×Int):plc (ts++[t]) (!2)=t.1:=by
 unfold plc;rw[show 2*ts.length / 2=ts.length by lia,Yx];show(if 2*ts.length%2=0 then t.1 else t.2)=t.1;rw[Yb (by lia)]
theorem G7(ts:Ts)(t:Int×Int):plc (ts++[t]) (!51)=t.2:=by
 unfold plc;rw[show(!51) / 2=ts.length by lia,Yx];show(if (!51)%2=0 then t.1 else t.2)=t.2;rw[Ya (by lia)]
theorem E7(ts:Ts)(t:Int×Int):all2 (ts++[t])=all2 ts++[(2*ts.length:Int),2*ts.length+1]:=by
 unfold all2;rw[Zm,show 2*(ts.length+[t].length)=2*ts.length+1+1 by simp;lia,ZI,ZI];simp
theorem yM(ts:Ts)(t:Int×Int)(p:Int):endsAt (ts++[t]) p=endsAt ts p++((if t.1=p then [(2*ts.length:Int)] else [])++if t.2=p then [(2*ts.length+1:Int)] else []):=by
 unfold endsAt;rw[E7,List.filter_append];congr 1
 ·refine List.filter_congr λe he=>?_;obtain⟨h0,h1⟩:=yB.mp he;rw[LI (by lia)]
 ·have e0:plc (ts++[t]) (2*(ts.length:Int)).toNat=t.1:=by rw[show(2*(ts.length:Int)).toNat=2*ts.length by lia,G8]
  have e1:plc (ts++[t]) (2*(ts.length:Int)+1).toNat=t.2:=by rw[show(2*(ts.length:Int)+1).toNat=2*ts.length+1 by lia,G7]
  simp only[List.filter_cons,List.filter_nil,e0,e1,beq_iff_eq];by_cases h1:t.1=p<;>by_cases h2:t.2=p<;>simp[h1,h2]
def nb(t:Int×Int)(p:Int):List Int:=(if t.1=p then [t.2] else [])++if t.2=p then [t.1] else []
def nbs(ts:Ts)(p:Int):List Int:=ts.flatMap λt=>nb t p
theorem IH(ts:Ts)(t:Int×Int)(p:Int):nbs (ts++[t]) p=nbs ts p++nb t p:=by
 unfold nbs;rw[List.flatMap_append];simp
theorem qJ{ts:Ts}{p q:Int}:q∈nbs ts p↔∃t∈ts,(t.1=p/\t.2=q)\/(t.2=p/\t.1=q):=by
 unfold nbs nb;rw[List.mem_flatMap];constructor
 ·rintro⟨t,ht,h⟩;refine(xWP t ht ?_);rcases Zf.mp h with h | h
  ·split at h
   ·exact .inl ⟨by assumption,(Zb.mp h).symm⟩
   ·cases h
  ·split at h
   ·exact .inr ⟨by assumption,(Zb.mp h).symm⟩
   ·cases h
 ·rintro⟨t,ht,⟨h1,h2⟩ | ⟨h1,h2⟩⟩
  ·exact(xWP t ht (ZP _ (by rw[Yb h1,h2];simp)))
  ·exact(xWP t ht (ZO _ (by rw[Yb h1,h2];simp)))
theorem Rch.step{ts:Ts}{p q:Int}(h:Rch ts p)(hq:q∈nbs ts p):Rch ts q:=by
 obtain⟨t,ht,⟨rfl,rfl⟩ | ⟨rfl,rfl⟩⟩:=qJ.mp hq
 ·exact h.fwd ht
 ·exact h.bwd ht
theorem II{m:Int}{ts:Ts}(h:InW m ts){p q:Int}(hq:q∈nbs ts p):0<=q/\q<m:=by
 obtain⟨t,ht,⟨rfl,rfl⟩ | ⟨rfl,rfl⟩⟩:=qJ.mp hq
 ·exact(h t ht).2
 ·exact(h t ht).1
theorem Rch.within{ts:Ts}{S:Int->Prop}(h0:S 0)(hs:∀p,S p->∀q∈nbs ts p,S q){p:Int}(h:Rch ts p):S p:=by
 induction h with
 |zero=>exact h0
 |fwd ht _ ih=>exact hs _ ih _ (qJ.mpr (xWP _ ht (.inl ⟨rfl,rfl⟩)))
 |bwd ht _ ih=>exact hs _ ih _ (qJ.mpr (xWP _ ht (.inr ⟨rfl,rfl⟩)))
structure fW(m:Nat)(ts:Ts)(R:List Bool)(W:List Int):Prop where
 len:R.length=m
 zero:R[0]?=some true
 ok:∀p:Nat,R[p]?=some true->Rch ts p
 win:∀p∈W,∃n:Nat,p=n/\R[n]?=some true
 cl:∀p:Nat,R[p]?=some true->(p:Int)∈W\/∀q∈nbs ts p,R[q.toNat]?=some true
structure kY(m:Nat)(ts:Ts)(R:List Bool)(W:List Int)(p0 k:Nat):Prop where
 len:R.length=m
 zero:R[0]?=some true
 ok:∀p:Nat,R[p]?=some true->Rch ts p
 win:∀p∈W,∃n:Nat,p=n/\R[n]?=some true
 own:R[p0]?=some true
 cl:∀p:Nat,R[p]?=some true->(p:Int)∈W\/(p=p0/\∀(j:Nat) q,j<k->(nbs ts p0)[j]?=some q->R[q.toNat]?=some true)\/∀q∈nbs ts p,R[q.toNat]?=some true
theorem fW.start{m:Nat}{ts:Ts}(h:0<m):fW m ts ((ZS m).map λp=>decide (p=0)) [0] where
 len:=by simp
 zero:=by simp[h]
 ok:=λp hp=>by
  rw[Zk]at hp;cases e:(ZS m)[p]? with
  |none=>rw[e]at hp;cases hp
  |some n =>
   obtain⟨hn,rfl⟩:=Zj.mp e;rw[e]at hp;simp at hp;subst hp;exact .zero
 win:=λp hp=>(xWP 0 (by simpa using hp) (by simp[h]))
 cl:=λp hp=>by
  rw[Zk]at hp;cases e:(ZS m)[p]? with
  |none=>rw[e]at hp;cases hp
  |some n =>
   obtain⟨hn,rfl⟩:=Zj.mp e;rw[e]at hp;simp at hp;subst hp;exact .inl (!5)
theorem fW.done{m:Nat}{ts:Ts}{R:List Bool}(hin:InW m ts)(h:fW m ts R []):R.all id=true↔DA m ts:=by
 rw[ZE];constructor
 ·intro ha p h0 h1;obtain⟨n,rfl⟩:=Xy h0;have hn:n<R.length:=by rw[h.len];lia
  refine h.ok n ?_;rw[Zz hn];have:=ha _ (Zp hn);exact congrArg some this
 ·intro hw b hb;obtain⟨n,hn,rfl⟩:=Yy.mp hb;have hr:Rch ts (n:Int):=hw n (by lia) (by rw[h.len]at hn;lia);have e:=(hr.within (S:=λp=>0<=p/\R[p.toNat]?=some true) ⟨Int.le_refl _,h.zero⟩ λp hp q hq=>by
   obtain⟨k,rfl⟩:=Xy hp.1;refine⟨(II hin hq).1,?_⟩;rcases h.cl k (by simpa using hp.2) with z | z
   ·cases z
   ·exact z q hq).2
  rw[show(n:Int).toNat=n by lia,Zz hn]at e;exact Option.some.inj e
theorem kY.start{m:Nat}{ts:Ts}{R:List Bool}{W:List Int}{p0:Nat}(h:fW m ts R (W++[(p0:Int)])):kY m ts R W p0 0 where
 len:=h.len
 zero:=h.zero
 ok:=h.ok
 win:=λp hp=>h.win p (ZP _ hp)
 own:=by
  obtain⟨n,e,hn⟩:=h.win (p0:Int) (!5);have:n=p0:=by lia
  exact this▸hn
 cl:=λp hp=>by
  rcases h.cl p hp with z | z
  ·rcases Zf.mp z with z | z
   ·exact .inl z
   ·have:p=p0:=by have:=Zb.mp z;lia
    exact .inr (.inl ⟨this,λj q hj=>Yg hj (Nat.not_lt_zero _)⟩)
  ·exact .inr (.inr z)
theorem kY.skip{m:Nat}{ts:Ts}{R:List Bool}{W:List Int}{p0 k:Nat}{q:Int}(h:kY m ts R W p0 k)(hq:(nbs ts p0)[k]?=some q)(hr:R[q.toNat]?=some true):kY m ts R W p0 (k+1) where
 len:=h.len
 zero:=h.zero
 ok:=h.ok
 win:=h.win
 own:=h.own
 cl:=λp hp=>by
  rcases h.cl p hp with z | ⟨z1,z2⟩ | z
  ·exact .inl z
  ·refine .inr (.inl ⟨z1,λj q' hj hq'=>?_⟩);by_cases hjk:j<k
   ·exact z2 j q' hjk hq'
   ·have:j=k:=by lia
    subst this;rw[hq]at hq';cases hq';exact hr
  ·exact .inr (.inr z)
theorem kH{R:List Bool}{i j:Nat}(hi:i<R.length):(R.set i true)[j]?=some true↔j=i\/R[j]?=some true:=by
 by_cases e:i=j
 ·subst e;rw[ZL hi];simp
 ·rw[ZK e];constructor
  ·exact .inr
  ·rintro(z | z)
   ·exact Yg z.symm e
   ·exact z
theorem kY.reach{m:Nat}{ts:Ts}{R:List Bool}{W:List Int}{p0 k q:Nat}(h:kY m ts R W p0 k)(hq:(nbs ts p0)[k]?=some (q:Int))(hm:q<m):kY m ts (R.set q true) (W++[(q:Int)]) p0 (k+1):=by
 have hl:q<R.length:=by rw[h.len];exact hm
 have up:∀j:Nat,R[j]?=some true->(R.set q true)[j]?=some true:=λj hj=>(kH hl).mpr (.inr hj);have hrq:Rch ts q:=(h.ok p0 h.own).step (Zg hq);refine⟨by rw[ZR];exact h.len,up 0 h.zero,λp hp=>?_,λp hp=>?_,up _ h.own,λp hp=>?_⟩
 ·rcases(kH hl).mp hp with rfl | hp
  ·exact hrq
  ·exact h.ok p hp
 ·rcases Zf.mp hp with z | z
  ·obtain⟨n,e,hn⟩:=h.win p z;exact(xWP n e (up n hn))
  ·exact(xWP q (Zb.mp z) ((kH hl).mpr (.inl rfl)))
 ·rcases(kH hl).mp hp with rfl | hp
  ·exact .inl (!5)
  ·rcases h.cl p hp with z | ⟨z1,z2⟩ | z
   ·exact .inl (ZP _ z)
   ·refine .inr (.inl ⟨z1,λj q' hj hq'=>?_⟩);by_cases hjk:j<k
    ·exact up _ (z2 j q' hjk hq')
    ·have:j=k:=by lia
     subst this;rw[hq]at hq';cases hq';exact(kH hl).mpr (.inl (by lia))
   ·exact .inr (.inr λq' hq'=>up _ (z q' hq'))
theorem kY.finish{m:Nat}{ts:Ts}{R:List Bool}{W:List Int}{p0 k:Nat}(h:kY m ts R W p0 k)(hk:(nbs ts p0).length<=k):fW m ts R W where
 len:=h.len
 zero:=h.zero
 ok:=h.ok
 win:=h.win
 cl:=λp hp=>by
  rcases h.cl p hp with z | ⟨rfl,z2⟩ | z
  ·exact .inl z
  ·refine .inr λq hq=>?_;obtain⟨j,hj,e⟩:=Yy.mp hq;exact z2 j q (by lia) (by rw[Zz hj,e])
  ·exact .inr z
def iK(R:List Bool):Nat:=(R.filter (! ·)).length
theorem sX:∀{R:List Bool}{i:Nat},R[i]?=some false->iK (R.set i true)+1=iK R
 |[],_,h=>by simp at h
 |b::R,0,h=>by
  have e:b=false:=by simpa using h
  subst e;simp[iK]
 |b::R,i+1,h=>by
  have h':R[i]?=some false:=by simpa using h
  have ih:=sX h';unfold iK at ih ⊢;rw[List.set_cons_succ];cases b<;>simp<;>lia
end AW
namespace L2
open PySem PySem.Spec PyProof.Rows
theorem scm{N P:List Str}{sc:Scope}(a:sc.kind=.function:=by rfl)(b:sc.isCoroutine=false:=by rfl)(c:sc.isGenerator=false:=by rfl)(d:N.Nodup:=by decide +kernel)(e:N.take P.length=P:=by rfl)(f:∀x∈P,sc.names.lookup x=some .local\/sc.names.lookup x=some .cell:=by decide +kernel)(g:∀y∈sc.names,y.2≠.free:=by decide +kernel):dU N P sc:=⟨a,b,c,d,e,f,g⟩
structure Fn4(K:PySem.W.Frag)(mg:Str->Option Value)(x:Str)(s:Stmt)(ps:List Str)(a:Addr)(d:FuncData):Prop where
 F:Fun K x x s a d
 m:mg x=some (.ref a)
 k:PySem.W.keepIn K (.ref a)=true
 b:Binds K d ps []
abbrev FnX(K:PySem.W.Frag)(x:Str)(s:Stmt):Prop:=∃f:Addr,PySem.W.nsIn K ZV x=some (some (.ref f))/\∃(oc:Value) (od:Option Addr) (kV dc pm:Value) (an:Option Addr) (cd ct:Value) (sl:Array (Option Value)),K.lookup f=some ⟨oc,od,.func (PySem.W.fnOf x x (fT s) (eO s) (bQ s) .none kV dc pm an cd ct),sl⟩/\PySem.W.codeIn K cd x=true/\PySem.W.keepIn K (.ref f)=true
theorem UB{K:PySem.W.Frag}{mg:Str->Option Value}{h:Heap}{x:Str}{s:Stmt}{ps:List Str}(X:K.In h)(G:h.Ns ZV mg)(e:FnX K x s)(hb:∀(kV doc pm:Value) (an:Option Addr) (cdv ct:Value) (us:List Value),us.length=ps.length->bindArgs (PySem.W.fnOf x x (fT s) (eO s) (bQ s) .none kV doc pm an cdv ct) ⟨us,[]⟩=pure (ps.zip us)):∃f d,Fn4 K mg x s ps f d:=by
 obtain⟨f,a,oc,od,kV,dc,pm,an,cd,ct,sl,l,c,k⟩:=e;have F:=A3 (st:=s) l c k;exact(xWW f _ ⟨ F,PySem.W.mg_of X G a,k,F.binds hb⟩)
theorem QB{K:PySem.W.Frag}{mg:Str->Option Value}{h:Heap}{x:Str}{s:Stmt}{ps:List Str}(X:K.In h)(G:h.Ns ZV mg)(e:FnX K x s)(hb:∀(kV doc pm:Value) (an:Option Addr) (cdv ct:Value) (us:List Value),us.length=ps.length->bindArgs (PySem.W.fnOf x x (fT s) (eO s) (bQ s) .none kV doc pm an cdv ct) ⟨us,[]⟩=pure (ps.zip us)):∃f d,Fn4 K mg x s ps f d/\∀(s:Shared) (us:List Value),us.length=ps.length->BindsTo s d ⟨us,[]⟩ (ps.zip us):=by
 obtain⟨f,a,oc,od,kV,dc,pm,an,cd,ct,sl,l,c,k⟩:=e;have F:=A3 (st:=s) l c k;exact(bM f _ ⟨F,PySem.W.mg_of X G a,k,F.binds hb⟩ (λs us hl=>.of_eq (hb _ _ _ _ _ _ us hl)))
theorem cX{X:Cx}{CX:CXT}{k:Nat}{f:Addr}{fd:FuncData}{ps:List Str}{sp:Sp}{E:XK}{x:Str}{p pos:Pos}{e:Expr}{es:List Expr}{s:Stmt}{t:TA}(F:j8 X.prog X.w X.K X.mg X.base CX k f fd ps sp){j:Nat}(hr:fV j X.A)(c:Fn4 X.K X.mg x s ps f fd)(hx:pD CX X E)
  (ha:PA X (e::es) t) (hj:k<=j:=by decide) (hg:Gl X x:=by rfl) (hdb:(!48)=false:=by decide) (he:starEach (e::es) X.env=(false,eval e X.env)::starEach es X.env:=by rfl) (hpl:(backTo pos (starEach es X.env)).any (·.1)=false:=by rfl) :
  PE X (.Call (.Name x p) (e::es) [] pos) (ND sp [] E t):=LP F (hr.mono hj) hg c.m c.k c.b .nil hx ha hdb he hpl
structure Mth(T:String)(name:Str)(id:String):Prop where
 a:PlainAttrs T
 b:Slot T name id
 c:typeOf (.builtin id)=pure (.type "method_descriptor")
theorem mAp:Mth "list" "append" "list.append":=⟨YO,PySem.F.slot_list_append,PySem.F.type_list_append⟩
theorem mSp:Mth "str" "split" "str.split":=⟨PySem.F.plainAttrs_str,PySem.F.slot_str_split,PySem.F.type_str_split⟩
theorem mJn:Mth "str" "join" "str.join":=⟨PySem.F.plainAttrs_str,PySem.F.slot_str_join,PySem.F.type_str_join⟩
theorem mCo:Mth "str" "count" "str.count":=⟨PySem.F.plainAttrs_str,PySem.F.slot_str_count,PySem.F.type_str_count⟩
theorem TM{X:Cx}{o e:Expr}{es:List Expr}{to:TE}{t:TA}{name:Str}{apos cpos:Pos}{T id:String}{r:V->List V->Hp->VK->Prop}(M:Mth T name id)(hm:MtR X id r)(ho:PE X o to)(ha:PA X (e::es) t)
  (hbase:attributeBase o name X.env (eval o X.env)=eval o X.env:=by rfl)
  (hfew:((backTo cpos (starEach (e::es) X.env)).all (λx=>!x.1)&&(backToKw cpos (keywordEach [] X.env)).all (λx=>x.1.isSome)
   && decide ((e::es).length+([]:List Keyword).length+(if ([]:List Keyword).isEmpty then 0 else 1)<30))=true:=by rfl)
  (hline:(apos.endLine==cpos.line)=true:=by rfl) (hs:starEach (e::es) X.env=(false,eval e X.env)::starEach es X.env:=by rfl) (hplain:(backTo cpos (starEach es X.env)).any (·.1)=false:=by rfl) :
  PE X (.Call (.Attribute o name apos) (e::es) [] cpos) (tBM T r to t):=iU M.a M.b M.c hm ho ha hbase hfew hline hs hplain
theorem pI{X:Cx}{pos:Pos}(i:Nat){x:Str}{e:Expr}{te:TE}{pos':Pos}(hN:X.N.Nodup)(he:PE X e te)(hi:X.N[i]?=some x:=by rfl)(hx:Loc X.env.scope x:=by first | exact Or.inl rfl | exact Or.inr rfl)(hs:swapsWith e (some (.Name x pos')) pos.line X.env=pure false:=by rfl)(hf:X.fn x=true\/X.env.scope.names.lookup x=some .local:=by first | exact .inl rfl | exact .inr rfl | assumption) :
  PS X (.Assign [.Name x pos'] e pos) (DT te (cS i)):=G0 hN hi hx he hs hf
def fO(s:Stmt):List Str:=(fT s).args.map (·.arg)
def EN(s:Stmt):List Str:=((bQ s).names.filter λy=>match y.2 with | .local=>true | .cell=>true | _=>false).map (·.1)
structure Adr where
 a:Nat->Addr
 d:Nat->FuncData
 c:Nat->Addr
 ai:Addr
 di:FuncData
structure Prg where
 top:Nat->Stmt
 ix:List (Nat×Str)
 zs:List (Nat×Str)
 gs:List (Nat×Str×Int)
 cs:List (Nat×Str)
 si:Stmt
structure SrG(K:PySem.W.Frag)(c ai:Addr)(di:FuncData)(s:Stmt):Prop where
 l:Cls K c
 n0:iL K c "ways"
 n1:iL K c "prices"
 n2:iL K c "going"
 n3:iL K c "resting"
 n4:iL K c "doors"
 k:Mk K c ai
 F:Fun K "__init__" "Search.__init__" s ai di
 b:Binds K di ["self","net","prices"] []
abbrev HX(p:Prg)(K:PySem.W.Frag):Prop:=∃(y:Str) (c f:Addr) (oc:Value) (od:Option Addr) (kV dc pm:Value) (an:Option Addr) (cd ct:Value) (sl:Array (Option Value)),p.cs.lookup 0=some y/\PySem.W.nsIn K ZV y=some (some (.ref c))/\PySem.W.findIn K (.ref c) "__init__" = some (some (.ref f))/\PySem.W.isFn K (.ref f)=true /\
 K.lookup f=some ⟨oc,od,.func (PySem.W.fnOf "__init__" "Search.__init__" (fT p.si) (eO p.si) (bQ p.si) .none kV dc pm an cd ct),sl⟩/\PySem.W.codeIn K cd "Search.__init__" = true/\PySem.W.keepIn K (.ref f)=true /\
 PySem.W.plainGet K c Str.empty=true/\PySem.W.hasDictIn K c=true/\PySem.W.plainOver K c=true/\PySem.W.findIn K (.ref c) "__setattr__" = some (some (.builtin "object.__setattr__"))/\PySem.W.makesIn K c=true/\PySem.W.keepIn K (.ref c)=true/\PySem.W.findIn K (.ref c) "ways" = some none/\PySem.W.findIn K (.ref c) "prices" = some none/\PySem.W.findIn K (.ref c) "going" = some none/\PySem.W.findIn K (.ref c) "resting" = some none/\PySem.W.findIn K (.ref c) "doors" = some none /\
 ∀(kV doc pm:Value) (an:Option Addr) (cdv ct:Value) (us:List Value),us.length=3->bindArgs (PySem.W.fnOf "__init__" "Search.__init__" (fT p.si) (eO p.si) (bQ p.si) .none kV doc pm an cdv ct) ⟨us,[]⟩=pure ((["self","net","prices"]:List Str).zip us)
def AlL{β:Type}(p:Nat->β->Prop):List (Nat×β)->Prop
 |[]=>True
 |(i,x)::l=>p i x/\AlL p l
theorem AlL.get{β:Type}{p:Nat->β->Prop}:∀{l:List (Nat×β)},AlL p l->∀{i x},l.lookup i=some x->p i x
 |(j,y)::l,h,i,x,e=>by
  rw[List.lookup_cons]at e;split at e
  ·rename_i q
   cases e;exact Yi q▸h.1
  ·exact AlL.get h.2 e
def BA(x:Str)(s:Stmt):Prop:=∃n,(fO s).length=n/\∀(kV doc pm:Value) (an:Option Addr) (cdv ct:Value) (us:List Value),us.length=n->bindArgs (PySem.W.fnOf x x (fT s) (eO s) (bQ s) .none kV doc pm an cdv ct) ⟨us,[]⟩=pure ((fO s).zip us)
structure kX(p:Prg)(K:PySem.W.Frag)(mg:Str->Option Value)(t:Adr):Prop where
 fs:∀i x,p.ix.lookup i=some x->Fn4 K mg x (p.top i) (fO (p.top i)) (t.a i) (t.d i)
 bt:∀i x,p.ix.lookup i=some x->∀(s:Shared) (us:List Value),us.length=(fO (p.top i)).length->BindsTo s (t.d i) ⟨us,[]⟩ ((fO (p.top i)).zip us)
 zs:∀i x,p.zs.lookup i=some x->mg x=none
 gs:∀i x,p.gs.lookup i=some x->∃q,mg x.1=some (.int x.2 q)
 cs:∀i x,p.cs.lookup i=some x->mg x=some (.ref (t.c i))
 ss:∀i x,p.ix.lookup i=some x->dU (EN (p.top i)) (fO (p.top i)) (bQ (p.top i))
 x:SrG K (t.c 0) t.ai t.di p.si
theorem kX.f{p:Prg}{K:PySem.W.Frag}{mg:Str->Option Value}{t:Adr}(T:kX p K mg t)(i:Nat){x:Str}(h:p.ix.lookup i=some x:=by rfl):Fn4 K mg x (p.top i) (fO (p.top i)) (t.a i) (t.d i):=T.fs i x h
theorem kX.z{p:Prg}{K:PySem.W.Frag}{mg:Str->Option Value}{t:Adr}(T:kX p K mg t)(i:Nat){x:Str}(h:p.zs.lookup i=some x:=by rfl):mg x=none:=T.zs i x h
theorem kX.m{p:Prg}{K:PySem.W.Frag}{mg:Str->Option Value}{t:Adr}(T:kX p K mg t)(i:Nat){x:Str}(h:p.cs.lookup i=some x:=by rfl):mg x=some (.ref (t.c i)):=T.cs i x h
abbrev OkG(p:Prg)(P:Program)(w:World)(K:PySem.W.Frag)(mg:Str->Option Value)(base:Heap)(t:Adr)(CX:CXT)(i k:Nat)(sp:Sp):Prop:=j8 P w K mg base CX k (t.a i) (t.d i) (fO (p.top i)) sp
theorem kX.mk'{p:Prg}{K:PySem.W.Frag}{mg:Str->Option Value}{h:Heap}(X:K.In h)(G:h.Ns ZV mg)
  (hf:AlL (λi x=>FnX K x (p.top i)/\BA x (p.top i)/\dU (EN (p.top i)) (fO (p.top i)) (bQ (p.top i))) p.ix)
  (hz:AlL (λ_ x=>PySem.W.nsIn K ZV x=some none) p.zs)
  (hg:AlL (λ_ x=>∃q,PySem.W.nsIn K ZV x.1=some (some (.int x.2 q))) p.gs)
  (hc:AlL (λ_ x=>∃c,PySem.W.nsIn K ZV x=some (some (.ref c))) p.cs) (hx:HX p K) (L:Nat) {y:Str}(hL:p.ix.lookup L=some y):∃t,kX p K mg t:=by
 have mk:∀i x,p.ix.lookup i=some x->∃f d,Fn4 K mg x (p.top i) (fO (p.top i)) f d/\∀(s:Shared) (us:List Value),us.length=(fO (p.top i)).length->BindsTo s d ⟨us,[]⟩ ((fO (p.top i)).zip us):=λi x e=>by
  obtain⟨h1,⟨n,hn,h2⟩,_⟩:=hf.get e;exact QB X G h1 λ_ _ _ _ _ _ us hl=>h2 _ _ _ _ _ _ us (hl.trans hn)
 obtain⟨f0,d0,-⟩:=mk L y hL
 haveI:Nonempty FuncData:=⟨d0⟩
 have same:∀{x:Str}{c d:Addr},PySem.W.nsIn K ZV x=some (some (.ref c))->PySem.W.nsIn K ZV x=some (some (.ref d))->c=d:=λa b=>by have:=a.symm.trans b;cases this;rfl
 let A:Nat->Addr:=λi=>Classical.epsilon λa=>∀x,p.ix.lookup i=some x->mg x=some (.ref a)
 let D:Nat->FuncData:=λi=>Classical.epsilon λd=>∀x,p.ix.lookup i=some x->Fn4 K mg x (p.top i) (fO (p.top i)) (A i) d/\∀(s:Shared) (us:List Value),us.length=(fO (p.top i)).length->BindsTo s d ⟨us,[]⟩ ((fO (p.top i)).zip us)
 let C:Nat->Addr:=λi=>Classical.epsilon λa=>∀x,p.cs.lookup i=some x->PySem.W.nsIn K ZV x=some (some (.ref a))
 have hA:∀i x,p.ix.lookup i=some x->mg x=some (.ref (A i)):=λi x e=>by
  refine Classical.epsilon_spec (p:=λa=>∀x,p.ix.lookup i=some x->mg x=some (.ref a)) ?_ x e;obtain⟨f,d,h1,-⟩:=mk i x e;exact⟨f,λx' e'=>by rw[e]at e';cases e';exact h1.m⟩
 have hD:∀i x,p.ix.lookup i=some x->Fn4 K mg x (p.top i) (fO (p.top i)) (A i) (D i)/\∀(s:Shared) (us:List Value),us.length=(fO (p.top i)).length->BindsTo s (D i) ⟨us,[]⟩ ((fO (p.top i)).zip us):=λi x e=>by
  refine Classical.epsilon_spec (p:=λd=>∀x,p.ix.lookup i=some x->Fn4 K mg x (p.top i) (fO (p.top i)) (A i) d/\∀(s:Shared) (us:List Value),us.length=(fO (p.top i)).length->BindsTo s d ⟨us,[]⟩ ((fO (p.top i)).zip us)) ?_ x e;obtain⟨f,d,h1,h2⟩:=mk i x e;have e2:f=A i:=by have:=h1.m.symm.trans (hA i x e);cases this;rfl
  subst e2;exact⟨d,λx' e'=>by rw[e]at e';cases e';exact⟨h1,h2⟩⟩
 have hC:∀i x,p.cs.lookup i=some x->PySem.W.nsIn K ZV x=some (some (.ref (C i))):=λi x e=>by
  refine Classical.epsilon_spec (p:=λa=>∀x,p.cs.lookup i=some x->PySem.W.nsIn K ZV x=some (some (.ref a))) ?_ x e;obtain⟨c,h1⟩:=hc.get e;exact⟨c,λx' e'=>by rw[e]at e';cases e';exact h1⟩
 obtain⟨y1,c1,g1,oc,od,kV,dc,pm,an,cd,ct,sl,e1,e2,q1,q2,l1,l2,l3,p1,p2,p3,p4,p5,p6,n0,n1,n2,n3,n4,hb⟩:=hx;have ec1:=same e2 (hC 0 y1 e1);subst ec1;have F1:=A3 (st:=p.si) l1 l2 l3;refine⟨⟨A,D,C,g1,_⟩,⟨λi x e=>(hD i x e).1,λi x e=>(hD i x e).2,λi x e=>PySem.W.mg_none_of X G (hz.get e),λi x e=>(hg.get e).imp λq h=>PySem.W.mg_of X G h,λi x e=>PySem.W.mg_of X G (hC i x e),λi x e=>(hf.get e).2.2,⟨⟨p1,p2,p3,p4⟩,n0,n1,n2,n3,n4,⟨p5,q1,q2,p6⟩,F1,F1.binds hb⟩⟩⟩
def noL(K:PySem.W.Frag):Bool:=K.all λp=>match p.2.cls with | .type n=>n != "list" | _=>true
theorem PV{K:PySem.W.Frag}(h:noL K=true){a:Addr}{o:Obj}(e:K.lookup a=some o):o.cls≠.type "list":=λc=>by
 unfold noL at h;have hm:(a,o)∈K:=by
  clear h;induction K with
  |nil=>cases e
  |cons p l ih =>
   rw[List.lookup_cons]at e;split at e
   ·rename_i q;cases e;rw[Yi q];exact Zd
   ·exact Zw _ (ih e)
 have:=List.all_eq_true.mp h _ hm;dsimp only at this;rw[c]at this;simp at this
theorem QR(p:Prg)(L:Nat){k:Nat}{sp:Sp}{l:PySem.W.OpenLaw}{q:Program}{loose:List Str}{XP:(Str->Option Value)->Heap->Prop}{YP:World->Heap->Prop}{d:DefRec}{K:Params->PySem.W.Frag}(hn:l.most=some 63)(hdf:d.params.defaults=[])
  (hr:fV k callerA) (hL:p.ix.lookup L=some d.name) (hps:fO (p.top L)=[("_law_script" : Str)])
  (hY:∀(w:World) (h:Heap),YP w h->(K w.params).In h)
  (hsp:∀(a:Addr) (ns:List Int) (H:Hp),ns.length<=63->M9 H->SqL H a (!39)->sp [.ref a] H (λv _=>v=.bl true) λ_ _ _=>False)
  (ok:∀{w:World}{K:PySem.W.Frag}{mg:Str->Option Value}{base:Heap}{t:Adr},kX p K mg t->j8 l.prog w K mg base CX0 k (t.a L) (t.d L) (fO (p.top L)) sp)
  (hk:∀w:World,noL (K w.params)=true)
  (hf:∀w:World,AlL (λi x=>FnX (K w.params) x (p.top i)/\BA x (p.top i)/\dU (EN (p.top i)) (fO (p.top i)) (bQ (p.top i))) p.ix)
  (hz:∀w:World,AlL (λ_ x=>PySem.W.nsIn (K w.params) ZV x=some none) p.zs)
  (hg:∀w:World,AlL (λ_ x=>∃q,PySem.W.nsIn (K w.params) ZV x.1=some (some (.int x.2 q))) p.gs)
  (hc:∀w:World,AlL (λ_ x=>∃c,PySem.W.nsIn (K w.params) ZV x=some (some (.ref c))) p.cs) (hx:∀w:World,HX p (K w.params)) :
  PySem.W.WalkO q loose XP YP l.row.toRowW d [] (λf vs=>PySem.call f vs) :=
 KF (n:=63) (k:=k) (x:="_law_script") (CX:=λ_=>CX0) (sp:=λ_=>sp) hn (!1) hdf hr hY (λw mg fa h KX G hm=>by
  obtain⟨t,T⟩:=kX.mk' KX G (hf w) (hz w) (hg w) (hc w) (hx w) L hL;have e:=hm.symm.trans (T.f L hL).m;cases e;refine(xWP (t.d L) (λs u=>?_) (λbase _ _=>hps▸ok T));have:=T.bt L _ hL s [u] (by rw[hps];rfl);rw[hps]at this;exact this) (λw a o e=>PV (hk w) e) (λw H a ns hl hO hS=>hsp a ns H hl hO hS) λ_ _ _ _ _ z=>z
theorem kX.g{p:Prg}{K:PySem.W.Frag}{mg:Str->Option Value}{t:Adr}(T:kX p K mg t)(i:Nat){x:Str}{v:Int}(h:p.gs.lookup i=some (x,v):=by rfl):∃q,mg x=some (.int v q):=T.gs i _ h
theorem nB{X:Cx}{x:Str}{v:Int}{pos:Pos}(hm:∃q,X.mg x=some (.int v q))(hg:Gl X x:=by rfl)(hd:(!48)=false:=by decide):PE X (.Name x pos) (tC (.int v)):=by
 obtain⟨q,h⟩:=hm;exact LN (v:=.int v) hg h ⟨_,rfl⟩ hd
theorem IG{l:List Str}(h:decide l.Nodup=true):l.Nodup:=Yf h
theorem TL{X:Cx}{pos:Pos}(i:Nat){x:Str}(hi:X.N[i]?=some x:=by rfl)(hx:Loc X.env.scope x:=by first | exact Or.inl rfl | exact Or.inr rfl)(hf:X.fn x=true\/X.env.scope.names.lookup x=some .local:=by first | exact .inl rfl | exact .inr rfl | assumption)(hN:X.N.Nodup:=by first | assumption | exact IG rfl):PG X (.Name x pos) (cS i):=CD hN hi hx hf
theorem TK{X:Cx}{pos:Pos}(i:Nat){x:Str}{e:Expr}{te:TE}{pos':Pos}(he:PE X e te)(hi:X.N[i]?=some x:=by rfl)(hx:Loc X.env.scope x:=by first | exact Or.inl rfl | exact Or.inr rfl)(hs:swapsWith e (some (.Name x pos')) pos.line X.env=pure false:=by rfl)(hf:X.fn x=true\/X.env.scope.names.lookup x=some .local:=by first | exact .inl rfl | exact .inr rfl | assumption)(hN:X.N.Nodup:=by first | assumption | exact IG rfl) :
  PS X (.Assign [.Name x pos'] e pos) (DT te (cS i)):=G0 hN hi hx he hs hf
theorem kX.ok{p:Prg}{P:Program}{w:World}{K:PySem.W.Frag}{mg:Str->Option Value}{base:Heap}{t:Adr}(T:kX p K mg t)(i:Nat){x:Str}{k:Nat}{sp:Sp}(len:∀vs H Q E,sp vs H Q E->vs.length=(fO (p.top i)).length)
  (hbody:∀(cdv:Value) (A:Around) (outer:List Env) (s:Shared) (H:Hp) (vs:List V) (Q:VK) (E:XK),fV k (A.deeper (envOfC x (bQ (p.top i)) s.heap.objs.size (t.a i) cdv))->sp vs H Q E->(EN (p.top i)).Nodup ->
   let X:=(yO CX0 P w K mg base (EN (p.top i)) x (bQ (p.top i)) (t.a i) cdv A outer s H E).nox
   ∃t,PSs X (eO (p.top i)) t/\t { nx:=λ_ H'=>Q .non H',rt:=Q } (start (EN (p.top i)) vs) H) (h:p.ix.lookup i=some x:=by rfl):j8 P w K mg base CX0 (k+1) (t.a i) (t.d i) (fO (p.top i)) sp :=
 (T.fs i x h).F.ok (T.ss i x h) len λcdv A outer s H vs Q E hr q=>hbody cdv A outer s H vs Q E hr q (T.ss i x h).nd
theorem kX.okN{p:Prg}{P:Program}{w:World}{K:PySem.W.Frag}{mg:Str->Option Value}{base:Heap}{t:Adr}(T:kX p K mg t)(i:Nat){N:List Str}(S:dU N (fO (p.top i)) (bQ (p.top i))){x:Str}{k:Nat}{sp:Sp}(len:∀vs H Q E,sp vs H Q E->vs.length=(fO (p.top i)).length)
  (hbody:∀(cdv:Value) (A:Around) (outer:List Env) (s:Shared) (H:Hp) (vs:List V) (Q:VK) (E:XK),fV k (A.deeper (envOfC x (bQ (p.top i)) s.heap.objs.size (t.a i) cdv))->sp vs H Q E->N.Nodup ->
   let X:=(yO CX0 P w K mg base N x (bQ (p.top i)) (t.a i) cdv A outer s H E).nox
   ∃t,PSs X (eO (p.top i)) t/\t { nx:=λ_ H'=>Q .non H',rt:=Q } (start N vs) H) (h:p.ix.lookup i=some x:=by rfl):j8 P w K mg base CX0 (k+1) (t.a i) (t.d i) (fO (p.top i)) sp :=
 (T.fs i x h).F.ok S len λcdv A outer s H vs Q E hr q=>hbody cdv A outer s H vs Q E hr q S.nd
theorem fI{X:Cx}(N':List Str)(js:List (Option Nat)){scope:Scope}{target iter elt:Expr}{ifs:List Expr}{pos:Pos}{wi:TI}{g:TG}{tc:TT}{te:TE}(hi:PI X target iter wi)
  (hg:∀cl C fp s H,PG (!25) target g) (hf:∀cl C fp s H,PF (!25) ifs tc) (he:∀cl C fp s H,PE (!25) elt te) (hc:X.calm=true:=by rfl)
  (hk:scope.kind=.function:=by rfl) (hcell:(scope.names.all λy=>y.2 != .cell)=true:=by rfl) (hfree:(scope.names.all λy=>y.2 != .free||(X.env.kindOf y.1==some .cell||X.env.kindOf y.1==some .free))=true:=by rfl)
  (hnames:(scope.names.all λy=>y.2 != .local||scope.names.lookup y.1==some .local)=true:=by rfl) (hjs:wF X.N scope N' js=true:=by rfl) (hs:∀x,foldedSetIterable iter X.env x=pure x:=by intro _;rfl) :
  PE X (!15) (BP js wi g tc te):=LO hc hi hg hf he hk hcell hfree hnames hjs hs
theorem fH{X:Cx}(i:Nat)(N':List Str)(js:List (Option Nat)){scope:Scope}{target iter elt:Expr}{ifs:List Expr}{pos pos' spos:Pos}{x:Str}{wi:TI}{g:TG}{tc:TT}{te:TE}(hi:PI X target iter wi)
  (hg:∀cl C fp s H,PG (!25) target g) (hf:∀cl C fp s H,PF (!25) ifs tc) (he:∀cl C fp s H,PE (!25) elt te)
  (hi':X.N[i]?=some x:=by rfl) (hx:Loc X.env.scope x:=by first | exact Or.inl rfl | exact Or.inr rfl) (hc:X.calm=true:=by rfl)
  (hsw:swapsWith (!15) (some (.Name x pos')) spos.line X.env=pure true:=by rfl)
  (hk:scope.kind=.function:=by rfl) (hcell:(scope.names.all λy=>y.2 != .cell)=true:=by rfl) (hfree:(scope.names.all λy=>y.2 != .free||(X.env.kindOf y.1==some .cell||X.env.kindOf y.1==some .free))=true:=by rfl)
  (hnames:(scope.names.all λy=>y.2 != .local||scope.names.lookup y.1==some .local)=true:=by rfl) (hjs:wF X.N scope N' js=true:=by rfl) (hs:∀x,foldedSetIterable iter X.env x=pure x:=by intro _;rfl)
  (hfn:X.fn x=true\/X.env.scope.names.lookup x=some .local:=by first | exact .inl rfl | exact .inr rfl | assumption) (hN:X.N.Nodup:=by first | assumption | exact IG rfl) :
  PS X (.Assign [.Name x pos'] (!15) spos) (DT (BP js wi g tc te) (cS i)):=z8 hN hi' hx hc hi hg hf he hsw hk hcell hfree hnames hjs hs hfn
theorem JZ(env:Env):∀es:List Expr,(assignEach es env).length=es.length
 |[]=>rfl
 |e::es=>by cases e<;>exact congrArg (·+1) (JZ env es)
theorem RJ{X:Cx}{pos:Pos}{es:List Expr}{k:Nat}{t:TGs}(h:PGs X es t)(hc:X.calm=true:=by rfl)(hst:(assignEach es X.env).findIdx? (·.1)=none:=by rfl):PG X (.Tuple es k pos) (QA es.length t):=HF hc h (JZ _ _) hst
end L2
namespace K27
open PySem L2
abbrev nm(i:Nat)(x:Str):Nat×Str:=(i,x)
abbrev prg:Prg:=⟨λi=>PySem.Challenge.pw_fewbends_k27_shapes_shown_fewest.main.body.getD i (.Pass ⟨0,0,0,0⟩),[nm 11 "check_map",nm 12 "ties_name_places",nm 13 "orders_fit",nm 14 "ends_at_places",nm 15 "hangs_together",nm 16 "other_end",nm 17 "place_of",nm 18 "goes_to",nm 19 "behind",nm 20 "lands",nm 21 "land_from",nm 22 "land_numbers",nm 23 "is_flat",nm 24 "check_flat",nm 25 "check_outer",nm 27 "rate",nm 28 "rests",nm 29 "settled_prices",nm 30 "lower_prices",nm 31 "ring_behind",nm 33 "doors_of",nm 34 "filled",nm 35 "reach",nm 36 "far_side",nm 37 "room",nm 38 "put_in",nm 39 "raise_prices",nm 40 "path_to",nm 41 "push",nm 43 "check_net",nm 44 "bound",nm 45 "least_worth",nm 46 "cheapest",nm 47 "without_costs",nm 49 "is_shape",nm 50 "places_close",nm 51 "lands_close",nm 52 "wanted_sum",nm 53 "land_sum",nm 54 "turns",nm 55 "shortened",nm 57 "keeps",nm 58 "cost",nm 59 "net_of",nm 60 "corner_ways",nm 61 "left_ways",nm 62 "fewest",nm 63 "shows_fewest",nm 64 "bound_of",nm 66 "_law_cell_at",nm 67 "_law_mix",nm 68 "_law_digit",nm 69 "_law_turned",nm 70 "_law_other",nm 71 "_law_place",nm 72 "_law_behind",nm 73 "_law_lands",nm 74 "_law_step",nm 75 "_law_renamed",nm 76 "_law_map",nm 78 "_law_sum",nm 79 "_law_walked",nm 80 "_law_is_shape",nm 81 "_law_wishes",nm 82 "_law_cost_of",nm 83 "_law_keeps",nm 84 "_law_net_of",nm 85 "_law_bound",nm 86 "_law_copied",nm 87 "_law_due",nm 88 "_law_bent",nm 89 "_law_priced",nm 90 "_law_right",nm 91 "law"],[(0,"all"),(1,"any"),(2,"bool"),(3,"enumerate"),(4,"int"),(5,"isinstance"),(6,"len"),(7,"list"),(8,"max"),(9,"min"),(10,"range"),(11,"sorted"),(12,"sum"),(13,"tuple"),(14,"zip")],[(0,"QUARTERS_ROUND",4),(1,"MOST_PLACES",200),(2,"MOST_TIES",400),(3,"MOST_ENDS_AT_A_PLACE",4)],[(0,"Search")],inClass (PySem.Challenge.pw_fewbends_k27_shapes_shown_fewest.main.body.getD 32 (.Pass ⟨0,0,0,0⟩)) 0⟩
abbrev Txt:=kX prg
abbrev Ok(P:Program)(w:World)(base:Heap){K:PySem.W.Frag}{mg:Str->Option Value}{t:Adr}(_:Txt K mg t)(i k:Nat)(sp:Sp):Prop:=OkG prg P w K mg base t CX0 i k sp
theorem rQ:dU ["self","net","prices"] ["self","net","prices"] (bQ prg.si):=scm
end K27
set_option hygiene false in
local macro_rules
 |`(tactic| left)=>`(tactic| ((first | refine T.ok _ (λvs H Q E h=>?_) ?_ | refine T.okX _ (λvs H Q E h=>?_) ?_);(focus repeat first | (obtain⟨rfl,_⟩:=h;rfl) | obtain⟨_,h⟩:=h);intro cdv A outer s H vs Q E hr h nd X))
set_option hygiene false in
local macro_rules
 |`(tactic| and_intros)=>`(tactic| repeat (first | (change (_:Type);rotate_left) | (guard_target=PE _ _ _;first | (guard_target=PE _ (.Constant _ _ _) _;first | exact b0 | exact NQ | exact AD | exact O0) | (guard_target=PE _ (.BinOp _ .Sub _ _) _;refine' sC O5 ?_ ?_) | (guard_target=PE _ (.BinOp _ .Mult _ _) _;refine' sC O6 ?_ ?_) | (guard_target=PE _ (.BinOp _ .Mod _ _) _;refine' sC O7 ?_ ?_) | (guard_target=PE _ (.Tuple _ _ _) _;refine' OZ ?_) | (guard_target=PE _ (.List _ _) _;refine' O1 ?_) | (guard_target=PE _ (.UnaryOp .USub _ _) _;refine' RK N4 ?_) | (guard_target=PE _ (.Call (.Name "len" _) [_] [] _) _;refine' bC fU rfl (T.z 6) PySem.boot_len ?_) | (guard_target=PE _ (.Call (.Attribute _ "append" _) [_] [] _) _;refine' TM mAp uM ?_ ?_) | (guard_target=PE _ (.Compare _ [.Lt] _ _) _;refine' CF lT ?_ ?_ ?_)) | (guard_target=PA _ _ _;first | (guard_target=PA _ [] _;exact fP) | refine' c8 ?_ ?_) | (guard_target=PSs _ _ _;first | (guard_target=PSs _ (_::_::_) _;refine' b9 ?_ ?_) | (guard_target=PSs _ [_] _;refine' dR ?_) | (guard_target=PSs _ [] _;exact fF) | (guard_target=PSs _ (eO _) _;first | refine' dR ?_ | refine' b9 ?_ ?_)) | (guard_target=PS _ _ _;first | (guard_target=PS _ (.Return (some _) _) _;refine' OR ?_) | (guard_target=PS _ (.Expr _ _) _;refine' qD ?_) | (guard_target=PS _ (.If _ _ _ _) _;refine' jG ?_ ?_ ?_) | (guard_target=PS _ (.While _ _ _ _) _;refine' xN PassesOwn.never ?_ ?_) | (guard_target=PS _ (.For _ _ _ _ _) _;refine' G1 PassesOwn.never rfl ?_ ?_ ?_) | (guard_target=PS _ (.Return none _) _;exact ps_retN) | (guard_target=PS _ (.Break _) _;exact ps_break) | (guard_target=PS _ (.Continue _) _;exact ps_continue) | (guard_target=PS _ (.Pass _) _;exact ps_pass)) | (guard_target=PT _ _ _;first | (guard_target=PT _ (.BoolOp .And _ _) _;refine' u7 (rX ?_ ?_)) | (guard_target=PT _ (.BoolOp .Or _ _) _;refine' u7 (GX ?_ ?_)) | (guard_target=PT _ (.UnaryOp .Not _ _) _;refine' jU ?_) | (guard_target=PT _ (.Compare _ [.Lt] _ _) _;refine' dQ lT ?_ ?_ ?_) | (guard_target=PT _ (.Compare _ [.LtE] _ _) _;refine' dQ lU ?_ ?_ ?_) | (guard_target=PT _ (.Compare _ [.GtE] _ _) _;refine' dQ RO ?_ ?_ ?_) | (guard_target=PT _ (.Compare _ [.Gt] _ _) _;refine' dQ HI ?_ ?_ ?_)) | (guard_target=PW _ _ _;first | (guard_target=PW _ (.BoolOp .And (_::_::_) _) _;refine' rX ?_ ?_) | (guard_target=PW _ (.BoolOp .Or (_::_::_) _) _;refine' GX ?_ ?_) | (guard_target=PW _ (.BoolOp .And _ _) _;refine' qC ?_) | (guard_target=PW _ (.BoolOp .Or _ _) _;refine' GW ?_)) | (guard_target=PI _ _ _ _;first | (guard_target=PI _ _ (.Call (.Name "range" _) [_] [] _) _;refine' EC rfl (T.z 10) ?_) | (guard_target=PI _ _ (.Call (.Name "range" _) [_,_] [] _) _;refine' pi_range2 rfl (T.z 10) ?_)) | (guard_target=PG _ (.Tuple _ _ _) _;refine' RJ ?_) | (guard_target=PGs _ (_::_) _;refine' HE ?_ ?_) | (guard_target=PGs _ [] _;exact LK) | (guard_target=behindInMarks _ _=false;first | exact iI _ | rfl) | (guard_target=PF _ [] _;exact OW) | (guard_target=DC _;exact λ_ _=>rfl)))
set_option hygiene false in
local macro_rules
 |`(tactic| exists $t:term)=>`(tactic| (and_intros;(first | (guard_target=PE _ (.Call (.Name _ _) _ [] _) _;refine' cX ($t T) hr (T.f _) bR ?_) | (guard_target=PE _ (.Subscript _ _ _) _;first | refine' iG $t ?_ ?_ ?_ | refine' iG ($t (K:=K) rfl) ?_ ?_ ?_) | (guard_target=PE _ (.BinOp _ _ _ _) _;refine' sC $t ?_ ?_) | (guard_target=PE _ (.Compare _ _ _ _) _;refine' CF $t ?_ ?_ ?_) | (guard_target=PT _ (.Compare _ _ _ _) _;refine' dQ $t ?_ ?_ ?_) | (guard_target=PE _ (.ListComp _ _ _ _) _;refine' $t ?_ (λ_ _ _ _ _=>?_) (λ_ _ _ _ _=>?_) (λ_ _ _ _ _=>?_)) | (guard_target=PS _ (.Assign _ (.ListComp _ _ _ _) _) _;refine' $t ?_ (λ_ _ _ _ _=>?_) (λ_ _ _ _ _=>?_) (λ_ _ _ _ _=>?_)) | refine' $t);and_intros))
 |`(tactic| exists $t:term,$ts:term,*)=>`(tactic| (exists $t;exists $ts,*))
set_option hygiene false in
local macro_rules
 |`(tactic| exists $n:num)=>`(tactic| (and_intros;(first | (guard_target=PE _ (.Name _ _) _;exact pv $n) | (guard_target=PG _ (.Name _ _) _;exact TL $n) | (guard_target=PS _ (.Assign [.Name _ _] _ _) _;refine' TK $n ?_));and_intros))
abbrev K27.lawK:Nat:=60
namespace NM
open L2 (at0)
structure Way where
 a:Nat
 b:Nat
 lo:Int
 hi:Option Int
 c:Int
def rt(ps:List Int)(w:Way):Int:=w.c-at0 ps w.a+at0 ps w.b
def mn(i j:Int):Int:=if j<i then j else i
def least(ps:List Int)(w:Way):Option Int :=
 match w.hi with
 |some h=>some (mn (w.lo*rt ps w) (h*rt ps w))
 |none=>if rt ps w<0 then none else some (w.lo*rt ps w)
def due(ps:List Int)(w:Way):Option Int :=
 if 0<rt ps w then some (rt ps w*w.lo) else if rt ps w<0 then (match w.hi with | some h=>some (rt ps w*h) | none=>none) else some 0
theorem uP(ps:List Int)(w:Way)(hb:∀h,w.hi=some h->w.lo<=h):least ps w=due ps w:=by
 unfold least due;generalize rt ps w=r;rcases hw:w.hi with _ | h
 ·dsimp only;by_cases h1:0<r
  ·rw[Yb h1,Ya (by lia),Int.mul_comm]
  ·by_cases h2:r<0
   ·rw[Ya h1,Yb h2,Yb h2]
   ·have:r=0:=by lia
    subst this;simp
 ·have hl:=hb h hw;dsimp only;by_cases h1:0<r
  ·rw[Yb h1];have:w.lo*r<=h*r:=Int.mul_le_mul_of_nonneg_right hl (by lia);unfold mn;rw[Ya (by lia),Int.mul_comm]
  ·rw[Ya h1];by_cases h2:r<0
   ·rw[Yb h2];have:h*r<=w.lo*r:=Int.mul_le_mul_of_nonpos_right hl (by lia);unfold mn;by_cases e:h*r<w.lo*r
    ·rw[Yb e,Int.mul_comm]
    ·rw[Ya e];have:w.lo*r=h*r:=by omega
     rw[this,Int.mul_comm]
   ·have:r=0:=by lia
    subst this;simp[mn]
def bnd(f:Way->Option Int):List Way->Int->Option Int
 |[],t=>some t
 |w::ws,t=>match f w with
  |none=>none
  |some l=>bnd f ws (t+l)
theorem oZ{f g:Way->Option Int}:∀(ws:List Way) (t:Int),(∀w∈ws,f w=g w)->bnd f ws t=bnd g ws t
 |[],_,_=>rfl
 |w::ws,t,h=>by
  unfold bnd;rw[h w Zd];cases g w with
  |none=>rfl
  |some l=>exact oZ ws _ λx hx=>h x (Zw _ hx)
theorem yW{f:Way->Option Int}{ws:List Way}{i:Nat}{t:Int}{w:Way}(h:ws[i]?=some w)(hf:f w=none):bnd f (ws.drop i) t=none:=by
 obtain⟨hi,rfl⟩:=Zj.mp h;rw[List.drop_eq_getElem_cons hi];show(match f ws[i]with | none=>none | some l=>bnd f (ws.drop (i+1)) (t+l))=none;rw[hf]
theorem kW{f:Way->Option Int}{ws:List Way}{i:Nat}{t l:Int}{w:Way}(h:ws[i]?=some w)(hf:f w=some l):bnd f (ws.drop i) t=bnd f (ws.drop (i+1)) (t+l):=by
 obtain⟨hi,rfl⟩:=Zj.mp h;rw[List.drop_eq_getElem_cons hi];show(match f ws[i]with | none=>none | some l=>bnd f (ws.drop (i+1)) (t+l))=_;rw[hf]
def dot(ps l:List Int)(n:Nat):Int:=((ZS n).map λk=>at0 ps k*at0 l k).sum
theorem nP(ps l:List Int)(n:Nat):dot ps l (n+1)=dot ps l n+at0 ps n*at0 l n:=by
 unfold dot;rw[ZI,Zt,List.sum_append];simp
theorem lQ{l:List Int}{j k:Nat}{v:Int}(h:j<l.length):at0 (l.set j v) k=if k=j then v else at0 l k:=by
 unfold at0;simp only[List.getD];by_cases e:k=j
 ·subst e;rw[Yb rfl,ZL h];rfl
 ·rw[Ya e,ZK (Yh e)]
theorem wL(ps:List Int){l:List Int}{j:Nat}{v:Int}(h:j<l.length):∀n,dot ps (l.set j v) n=dot ps l n+(if j<n then at0 ps j*(v-at0 l j) else 0)
 |0=>by simp[dot]
 |n+1=>by
  rw[nP,nP,wL ps h n,lQ h];by_cases e:n=j
  ·subst e;rw[Ya (by lia),Yb rfl,Yb (by lia),Int.mul_sub]
   lia
  ·rw[Ya e];by_cases e2:j<n
   ·rw[Yb e2,Yb (by lia)];lia
   ·rw[Ya e2,Ya (by lia)];lia
def step(l:List Int)(w:Way)(g:Int):List Int:=(l.set w.a (at0 l w.a-g)).set w.b (at0 (l.set w.a (at0 l w.a-g)) w.b+g)
theorem mX(l:List Int)(w:Way)(g:Int):(step l w g).length=l.length:=by unfold step;simp
theorem xF{ps l:List Int}{w:Way}{g:Int}{n:Nat}(hl:l.length=n)(ha:w.a<n)(hb:w.b<n):dot ps (step l w g) n=dot ps l n-(at0 ps w.a-at0 ps w.b)*g:=by
 unfold step;rw[wL ps (!41),wL ps (by lia),Yb ha,Yb hb];have e1:at0 l w.a-g-at0 l w.a = -g:=by lia
 have e2:at0 (l.set w.a (at0 l w.a-g)) w.b+g-at0 (l.set w.a (at0 l w.a-g)) w.b=g:=by lia
 rw[e1,e2,Int.sub_mul,Int.mul_neg]
 lia
def left:List Way->List Int->List Int->List Int
 |w::ws,g::gs,l=>left ws gs (step l w g)
 |_,_,l=>l
def inB(w:Way)(g:Int):Prop:=w.lo<=g/\∀h,w.hi=some h->g<=h
def lS:List Way->List Int->Int
 |w::ws,g::gs=>w.c*g+lS ws gs
 |_,_=>0
structure pO(needs:List Int)(ws:List Way)(gs:List Int):Prop where
 len:gs.length=ws.length
 inb:∀(i:Nat) w g,ws[i]?=some w->gs[i]?=some g->inB w g
 zero:∀k,k<needs.length->at0 (left ws gs needs) k=0
theorem least_le{ps:List Int}{w:Way}{g d:Int}(h:inB w g)(e:least ps w=some d):d<=rt ps w*g:=by
 unfold least at e;generalize rt ps w=r at e ⊢;rcases hw:w.hi with _ | hh
 ·rw[hw]at e;dsimp only at e;by_cases h2:r<0
  ·rw[Yb h2]at e;cases e
  ·rw[Ya h2]at e;cases e;rw[Int.mul_comm r g];exact Int.mul_le_mul_of_nonneg_right h.1 (by lia)
 ·rw[hw]at e;cases e;rw[Int.mul_comm r g];by_cases h2:r<0
  ·have:hh*r<=g*r:=Int.mul_le_mul_of_nonpos_right (h.2 _ hw) (by lia);unfold mn;split<;>omega
  ·have:w.lo*r<=g*r:=Int.mul_le_mul_of_nonneg_right h.1 (by lia);unfold mn;split<;>lia
theorem R9{ps:List Int}{n:Nat}:∀(ws:List Way) (gs l:List Int) (t d:Int),gs.length=ws.length->(∀(i:Nat) w g,ws[i]?=some w->gs[i]?=some g->inB w g)->l.length=n->(∀w∈ws,w.a<n/\w.b<n) ->
  bnd (least ps) ws t=some d->d<=t+lS ws gs-dot ps l n+dot ps (left ws gs l) n
 |[],[],l,t,d,_,_,_,_,h=>by cases h;simp[lS,left]
 |[],_::_,_,_,_,hl,_,_,_,_=>by simp at hl
 |_::_,[],_,_,_,hl,_,_,_,_=>by simp at hl
 |w::ws,g::gs,l,t,d,hl,hin,hn,hk,h=>by
  unfold bnd at h;rcases hw:least ps w with _ | x
  ·rw[hw]at h;cases h
  ·rw[hw]at h;have ih:=R9 ws gs (step l w g) (t+x) d (by simpa using hl) (λi w' g' h1 h2=>hin (i+1) w' g' (by simpa using h1) (by simpa using h2)) (by rw[mX];exact hn) (λw' h'=>hk w' (Zw _ h')) h;have h1:=least_le (hin 0 w g rfl rfl) hw;have hab:=hk w Zd;rw[xF hn hab.1 hab.2]at ih;show d<=t+(w.c*g+lS ws gs)-dot ps l n+dot ps (left ws gs (step l w g)) n;unfold rt at h1;have e:(w.c-at0 ps w.a+at0 ps w.b)*g=w.c*g-(at0 ps w.a-at0 ps w.b)*g:=by
    rw[<-Int.sub_mul];congr 1;lia
   rw[e]at h1
   lia
theorem sZ{ps l:List Int}:∀n,(∀k,k<n->at0 l k=0)->dot ps l n=0
 |0,_=>rfl
 |n+1,h=>by rw[nP,sZ n λk hk=>h k (by lia),h n (by lia)];simp
theorem MD{ps needs:List Int}{ws:List Way}{gs:List Int}{d:Int}(hk:∀w∈ws,w.a<needs.length/\w.b<needs.length)(G:pO needs ws gs)(h:bnd (least ps) ws (dot ps needs needs.length)=some d):d<=lS ws gs:=by
 have:=R9 ws gs needs _ d G.len G.inb rfl hk h;rw[sZ (l:=left ws gs needs) _ G.zero]at this
 lia
theorem uO{ws:List Way}{gs l:List Int}{i:Nat}{w:Way}{g:Int}(h1:ws[i]?=some w)(h2:gs[i]?=some g):left (ws.take (i+1)) (gs.take (i+1)) l=step (left (ws.take i) (gs.take i) l) w g:=by
 induction i generalizing ws gs l with
 |zero =>
  cases ws with
  |nil=>simp at h1
  |cons x ws =>
   cases gs with
   |nil=>simp at h2
   |cons y gs =>
    simp at h1 h2;subst h1 h2;simp[left]
 |succ i ih =>
  cases ws with
  |nil=>simp at h1
  |cons x ws =>
   cases gs with
   |nil=>simp at h2
   |cons y gs =>
    simp only[List.take_succ_cons,left];exact ih (by simpa using h1) (by simpa using h2)
theorem nH:∀(ws:List Way) (gs l:List Int),(left ws gs l).length=l.length
 |w::ws,g::gs,l=>by rw[left,nH,mX]
 |[],_,l=>by cases ‹List Int›<;>rfl
 |_::_,[],l=>rfl
theorem wM(d:Way):∀(ws:List Way) (gs:List Int),gs.length=ws.length->lS ws gs=((ZS ws.length).map λk=>(ws.getD k d).c*at0 gs k).sum
 |[],[],_=>rfl
 |[],_::_,h=>by simp at h
 |_::_,[],h=>by simp at h
 |w::ws,g::gs,h=>by
  rw[lS,wM d ws gs (by simpa using h),Yq,List.range_succ_eq_map,ZJ,List.sum_cons,Ym];rfl
end NM
namespace FL
open NM L2
def aF(ws:List Way)(k:Nat):Nat:=(ws[k]?.map (·.a)).getD 0
def bF(ws:List Way)(k:Nat):Nat:=(ws[k]?.map (·.b)).getD 0
def loF(ws:List Way)(k:Nat):Int:=(ws[k]?.map (·.lo)).getD 0
def hiF(ws:List Way)(k:Nat):Option Int:=ws[k]?.bind (·.hi)
def coF(ws:List Way)(k:Nat):Int:=(ws[k]?.map (·.c)).getD 0
section
variable{ws:List Way}{k:Nat}{w:Way}
theorem lY(h:ws[k]?=some w):aF ws k=w.a:=by unfold aF;rw[h];rfl
theorem nQ(h:ws[k]?=some w):bF ws k=w.b:=by unfold bF;rw[h];rfl
theorem oT(h:ws[k]?=some w):loF ws k=w.lo:=by unfold loF;rw[h];rfl
theorem mT(h:ws[k]?=some w):hiF ws k=w.hi:=by unfold hiF;rw[h];rfl
theorem A8(h:ws[k]?=some w):coF ws k=w.c:=by unfold coF;rw[h];rfl
theorem CB(h:ws[k]?=some w)(ps:List Int):rt (aF ws) (bF ws) (coF ws) (at0 ps) k=NM.rt ps w:=by
 unfold rt NM.rt;rw[lY h,nQ h,A8 h]
end
theorem yY{l:List Int}{w:Way}{g:Int}(ha:w.a<l.length)(hb:w.b<l.length)(v:Nat):at0 (step l w g) v=at0 l v-(if w.a=v then g else 0)+(if w.b=v then g else 0):=by
 unfold step;rw[lQ (by simpa using hb),lQ ha,lQ ha];by_cases x:v=w.b<;>by_cases y:v=w.a
 ·subst x;rw[Yb rfl,Yb y,Yb y.symm,Yb rfl,y]
 ·subst x;rw[Yb rfl,Ya y,Ya (λz=>y z.symm),Yb rfl];lia
 ·subst y;rw[Ya x,Yb rfl,Yb rfl,Ya (λz=>x z.symm)];lia
 ·rw[Ya x,Ya y,Ya (λz=>y z.symm),Ya (λz=>x z.symm)];lia
theorem vZ{ws:List Way}{gs ns:List Int}(hl:gs.length=ws.length)(hk:∀w∈ws,w.a<ns.length/\w.b<ns.length)(v:Nat) :
  at0 (left ws gs ns) v=rs ws.length (aF ws) (bF ws) (at0 ns) (at0 gs) v:=by
 have key:∀i,i<=ws.length->at0 (left (ws.take i) (gs.take i) ns) v=rs i (aF ws) (bF ws) (at0 ns) (at0 gs) v:=by
  intro i;induction i with
  |zero=>intro _;simp[left,rs,pZ]
  |succ i ih =>
   intro hi;have h1:ws[i]?=some ws[i]:=Zz (by lia);have h2:gs[i]?=some gs[i]:=Zz (by lia);have hw:=hk ws[i] (Zp _);have ll:=nH (ws.take i) (gs.take i) ns;rw[uO h1 h2,yY (by rw[ll];exact hw.1) (by rw[ll];exact hw.2),ih (by lia)];have eg:at0 gs i=gs[i]:=by unfold at0;simp[List.getD,h2]
   unfold rs;rw[cJ,cJ,lY h1,nQ h1,eg]
   lia
 have:=key ws.length (ZC _)
 rwa [Yv,List.take_of_length_le (by lia)]at this
section
variable{rest rest':Nat->Int}{src dst:Nat->Int->Nat}{len:Nat->Int->Int}{op:Nat->Int->Prop}{n:Nat}{pr:Nat->Int->Prop}{R W:List En}{nr:Nat->Option Int}
theorem Rch.congr(h:Rch rest src dst len op n pr R W nr)(e:∀v,v<n->rest v=rest' v):Rch rest' src dst len op n pr R W nr:=by
 have f:∀x∈R++W,vA rest x->vA rest' x:=λx hx z=>(xPP z.1 z.2.1 (by rw[<-e _ (h.lt x hx)];exact z.2.2))
 exact⟨λi x hx=>(h.old i x hx).imp (f x (ZP _ (Zg hx))) id,λx hx=>(h.wait x hx).imp (f x (ZO _ hx)) id,h.lt,h.nd,h.up,h.mono,h.dom,h.near,λv hv hp=>h.pos v hv (by rw[e v hv];exact hp)⟩
theorem few:∀(n:Nat) (l:List Nat),l.Nodup->(∀x∈l,x<n)->l.length<=n
 |0,[],_,_=>ZC _
 |0,x::_,_,h=>Yg (h x (.head _)) (Nat.not_lt_zero _)
 |n+1,l,nd,h=>by
  have ih:=few n (l.filter λx=>decide (x≠n)) (nd.filter _) λx hx=>by
   obtain⟨h1,h2⟩:=Yz.mp hx;have:=h x h1;have:=Yf h2
   lia
  have key:∀m:List Nat,m.Nodup->m.length<=(m.filter λx=>decide (x≠n)).length+1:=by
   intro m;induction m with
   |nil=>intro _;simp
   |cons a m ihm =>
    intro hm;rw[List.nodup_cons]at hm;by_cases z:a=n
    ·have e:m.filter (λx=>decide (x≠n))=m:=List.filter_eq_self.mpr λx hx=>Ye λy=>hm.1 (by rw[z,<-y];exact hx);rw[List.filter_cons_of_neg (by simpa using z),e];simp
    ·rw[List.filter_cons_of_pos (by simpa using z)];have:=ihm hm.2;rw[Yq,Yq]
     lia
  have:=key l nd
  lia
theorem Rch.few(h:Rch rest src dst len op n pr R W nr):R.length<=n:=by
 have:=FL.few n (R.map (·.v)) h.nd λx hx=>by
  obtain⟨u,hu,rfl⟩:=Zh.mp hx;exact h.lt u (ZP _ hu)
 simpa using this
def Out(rest:Nat->Int)(src dst:Nat->Int->Nat)(len:Nat->Int->Int)(op:Nat->Int->Prop)(n:Nat)(R:List En):Prop :=
 (∃(R':List En) (e:En) (W:List En) (nr:Nat->Option Int) (pr:Nat->Int->Prop),R=R'++[e]/\Rch rest src dst len op n pr R W nr/\(∀k by_,op k by_->(∃u∈R',u.v=src k by_)->pr k by_)/\rest e.v<0) \/
 (∃(nr:Nat->Option Int) (pr:Nat->Int->Prop),Rch rest src dst len op n pr R [] nr/\(∀k by_,op k by_->(∃u∈R,u.v=src k by_)->pr k by_)/\∀u∈R,0<=rest u.v)
theorem Out.congr(h:Out rest src dst len op n R)(e:∀v,v<n->rest v=rest' v):Out rest' src dst len op n R:=by
 rcases h with⟨R',x,W,nr,pr,rfl,h,a,l⟩ | ⟨nr,pr,h,a,l⟩
 ·exact .inl (gZ R' x W nr pr rfl (h.congr e) a (by rw[<-e _ (h.lt x (!5))];exact l))
 ·exact .inr (aG nr pr (h.congr e) a (λu hu=>by rw[<-e _ (h.lt u (by simpa using hu))];exact l u hu))
end
structure BI(ws:List Way)(n:Nat)(ds:List (!34)):Prop where
 len:ds.length=n
 mem:∀(v:Nat) (l:List (Nat×Int)),ds[v]?=some l->∀(k:Nat) (by_:Int),(k,by_)∈l↔k<ws.length/\((by_=1/\aF ws k=v)\/(by_ = -1/\bF ws k=v))
 few:∀(v:Nat) (l:List (Nat×Int)),ds[v]?=some l->l.length<=2*ws.length
theorem BI.src{ws:List Way}{n:Nat}{ds:List (!34)}(h:BI ws n ds){v:Nat}{l:List (Nat×Int)}(hl:ds[v]?=some l){k:Nat}{by_:Int}(hm:(k,by_)∈l):k<ws.length/\(by_=1\/by_ = -1)/\sd (aF ws) (bF ws) k by_=v:=by
 obtain⟨h1,h2⟩:=(h.mem v l hl k by_).mp hm;rcases h2 with⟨rfl,e⟩ | ⟨rfl,e⟩
 ·exact(xPP h1 (.inl rfl) e)
 ·exact(xPP h1 (.inr rfl) e)
theorem BI.has{ws:List Way}{n:Nat}{ds:List (!34)}(h:BI ws n ds){k:Nat}{by_:Int}(hk:k<ws.length)(hb:by_=1\/by_ = -1){l:List (Nat×Int)}(hl:ds[sd (aF ws) (bF ws) k by_]?=some l):(k,by_)∈l:=by
 refine(h.mem _ l hl k by_).mpr ⟨hk,?_⟩;rcases hb with rfl | rfl
 ·exact .inl ⟨rfl,rfl⟩
 ·exact .inr ⟨rfl,rfl⟩
def rm(ws:List Way)(gs:List Int)(k:Nat)(by_:Int):Option Int:=if by_<0 then some (at0 gs k-loF ws k) else (hiF ws k).map λh=>h-at0 gs k
theorem GS{ws:List Way}{gs:List Int}{k:Nat}{by_:Int}(hk:k<ws.length)(hb:by_=1\/by_ = -1):opn ws.length (loF ws) (hiF ws) (at0 gs) k by_↔rm ws gs k by_≠some 0:=by
 unfold opn rm;rcases hb with rfl | rfl
 ·rw[Ya (!1)];constructor
  ·rintro⟨_,⟨_,z⟩ | ⟨z,_⟩⟩
   ·intro y;obtain⟨h,e1,e2⟩:=Xv.mp y;exact z (by rw[e1];congr 1;lia)
   ·exact Yg z (!1)
  ·intro z;refine⟨hk,.inl ⟨rfl,λy=>z ?_⟩⟩;rw[y];show some (at0 gs k-at0 gs k)=some 0;rw[Int.sub_self]
 ·rw[Yb (!1)];constructor
  ·rintro⟨_,⟨z,_⟩ | ⟨_,z⟩⟩
   ·exact Yg z (!1)
   ·intro y;have:=Option.some.inj y;exact z (by lia)
  ·intro z;refine⟨hk,.inr ⟨rfl,λy=>z ?_⟩⟩;congr 1;lia
end FL
namespace L2
open PySem PyProof.Rows NM
def wv(w:Way):List V:=[vn w.a,vn w.b,.int w.lo,vo w.hi,.int w.c]
def e9(H:Hp)(a:Addr)(ws:List Way):Prop:=∃rs:List Addr,H a=some (.lst (rs.map V.ref))/\rs.length=ws.length/\∀(i:Nat) w,ws[i]?=some w->∃r,rs[i]?=some r/\H r=some (.tup (wv w))
theorem e9.mono{H H':Hp}{a:Addr}{ws:List Way}(h:e9 H a ws)(g:aK H H'):e9 H' a ws:=by
 obtain⟨rs,h1,h2,h3⟩:=h;exact(aM rs (g _ _ h1) h2 (λi w hw=>by obtain⟨r,q1,q2⟩:=h3 i w hw;exact(xWP r q1 (g _ _ q2))))
structure iM(H:Hp)(p na wa:Addr)(ns:List Int)(ws:List Way):Prop where
 tp:H p=some (.tup [.ref na,.ref wa])
 n:H na=some (.lst (!39))
 w:e9 H wa ws
theorem iM.mono{H H':Hp}{p na wa:Addr}{ns:List Int}{ws:List Way}(h:iM H p na wa ns ws)(g:aK H H'):iM H' p na wa ns ws:=⟨g _ _ h.tp,g _ _ h.n,h.w.mono g⟩
structure NY(n:Nat)(w:Way):Prop where
 a:w.a<n
 b:w.b<n
 lo : -1000<=w.lo/\w.lo<=1000
 hi:∀h,w.hi=some h->w.lo<=h/\h<=1000
 c : -1000<=w.c/\w.c<=1000
structure pN(ns:List Int)(ws:List Way):Prop where
 n:1<=ns.length
 n2:ns.length<=1000
 w2:ws.length<=1000
 z:ns.sum=0
 nb:∀x∈ns,-100000<=x/\x<=100000
 w:∀w∈ws,NY ns.length w
theorem rG{H:Hp}{rs:List Addr}{ws:List Way}{i:Nat}{r:Addr}(hl:rs.length=ws.length)(h3:∀(i:Nat) w,ws[i]?=some w->∃r,rs[i]?=some r/\H r=some (.tup (wv w)))(h:rs[i]?=some r):∃w,ws[i]?=some w/\H r=some (.tup (wv w)):=by
 have hi:i<ws.length:=by rw[<-hl];exact(Zj.mp h).1
 obtain⟨r',q1,q2⟩:=h3 i ws[i] (Zz hi);rw[h]at q1;cases q1;exact(xWP _ (Zz hi) q2)
theorem lN{ls:List Int}{i:Nat}{x:V}(h:(ls.map V.int)[i]?=some x):i<ls.length/\x=.int (at0 ls i):=by
 have hi:i<ls.length:=by
  have:=(Zj.mp h).1;simpa using this
 rw[bX hi]at h;exact⟨hi,(Option.some.inj h).symm⟩
end L2
variable{P:PySem.Program}{w:PySem.World}{K:PySem.W.Frag}{mg:PySem.Str->Option PySem.Value}{base:PySem.Heap}{t:L2.Adr}
namespace K27
open PySem L2 PyProof.Rows NM
def vL:Sp:=λvs H Q _=>∃(p na wa:Addr) (ns:List Int) (ws:List Way),vs=[.ref p]/\iM H p na wa ns ws/\pN ns ws/\Q .non H
theorem xX(T:Txt K mg t):Ok P w base T 43 1 vL:=by
 left
 obtain⟨p,na,wa,ns,ws,rfl,hN,hO,q⟩:=h;obtain⟨rs,e1,e2,e3⟩:=hN.w;refine(xWP _ (b9 (pI 1 nd (bC fU rfl (T.z 6) PySem.boot_len (c8 (iG aI (pv 0) b0 (λ_ _=>rfl)) fP)))
  (b9 (jG (dQ dF (pv 1) b0 (iI _)) (dR m8) fF)
  (b9 (jG (dQ fX (bC (fM rfl) rfl (T.z 12) boot_sum (c8 (iG aI (pv 0) b0 (λ_ _=>rfl)) fP)) b0 (iI _)) (dR m8) fF)
  (dR (G1 PassesOwn.never rfl (bE (iG aI (pv 0) b0 (λ_ _=>rfl))) (CD (i:=2) nd rfl (Or.inl rfl)) (b9 (jG (jU (u7 (rX (kI lU lT b0 (iG aI (pv 2) b0 (λ_ _=>rfl)) (pv 1)) (qC (kI lU lT b0 (iG aI (pv 2) b0 (λ_ _=>rfl)) (pv 1)))))) (dR m8) fF)
  (dR (jG (u7 (rX (dQ jW (iG aI (pv 2) b0 (λ_ _=>rfl)) AD (iI _)) (qC (dQ lT (iG aI (pv 2) b0 (λ_ _=>rfl)) (iG aI (pv 2) b0 (λ_ _=>rfl)) (iI _))))) (dR m8) fF)))))))) ?_)
 have hT:SqT H p [.ref na,.ref wa]:=SqT.of hN.tp;have hn1:=hO.n;refine(aW _ _ hT rfl na _ rfl (.inl (SqL.of hN.n)) ?_);have el:(((!39).length:Nat):Int)=(ns.length:Int):=by rw[Zq]
 show cS 1 (V.int (((!39).length:Nat):Int)) _ _ _;rw[el];refine(iFb (Yc (λz=>by have:=V.int.inj z;lia)) ?_);refine(aW _ _ hT rfl na _ rfl (SqL.of hN.n) ?_);refine(iFb (by rw[hO.z];rfl) ?_);refine(aG _ _ hT rfl ⟨ ⟨_,SqL.of e1⟩,eY (xs:=rs.map V.ref) (λ_ σ H'=>H'=H/\∃o:Option V,σ=[some (.ref p),some (.int ns.length),o]) ⟨rfl,none,rfl⟩ (λi σ H' _ h=>by obtain⟨rfl,_⟩:=h;exact SqL.of e1) ?_ ?_⟩)
 ·rintro i x σ H' hx ⟨rfl,o,rfl⟩;obtain⟨r,hr1,rfl⟩:=gR hx;obtain⟨w,hw,er⟩:=rG e2 e3 hr1;have ok:=hO.w w (Zg hw);have hW:SqT H' r (wv w):=SqT.of er;have ha:=ok.a;have hb:=ok.b;refine(aG _ _ hW rfl (iTb (Ye (by lia)) (iTb (Ye (by lia)) ?_)));refine(aG _ _ hW rfl (iTb (Ye (by lia)) (?_)));refine iFb (by rw[Ye (show(w.b:Int)<(ns.length:Int) by lia)];rfl) ?_;refine(aO _ (vo w.hi) hW rfl rfl ?_);rcases hh:w.hi with _ | h
  ·exact(iFb (by rfl) (iF ⟨rfl,_,rfl⟩))
  ·have e4:atI (wv w) 3=some (.int h):=by show some (vo w.hi)=_;rw[hh];rfl
   have:=ok.hi h hh;exact(iTb (by rfl) (aW _ _ hW e4 _ _ hW rfl (iFb (Yc (by lia)) ⟨rfl,_,rfl⟩)))
 ·rintro σ H' ⟨rfl,o,rfl⟩;exact q
end K27
namespace L2
open PySem PySem.Spec PyProof.Rows
section
variable{X:Cx}
def RF:V->V->Hp->VK->Prop:=λo i H Q=>o.gr λp=>i.gi λk=>∃xs v,SqL H p xs/\0<=k/\atI xs k=some v/\Q v H
theorem gL:SH X (RF):=by
 intro pins s σ H o i ov iv Q I ro ri h;obtain⟨p,rfl,z1⟩:=bV h;obtain⟨k,rfl,z2⟩:=dC z1;obtain⟨xs,z,hq,h0,he,q⟩:=z2;cases ro;obtain⟨t,rfl⟩:=ri;obtain⟨its,r,pl,hz⟩:=I.list hq;obtain⟨j,h1,h2,h3,h4,h5⟩:=qO he;obtain⟨w,ew,rw'⟩:=r.get h2;have hl:=r.length;have hn:=jZ;have hj:k.toNat=j:=by
  rw[seqIndex_of h0 h5]at h1;exact Option.some.inj h1
 exact wpAny_getItem_list pl.isList h0 (by lia) (by rw[hj];simpa using ew) (aG z H I rw' q)
end
end L2
namespace K27
open PySem L2 PyProof.Rows NM FL
def nM(wa pa ga ra da:Addr):List (Str×V):=bB "doors" (.ref da) (bB "resting" (.ref ra) (bB "going" (.ref ga) (bB "prices" (.ref pa) (bB "ways" (.ref wa) []))))
theorem wH(wa pa ga ra da:Addr):(nM wa pa ga ra da).lookup ("ways" : Str)=some (.ref wa):=by
 unfold nM;rw[a9,Ya (by decide +kernel),a9,Ya (by decide +kernel),a9,Ya (by decide +kernel),a9,Ya (by decide +kernel),a9,Yb rfl]
theorem oW(wa pa ga ra da:Addr):(nM wa pa ga ra da).lookup ("prices" : Str)=some (.ref pa):=by
 unfold nM;rw[a9,Ya (by decide +kernel),a9,Ya (by decide +kernel),a9,Ya (by decide +kernel),a9,Yb rfl]
theorem nN(wa pa ga ra da:Addr):(nM wa pa ga ra da).lookup ("going" : Str)=some (.ref ga):=by
 unfold nM;rw[a9,Ya (by decide +kernel),a9,Ya (by decide +kernel),a9,Yb rfl]
theorem eZ(wa pa ga ra da:Addr):(nM wa pa ga ra da).lookup ("resting" : Str)=some (.ref ra):=by
 unfold nM;rw[a9,Ya (by decide +kernel),a9,Yb rfl]
theorem I0(wa pa ga ra da:Addr):(nM wa pa ga ra da).lookup ("doors" : Str)=some (.ref da):=by
 unfold nM;rw[a9,Yb rfl]
structure SA where
 w:Addr
 p:Addr
 g:Addr
 r:Addr
 d:Addr
 rows:List Addr
def tJ(H:Hp)(a:Addr)(l:List (Nat×Int)):Prop:=∃rs:List Addr,H a=some (.lst (rs.map V.ref))/\rs.length=l.length/\∀(j:Nat) q,l[j]?=some q->∃r,rs[j]?=some r/\H r=some (.tup [vn q.1,.int q.2])
theorem tJ.keep{H H':Hp}{a:Addr}{l:List (Nat×Int)}(h:tJ H a l)(k:∀b xs,(b=a->H b=some (.lst xs)->H' b=some (.lst xs))/\(H b=some (.tup xs)->H' b=some (.tup xs))):tJ H' a l:=by
 obtain⟨rs,h1,h2,h3⟩:=h;refine(aM rs ((k a _).1 rfl h1) h2 (λj q hq=>?_));obtain⟨r,e1,e2⟩:=h3 j q hq;exact(xWP r e1 ((k r _).2 e2))
structure SAt(C:Addr)(H:Hp)(s:Addr)(A:SA)(ws:List Way)(ds:List (!34))(ps gs rs:List Int):Prop where
 ob:∃dx,H s=some (.ins C dx (nM A.w A.p A.g A.r A.d))
 w:e9 H A.w ws
 p:H A.p=some (!12)
 g:H A.g=some (.lst (gs.map V.int))
 r:H A.r=some (.lst (rs.map V.int))
 d:H A.d=some (.lst (A.rows.map V.ref))
 dl:A.rows.length=ds.length
 dr:∀(i:Nat) l,ds[i]?=some l->∃a,A.rows[i]?=some a/\tJ H a l
 np:A.p∉A.w::A.d::A.rows
 ng:A.g∉A.w::A.d::A.rows
 nr:A.r∉A.w::A.d::A.rows
 pg:A.p≠A.g
 pr:A.p≠A.r
 gr:A.g≠A.r
theorem SAt.into{C:Addr}{H H':Hp}{s:Addr}{A:SA}{ws:List Way}{ds:List (!34)}{ps gs rs ps' gs' rs':List Int}(h:SAt C H s A ws ds ps gs rs)(k:∀b o,b≠A.p->b≠A.g->b≠A.r->(∀z,o≠.dK z)->H b=some o->H' b=some o)
  (p:H' A.p=some (.lst (ps'.map V.int))) (g:H' A.g=some (.lst (gs'.map V.int))) (r:H' A.r=some (.lst (rs'.map V.int))):SAt C H' s A ws ds ps' gs' rs':=by
 have nl:∀b o,(∀z,o≠.lst z)->(∀z,o≠.dK z)->H b=some o->H' b=some o:=λb o z z' e=>k b o (b8 e h.p (z _)) (b8 e h.g (z _)) (b8 e h.r (z _)) z' e;have mm:∀b xs,b∈A.w::A.d::A.rows->H b=some (.lst xs)->H' b=some (.lst xs):=λb xs z e=>k b _ (λy=>h.np (y▸z)) (λy=>h.ng (y▸z)) (λy=>h.nr (y▸z)) (λy z=>by cases z) e;obtain⟨dx,e⟩:=h.ob;obtain⟨wr,w1,w2,w3⟩:=h.w;refine⟨⟨dx,nl _ _ (!52) (!52) e⟩,(aM wr (mm _ _ (!5) w1) w2 (λi w hw=>?_)),p,g,r,mm _ _ (!5) h.d,h.dl,λi l hl=>?_,h.np,h.ng,h.nr,h.pg,h.pr,h.gr⟩
 ·obtain⟨r,q1,q2⟩:=w3 i w hw;exact(xWP r q1 (nl _ _ (!52) (!52) q2))
 ·obtain⟨a,q1,q2⟩:=h.dr i l hl;refine(xWP a q1 (q2.keep λb xs=>⟨λz=>?_,nl b _ (!52) (!52)⟩));subst z;exact mm _ _ (Zw _ (Zw _ (Zg q1)))
theorem SAt.mono{C:Addr}{H H':Hp}{s:Addr}{A:SA}{ws:List Way}{ds:List (!34)}{ps gs rs:List Int}(h:SAt C H s A ws ds ps gs rs)(k:aK H H'):SAt C H' s A ws ds ps gs rs :=
 h.into (λb o _ _ _ _ e=>k b o e) (k _ _ h.p) (k _ _ h.g) (k _ _ h.r)
theorem SAt.way{C:Addr}{H:Hp}{s:Addr}{A:SA}{ws:List Way}{ds:List (!34)}{ps gs rs:List Int}(h:SAt C H s A ws ds ps gs rs){k:Nat}{w:Way}(hw:ws[k]?=some w):∃xs r,H A.w=some (.lst xs)/\atI xs (k:Int)=some (.ref r)/\H r=some (.tup (wv w)):=by
 obtain⟨wr,w1,w2,w3⟩:=h.w;obtain⟨r,q1,q2⟩:=w3 k w hw;exact(aG _ r w1 (dA (by rw[Zk,q1];rfl)) q2)
section
def rM:Sp:=λvs H Q _=>∃(r pa:Addr) (w:Way) (ps:List Int),vs=[.ref r,.ref pa]/\SqT H r (wv w)/\H pa=some (!12)/\w.a<ps.length/\w.b<ps.length/\Q (.int (NM.rt ps w)) H
theorem qI(T:Txt K mg t):Ok P w base T 27 1 (rM):=by
 left
 obtain⟨r,pa,w,ps,rfl,hr1,hp,ha,hb,q⟩:=h;refine(xWP _ (by exists aX,aI,0,aJ,1,aI,0,aJ,1,aI,0) ?_);refine(aW _ _ hr1 rfl _ _ hr1 rfl (aG _ _ (SqL.of hp) (aQ ha rfl) ?_));exact(aG _ _ hr1 rfl (aG _ _ (SqL.of hp) (aQ hb rfl) q))
structure SOk(n:Nat)(ws:List Way)(ds:List (!34))(ps gs rs:List Int):Prop where
 pl:ps.length=n
 gl:gs.length=ws.length
 rl:rs.length=n
 w:∀w∈ws,w.a<n/\w.b<n
 d:BI ws n ds
def B3(C:Addr):Sp:=λvs H Q _=>∃(s:Addr) (A:SA) (ws:List Way) (ds:List (!34)) (ps gs rs:List Int) (k:Nat) (by_:Int),vs=[.ref s,vn k,.int by_]/\SAt C H s A ws ds ps gs rs/\k<ws.length/\Q (vn (fr (aF ws) (bF ws) k by_)) H
theorem AN(T:Txt K mg t):Ok P w base T 36 1 (B3 (t.c 0)):=by
 left
 obtain⟨s',A',ws,ds,ps,gs,rs,k,by_,rfl,S,hk,q⟩:=h;refine(xWP _ (by exists aI,aJ,dH (pv 0) rfl,1,kK ?_ b0 b0,2) ?_);obtain⟨dx,ob⟩:=S.ob;have hw:ws[k]?=some ws[k]:=Zz hk;obtain⟨xs,r,h1,h2,h3⟩:=S.way hw;refine(aV _ dx _ _ ob T.x.l T.x.n0 (wH _ _ _ _ _) (aG _ _ (SqL.of h1) h2 ?_));unfold fr at q;rw[lY hw,nQ hw]at q;refine i2 (λc=>?_) (λc=>?_)
 ·rw[Yb (Yf c)]at q;exact(aG _ _ (SqT.of h3) rfl q)
 ·rw[Ya (λz=>c (Ye z))]at q;exact(aG _ _ (SqT.of h3) rfl q)
def zW(C:Addr):Sp:=λvs H Q _=>∃(s:Addr) (A:SA) (ws:List Way) (ds:List (!34)) (ps gs rs:List Int) (k:Nat) (by_:Int),vs=[.ref s,vn k,.int by_]/\SAt C H s A ws ds ps gs rs/\k<ws.length/\gs.length=ws.length/\Q (vo (rm ws gs k by_)) H
theorem CI(T:Txt K mg t):Ok P w base T 37 1 (zW (t.c 0)):=by
 left
 obtain⟨s',A',ws,ds,ps,gs,rs,k,by_,rfl,S,hk,hl,q⟩:=h;refine(xWP _ (by exists 3,aJ,dH (pv 0) rfl,1,2,aJ,dH (pv 0) rfl,1,aI,3,jX,aI,3,aI,3,aJ,dH (pv 0) rfl,1) ?_);obtain⟨dx,ob⟩:=S.ob;have hw:ws[k]?=some ws[k]:=Zz hk;obtain⟨xs,r,h1,h2,h3⟩:=S.way hw;unfold rm at q;rw[oT hw,mT hw]at q;have e2:atI (wv ws[k]) 3=some (vo ws[k].hi):=rfl;refine(aV _ dx _ _ ob T.x.l T.x.n0 (wH _ _ _ _ _) (aG _ _ (SqL.of h1) h2 ?_));refine(i2 (λc=>?_) (λc=>?_))
 ·rw[Yb (Yf c)]at q;exact(aV _ dx _ _ ob T.x.l T.x.n2 (nN _ _ _ _ _) (aW _ _ (SqL.of S.g) (aQ (by lia) rfl) _ _ (SqT.of h3) rfl q))
 ·rw[Ya (λz=>c (Ye z))]at q;refine(aO _ _ (SqT.of h3) e2 rfl ?_);rcases hh:ws[k].hi with _ | h
  ·rw[hh]at q;exact(iT q)
  ·rw[hh]at q e2;exact(iF (eP _ _ (SqT.of h3) e2 _ dx _ _ ob (bN T.x.l T.x.n2 (nN _ _ _ _ _) (aG _ _ (SqL.of S.g) (aQ (by lia) rfl) q))))
end
def kl(e:En):List Int:=[e.d,(e.v:Int),(e.k:Int),e.by_]
abbrev ev(e:En):List V:=(kl e).map V.int
abbrev wr(W:List (Addr×En)):List V:=W.map λx=>V.ref x.1
def kvR(R:List (Addr×En)):List (Key×V):=R.map λx=>(Sum.inl (x.2.v:Int),V.ref x.1)
abbrev es(R:List (Addr×En)):List En:=R.map (·.2)
theorem DN{R:List (Addr×En)}{v:Nat}(h:∀x∈R,x.2.v≠v):fA (kvR R) (Sum.inl (v:Int))=none:=by
 induction R with
 |nil=>rfl
 |cons x R ih =>
  show fA ((Sum.inl (x.2.v:Int),V.ref x.1)::kvR R) _=none;rw[dG (λz=>h x (.head _) (by have:=Sum.inl.inj z;lia))];exact ih λy hy=>h y (.tail _ hy)
theorem oF{R:List (Addr×En)}(nd:((es R).map (·.v)).Nodup){x:Addr×En}(hx:x∈R){v:Int}(hv:v=(x.2.v:Int)):fA (kvR R) (Sum.inl v)=some (.ref x.1):=by
 subst hv;induction R with
 |nil=>cases hx
 |cons y R ih =>
  show fA ((Sum.inl (y.2.v:Int),V.ref y.1)::kvR R) _=_;have nd:(y.2.v::(es R).map (·.v)).Nodup:=nd;rw[List.nodup_cons]at nd;rcases Zn.mp hx with rfl | hx
  ·exact dY rfl
  ·rw[dG (λz=>nd.1 ?_)]
   ·exact ih nd.2 hx
   ·have:y.2.v=x.2.v:=by have:=Sum.inl.inj z;lia
    rw[this];exact Zh.mpr (xWP x.2 (Zh.mpr (xWP x hx rfl)) rfl)
theorem FN{R:List (Addr×En)}{v:Nat}(h:(fA (kvR R) (Sum.inl (v:Int))).isSome=true):∃x∈R,x.2.v=v:=by
 apply ZT;intro z;rw[DN λx hx e=>z (xWP x hx e)]at h;cases h
theorem yG(R:List (Addr×En)):(kvR R).map (·.1)=((es R).map λe=>(e.v:Int)).map Sum.inl:=by
 unfold kvR;rw[Ym,Ym,Ym];rfl
section
def NG:Sp:=λvs H Q _=>∃(wl ta:Addr) (W:List (Addr×En)) (e:En),vs=[.ref wl,.ref ta]/\H wl=some (.lst (wr W))/\(∀x∈W,H x.1=some (.tup (ev x.2)))/\H ta=some (.tup (ev e))/\Dn (W.map λx=>kl x.2)/\W.length<1000000 /\
 ∀W':List (Addr×En),W'.Perm ((ta,e)::W)->Dn (W'.map λx=>kl x.2)->Q .non (upd H wl (.lst (wr W')))
theorem PH(T:Txt K mg t):Ok P w base T 38 1 NG:=by
 left
 obtain⟨wl,ta,W,e,rfl,hW,hT,hta,dn,hl,q⟩:=h;refine(xWP _ (b9 (pI 2 nd b0)
  (b9 (pI 3 nd (bC fU rfl (T.z 6) PySem.boot_len (c8 (pv 0) fP)))
  (b9 (xN PassesOwn.never (dQ lT (pv 2) (pv 3) (iI _)) (b9 (pI 4 nd (sC bS (sC aX (pv 2) (pv 3)) b0))
  (dR (jG (dQ (O8 hr.units0) (iG aJ (pv 0) (pv 4) (λ_ _=>rfl)) (pv 1) (iI _)) (dR (pI 2 nd (sC aX (pv 4) b0))) (dR (pI 3 nd (pv 4)))))))
  (dR (qD (iU YO PySem.F.slot_list_insert PySem.F.type_list_insert hZ (pv 0) (c8 (pv 2) (c8 (pv 1) fP)))))))) ?_)
 refine(aG wl _ rfl (.inl (SqL.of hW)) ?_);have el:(((wr W).length:Nat):Int)=(W.length:Int):=by rw[Zq]
 show cS 3 (V.int (((wr W).length:Nat):Int)) _ _ _;rw[el];have up0:∀(j:Nat) x,j<0->(W.map λx=>kl x.2)[j]?=some x->SO.lx (kl e) x=true:=λj x z=>Yg z (Nat.not_lt_zero _);have dn0:∀(j:Nat) x,W.length<=j->(W.map λx=>kl x.2)[j]?=some x->SO.lx (kl e) x=false:=λj x z y=>by
  rw[Zr (by rw[Zq];exact z)]at y;cases y
 refine⟨λm σ H'=>H'=H/\∃(f b:Nat) (fi bi:Int) (o:Option V),m=b-f/\fi=f/\bi=b/\f<=b/\b<=W.length/\(∀(j:Nat) x,j<f->(W.map λx=>kl x.2)[j]?=some x->SO.lx (kl e) x=true) /\
  (∀(j:Nat) x,b<=j->(W.map λx=>kl x.2)[j]?=some x->SO.lx (kl e) x=false)/\σ=[some (.ref wl),some (.ref ta),some (.int fi),some (.int bi),o],(qT _ rfl 0 W.length _ _ none rfl rfl (cN rfl (YZ _) (ZC _) up0 dn0 rfl)),?_⟩
 rintro m σ H' ⟨rfl,f,b,fi,bi,o,rfl,rfl,rfl,hfb,hb,hup,hdn,rfl⟩;refine(i2 (λc=>?_) (λc=>?_))
 ·have c':(f:Int)<(b:Int):=Yf c;refine(xWP _ (λσ' H'' h=>h) ?_);have hm:(f+b) / 2<W.length:=by lia
  have gm:W[(f+b) / 2]?=some W[(f+b) / 2]:=Zz hm;have gk:(W.map λx=>kl x.2)[(f+b) / 2]?=some (kl W[(f+b) / 2].2):=by rw[Zk,gm];rfl
  have ei:((f:Int)+(b:Int)) / 2=(((f+b) / 2:Nat):Int):=by lia
  refine⟨⟨by decide,by decide⟩,?_⟩;refine(aG _ (.ref W[(f+b) / 2].1) (SqL.of hW) (by rw[ei];exact dA (by rw[Zk,gm];rfl)) (aG (kl W[(f+b) / 2].2) (kl e) (SqT.of (hT _ (Zp _))) (SqT.of hta) ?_));refine i2 (λz=>?_) (λz=>?_)
  ·exact(qU (b-((f+b) / 2+1)) (by omega) rfl ((f+b) / 2+1) b _ _ _ rfl (eJ (by lia) rfl (by lia) hb (MI dn gk z) hdn rfl))
  ·exact(qU ((f+b) / 2-f) (by lia) rfl f ((f+b) / 2) _ _ _ rfl (eJ rfl ei (by lia) (by lia) hup (MJ dn gk (by simpa using z)) rfl))
 ·have c':¬(f:Int)<(b:Int):=λz=>c (Ye z);have e':f=b:=by lia
  subst e';refine(DJ (.inl ⟨rfl,_,SqL.of hW⟩) (wr W) f (.ref ta) rfl hW (by rw[Zq];exact hb) (by rw[Zq];exact Xz hl (!1)) ?_);have q':=q (W.take f++(ta,e)::W.drop f) (by
   have p1:(W.take f++(ta,e)::W.drop f).Perm ((ta,e)::(W.take f++W.drop f)):=List.perm_middle
   rwa [List.take_append_drop]at p1) (by
   rw[Zt,ZJ,List.map_take,List.map_drop];exact OP dn (by rw[Zq];exact hb) hup hdn)
  have ew:wr (W.take f++(ta,e)::W.drop f)=aU (wr W) f (.ref ta):=by
   unfold aU wr;rw[Zt,ZJ,List.map_take,List.map_drop]
  rw[ew]at q';exact q'
theorem ES{E:List En}{x:En}(nd:((E++[x]).map (·.v)).Nodup)(D:Int)(v:Nat):lift (E++[x]) D v=if v=x.v then D-x.d else lift E D v:=by
 by_cases z:v=x.v
 ·rw[Yb z,z,gW nd (!5)]
 ·rw[Ya z];unfold lift;rw[List.find?_append];have:[x].find? (λu=>u.v==v)=none:=List.find?_eq_none.mpr λu hu y=>by
   have:u=x:=by simpa using hu
   subst this;exact z (Yi y).symm
  rw[this,Option.or_none]
def BZ(C:Addr):Sp:=λvs H Q _=>∃(s d:Addr) (A:SA) (ws:List Way) (ds:List (!34)) (ps gs rs:List Int) (R:List (Addr×En)) (x:Addr×En),vs=[.ref s,.ref d,vn x.2.v]/\SAt C H s A ws ds ps gs rs/\H d=some (.dK (kvR R))/\(∀y∈R,H y.1=some (.tup (ev y.2))/\y.2.v<ps.length)/\((es R).map (·.v)).Nodup/\x∈R /\
 ∀(H':Hp) (ps':List Int),(∀b o,b≠A.p->b≠d->H b=some o->H' b=some o)->H' A.p=some (.lst (ps'.map V.int))->Rd H' d (.dK (kvR R))->ps'.length=ps.length->(∀v,at0 ps' v=at0 ps v+lift (es R) x.2.d v)->Q .non H'
theorem HP(T:Txt K mg t):Ok P w base T 39 1 (BZ (t.c 0)):=by
 left
 obtain⟨s',d,A',ws,ds,ps,gs,rs,R,x,rfl,S,hd,hR,ndp,hx,q⟩:=h;have hu:=CU hr;refine(xWP _ (by exists HD (pv 1),3,4,iR ?_ (pv 3) gL ?_ mS set_list,dH (pv 0) rfl,aI,jV hu (pv 1) (pv 2) (λ_ _=>rfl),aI,4) ?_);refine(xWP _ hd (λo=>?_));obtain⟨dx,ob⟩:=S.ob;have npd:A'.p≠d:=b8 S.p hd (!36);refine E1 (λi σ H'=>(∀b o,b≠A'.p->b≠d->H b=some o->H' b=some o)/\H' d=some (.frz o (.dK (kvR R)))/\(∃ps':List Int,H' A'.p=some (.lst (ps'.map V.int))/\ps'.length=ps.length/\∀v,at0 ps' v=at0 ps v+lift ((es R).take i) x.2.d v)/\∃o3 o4:Option V,σ=[some (.ref s'),some (.ref d),some (vn x.2.v),o3,o4])
  (bN (λb o' _ h2 h=>by rw[aH h2];exact h) aB (aM ps (by rw[aH npd];exact S.p) rfl (λv=>by rw[List.take_zero];show _=_+(0:Int);lia)) (!44)) (λi σ H' _ h=>h.2.1) ?_ ?_
 ·rintro i p σ H' Tp hp ⟨k1,kd,⟨ps',e1,l1,a1⟩,o3,o4,rfl⟩ hTp;unfold kvR at hp;rw[Zk]at hp;obtain⟨y,hy,rfl⟩:=Xv.mp hp;have my:=Zg hy;have gT:=aC hTp (.tup [kV (Sum.inl (y.2.v:Int)),.ref y.1]);have ny:∀z∈R,z.1≠A'.p/\z.1≠d:=λz hz=>⟨b8 (hR z hz).1 S.p (!36),b8 (hR z hz).1 hd (!36)⟩
  have tup:∀z∈R,(upd H' Tp (.tup [kV (Sum.inl (y.2.v:Int)),.ref y.1])) z.1=some (.tup (ev z.2)):=λz hz=>gT _ _ (k1 _ _ (ny z hz).1 (ny z hz).2 (hR z hz).1);have ob':=gT _ _ (k1 _ _ (b8 ob S.p (!36)) (b8 ob hd (!36)) ob);have hv:=(hR y my).2;refine(!31);refine(aV _ dx _ _ ob' T.x.l T.x.n1 (oW _ _ _ _ _) (aO _ _ (SqL.of (gT _ _ e1)) (by show 0<=(y.2.v:Int);lia) (aQ (j:=y.2.v) (by lia) rfl) ?_));refine(xWP (.ref x.1) (by have:=i9.r (H:=upd H' Tp (.tup [kV (Sum.inl (y.2.v:Int)),.ref y.1])) (a:=d) (kvs:=kvR R) (k:=Sum.inl (x.2.v:Int)) (.inr ⟨o,gT _ _ kd⟩);rw[oF ndp hx rfl]at this;exact this) (aG _ _ (SqT.of (tup x hx)) rfl ?_));refine(aG _ _ (SqT.of (tup y my)) rfl (aG _ y.2.v (gT _ _ e1) (dE (!26) rfl) ?_));have e2:=gT _ _ e1;refine(bN (λb o' h1 h2 h=>by rw[aH h1];exact gT _ _ (k1 b o' h1 h2 h)) (by rw[aH npd.symm];exact gT _ _ kd) (aM (ps'.set y.2.v (at0 ps' y.2.v+(x.2.d-y.2.d))) (by rw[aB,ZH]) (by rw[ZR];exact l1) (λv=>?_)) (!44));have ey:(es R)[i]?=some y.2:=by rw[Zk,hy];rfl
  obtain⟨hi,ei⟩:=Zj.mp ey;have tk:(es R).take (i+1)=(es R).take i++[y.2]:=by rw[List.take_succ,ey];rfl
  have ndt:(((es R).take i++[y.2]).map (·.v)).Nodup:=by
   rw[<-tk,List.map_take];exact(List.take_sublist _ _).nodup ndp
  rw[tk,ES ndt,lQ (by lia)];by_cases z:v=y.2.v
  ·subst z;rw[Yb rfl,Yb rfl,a1];have:lift ((es R).take i) x.2.d y.2.v=0:=nG (λu hu e=>by
    rw[Zt,List.nodup_append]at ndt;exact ndt.2.2 u.v (Zh.mpr (xWP u hu rfl)) y.2.v (!5) e) _
   lia
  ·rw[Ya z,Ya z];exact a1 v
 ·rintro σ H' ⟨k1,kd,⟨ps',e1,l1,a1⟩,o3,o4,rfl⟩;have ek:(kvR R).length=(es R).length:=by unfold kvR;rw[Zq,Zq]
  rw[ek,Yv]at a1;exact q H' ps' k1 e1 (.inr ⟨o,kd⟩) l1 a1
end
theorem tF{xs:List V}{x:V}(h:xs.getLast?=some x):atI xs (-1)=some x:=by
 have hn:xs≠[]:=λz=>by rw[z]at h;cases h
 have hl:0<xs.length:=List.length_pos_iff.mpr hn;rw[List.getLast?_eq_getElem?]at h;unfold atI ixN;rw[Ya (by lia),Yb (by lia)];show xs[((-1:Int)+(xs.length:Int)).toNat]?=_;rw[show((-1:Int)+(xs.length:Int)).toNat=xs.length-1 by lia];exact h
theorem CY(a b:Nat->Nat)(k:Nat){by_:Int}(h:by_=1\/by_ = -1):fr a b k (-by_)=sd a b k by_:=by
 rcases h with rfl | rfl<;>rfl
theorem pH(x:Int)(q:Nat×Int):∀(bs:List (Nat×Int)) (g:Nat->Int) (j:Nat),dP g x (bs++[q]) j=dP g x bs j+if j=q.1 then q.2*x else 0
 |[],g,j=>rfl
 |p::bs,g,j=>pH x q bs _ j
theorem tJ.mono{H H':Hp}{a:Addr}{l:List (Nat×Int)}(h:tJ H a l)(g:aK H H'):tJ H' a l:=h.keep λb xs=>⟨λ_=>g _ _,g _ _⟩
section
def GC(C:Addr):Sp:=λvs H Q _=>∃(s d:Addr) (A:SA) (ws:List Way) (ds:List (!34)) (ps gs rs:List Int) (R:List (Addr×En)) (x:Addr×En) (i c:Nat) (bs:List (Nat×Int)),vs=[.ref s,.ref d,vn x.2.v]/\SAt C H s A ws ds ps gs rs/\Rd H d (.dK (kvR R))/\(∀y∈R,H y.1=some (.tup (ev y.2)))/\((es R).map (·.v)).Nodup/\R[i]?=some x/\Back (sd (aF ws) (bF ws)) (es R) i bs c /\
 (∀q∈bs,q.1<ws.length/\(q.2=1\/q.2 = -1))/\bs.length<=1000/\∀(l:Addr) (H':Hp),H l=none->aK H H'->tJ H' l bs->Q (.ref l) H'
theorem LW(T:Txt K mg t)(G_far_side:Ok P w base T 36 1 (B3 (t.c 0))):Ok P w base T 40 2 (GC (t.c 0)):=by
 left
 obtain⟨s',d,A',ws,ds,ps,gs,rs,R,x,i,c,bs,rfl,S,hd,hR,ndp,hi,hB,hbs,hbl,q⟩:=h;have hu:=CU hr;refine(xWP _ (by exists 3,4,jV hu (pv 1) (pv 2) (λ_ _=>rfl),fX,aI,4,3,aI,4,aI,4,4,jV hu (pv 1) ?_ (λ_ _=>rfl),cX G_far_side hr (T.f 36) bR ?_,0,aI,4,aI,4,3) ?_);refine⟨!23,λl hl=>?_⟩;have g1:=aC hl (!49);have rd:∀{H':Hp},aK H H'->Rd H' d (.dK (kvR R)):=λ{H'} g=>hd.imp (g _ _) λ⟨o,z⟩=>⟨o,g _ _ z⟩
 have dg:∀{H':Hp}{y:Addr×En}{v:Int},aK H H'->y∈R->v=(y.2.v:Int)->i9 H' d (.int v) (some (.ref y.1)):=λ{H' y v} g hy hv=>by
  have:=i9.r (k:=Sum.inl v) (rd g);rw[oF ndp hy hv]at this;sleep 19
 have mx:=Zg hi;refine(xWP _ (dg g1 mx rfl) ?_);refine⟨λm σ H'=>∃(j:Nat) (y:Addr×En) (b1 b2:List (Nat×Int)),m=b2.length/\R[j]?=some y/\Back (sd (aF ws) (bF ws)) (es R) j b2 c/\bs=b1++b2/\aK H H'/\tJ H' l b1/\σ=[some (.ref s'),some (.ref d),some (vn x.2.v),some (.ref l),some (.ref y.1)],
  (a7 _ i x ([]) bs rfl hi hB rfl (xPP g1 (aM ([]) aB rfl (λj q hq=>by simp at hq)) rfl)),?_⟩
 rintro m σ H' ⟨j,y,b1,b2,rfl,hj,hB',rfl,g2,dr,rfl⟩;have my:=Zg hj;have ey:(es R)[j]?=some y.2:=by rw[Zk,hj];rfl
 have ty:=g2 _ _ (hR y my);refine(aG _ _ (SqT.of ty) rfl ?_);cases hB' with
 |stop g hb =>
  rw[ey]at g;cases g;refine iNS (by rw[hb]) (?_);rw[List.append_nil]at q;exact q l H' hl g2 dr
 |@step _ j' _ e u b2' g hb hj' gu uv hB'' =>
  rw[ey]at g;cases g;obtain⟨y',hy',eu⟩:=Xv.mp (show(R[j']?).map (·.2)=some u by rw[<-Zk];exact gu);have my':=Zg hy';obtain⟨hk,h1⟩:=hbs (y.2.k,y.2.by_) (!5);refine iTb (by rw[Yc (λz=>hb (V.int.inj z))];rfl) (xWP _ (λσ' H'' h=>h) ?_);obtain⟨rs',d1,d2,d3⟩:=dr;refine(qY (.inl ⟨rfl,_,SqL.of d1⟩) _ _ (SqT.of ty) rfl _ _ (SqT.of ty) rfl ⟨ !9,λTq hTq=>?_⟩);have g3:=aC hTq (.tup [vn y.2.k,.int y.2.by_]);have hlen:(rs'.map V.ref).length<ZW:=by
   rw[Zq,d2];rw[Zm,Yq]at hbl;exact Xz (by lia:b1.length<1000) (!1)
  refine(aM _ (g3 _ _ d1) hlen ?_);have nlT:Tq≠l:=(aE d1 hTq).symm;have g4:aK H (upd (upd H' Tq (.tup [vn y.2.k,.int y.2.by_])) l (.lst (rs'.map V.ref++[.ref Tq]))):=λb o h=>by rw[aH (aE h hl)];exact g3 _ _ (g2 _ _ h)
  have ntl:∀{r:Addr}{xs:List V},H' r=some (.tup xs)->r≠l:=λh=>b8 h d1 (!36);have ty4:=g4 _ _ (hR y my);refine(aW _ _ (SqT.of ty4) rfl _ _ (SqT.of ty4) rfl (aR s' A' ws ds ps gs rs y.2.k (-y.2.by_) (bN rfl (S.mono g4) hk ?_)));refine(xWP _ (dg g4 my' (by rw[CY _ _ _ h1,<-uv,eu])) ?_);refine(y8 b2'.length (by rw[Yq];lia) j' y' (b1++[(y.2.k,y.2.by_)]) b2' rfl hy' hB'' (bN (by rw[Yn];rfl) g4 (aM (rs'++[Tq]) (by rw[aB,Zt];rfl) (by rw[Zm,Zm,d2];rfl) (λi' q' hq'=>?_)) rfl));rcases Xk i' b1.length with z | z
  ·rw[Zx z]at hq';obtain⟨r,r1,r2⟩:=d3 i' q' hq';exact(xWP r (by rw[Zx (by lia)];exact r1) (by rw[aH (ntl r2)];exact g3 _ _ r2))
  ·rw[Zy z]at hq';have z0:i' - b1.length=0:=by
    have:=(Zj.mp hq').1;simp at this
    lia
   rw[z0]at hq';cases hq';exact(xWP Tq (by rw[Zy (by lia),d2,z0];rfl) (by rw[aH nlT];exact aB))
def F9(C:Addr):Sp:=λvs H Q _=>∃(s l:Addr) (A:SA) (ws:List Way) (ds:List (!34)) (ps gs rs:List Int) (bs:List (Nat×Int)) (ql:Nat×Int) (last:Nat),vs=[.ref s,.ref l,vn last]/\SAt C H s A ws ds ps gs rs/\tJ H l bs/\l≠A.g/\l≠A.r/\bs.getLast?=some ql/\bs.length<=1000 /\
 (∀q∈bs,q.1<ws.length/\(q.2=1\/q.2 = -1))/\gs.length=ws.length/\sd (aF ws) (bF ws) ql.1 ql.2<rs.length/\last<rs.length /\
 ∀(x:Int) (H':Hp) (gs' rs':List Int),x<=at0 rs (sd (aF ws) (bF ws) ql.1 ql.2)->x<=- at0 rs last->(∀q∈bs,∀r,rm ws gs q.1 q.2=some r->x<=r)->(x=at0 rs (sd (aF ws) (bF ws) ql.1 ql.2)\/x = - at0 rs last\/∃q∈bs,rm ws gs q.1 q.2=some x) ->
  (∀b o,b≠A.g->b≠A.r->H b=some o->H' b=some o)->H' A.g=some (.lst (gs'.map V.int))->gs'.length=gs.length->(∀k,at0 gs' k=dP (at0 gs) x bs k)->H' A.r=some (.lst (rs'.map V.int))->rs'.length=rs.length ->
  (∀v,at0 rs' v=at0 rs v-(if sd (aF ws) (bF ws) ql.1 ql.2=v then x else 0)+(if last=v then x else 0))->Q .non H'
theorem LV(T:Txt K mg t)(G_far_side:Ok P w base T 36 1 (B3 (t.c 0)))(G_room:Ok P w base T 37 1 (zW (t.c 0))):Ok P w base T 41 2 (F9 (t.c 0)):=by
 refine T.okN 41 (scm:dU ["search","path","last","begin","rooms","bounds","amount","number","by"] _ _) (λvs H Q E h=>?_) ?_
 ·obtain⟨s,l,A,ws,ds,ps,gs,rs,bs,ql,last,rfl,_⟩:=h;rfl
 sleep 14;obtain⟨s',l,A',ws,ds,ps,gs,rs,bs,ql,last,rfl,S,dr,nlg,nlr,hql,hbl,hbs,hgl,hc,hla,q⟩:=h;refine(xWP _ (by exists 3,cX G_far_side hr (T.f 36) bR ?_,0,aI,aJ,1,aI,aJ,1,(fH 4 ["number","by","search"] [none,none,some 0]),bE ?_,1,0,1,cX G_room hr (T.f 37) bR ?_,2,0,1,(fH 5 ["most"] [none]),bE ?_,4,0,mI ?_,jW,0,0,6,bC (lP rfl) rfl (T.z 9) boot_min ?_,sE,aJ,dH (pv 0) rfl,3,aJ,dH (pv 0) rfl,2,5,bE ?_,1,7,8,iR ?_ (pv 7) gL ?_ mS set_list,dH (pv 0) rfl,8,6,iR ?_ (pv 3) gL (pv 6) IT set_list,dH (pv 0) rfl,iR ?_ (pv 2) gL (pv 6) mS set_list,dH (pv 0) rfl) ?_);obtain⟨lr,d1,d2,d3⟩:=id dr;obtain⟨dx,ob⟩:=S.ob;have mq:=List.mem_of_getLast? hql;obtain⟨r0,q1,q2⟩:∃r,(lr.map V.ref).getLast?=some (.ref r)/\H r=some (.tup [vn ql.1,.int ql.2]):=by
  rw[List.getLast?_eq_getElem?]at hql;obtain⟨r,e1,e2⟩:=d3 _ _ hql;refine(xWP r ?_ e2);rw[List.getLast?_eq_getElem?,Zq,Zk,d2,e1];rfl
 obtain⟨hk0,h10⟩:=hbs ql mq;refine(aG _ _ (SqL.of d1) (tF q1) (aW _ _ (SqT.of q2) rfl _ _ (SqL.of d1) (tF q1) (aG _ _ (SqT.of q2) rfl (aR s' A' ws ds ps gs rs ql.1 (-ql.2) (bN rfl S hk0 ?_)))));rw[CY _ _ _ h10];generalize hC:sd (aF ws) (bF ws) ql.1 ql.2=c at hc q;refine⟨⟨_,SqL.of d1⟩,λD hD=>?_⟩;have at_:∀{i:Nat},i<bs.length->∃r,(lr.map V.ref)[i]?=some (.ref r)/\H r=some (.tup [vn (bs.getD i (0,0)).1,.int (bs.getD i (0,0)).2])/\bs.getD i (0,0)∈bs:=λ{i} hi=>by
  obtain⟨r,e1,e2⟩:=d3 i bs[i] (Zz hi);have e3:bs.getD i (0,0)=bs[i]:=by simp[List.getD,hi]
  rw[e3];exact(aM r (by rw[Zk,e1];rfl) e2 (Zp hi))
 refine bJ bs.length (λi=>vo (rm ws gs (bs.getD i (0,0)).1 (bs.getD i (0,0)).2)) hD (by lia) (λi H' hi g=>by obtain⟨r,e1,_⟩:=at_ hi;exact(bM _ _ (SqL.of (g _ _ d1)) e1)) (λH' g=>(xWP _ (SqL.of (g _ _ d1)) (!26))) ?_ ?_
 ·rintro i H' x H'' k hi g ⟨rfl,hx⟩ hk;obtain⟨r,e1,e2,e3⟩:=at_ hi;have ex:=hx _ (SqL.of (g _ _ d1));rw[e1]at ex;cases ex;refine(aM _ (SqT.of (g _ _ e2)) rfl ⟨ (!13).set _ rfl,?_⟩);exact(aR s' A' ws ds ps gs rs _ _ (bK rfl (S.mono g) ((hbs _ e3).1) hgl (hk _ (aK.refl _))))
 intro H1 g1 eD;obtain⟨rl,hrl⟩:∃rl:List (!18),rl=(ZS bs.length).map λi=>rm ws gs (bs.getD i (0,0)).1 (bs.getD i (0,0)).2:=⟨_,rfl⟩
 have erl:(ZS bs.length).map (λi=>vo (rm ws gs (bs.getD i (0,0)).1 (bs.getD i (0,0)).2))=vos rl:=by rw[hrl];unfold vos;rw[Ym];rfl
 rw[erl]at eD;have lrl:rl.length=bs.length:=by rw[hrl];simp
 refine⟨⟨_,SqL.of eD⟩,λD2 hD2=>?_⟩;refine iW rl.length (λi ys H'=>ys=((rl.take i).filterMap id).map V.int/\aK H1 H'/\H' D2=some (.lst ys)) (xPP rfl (aC hD2 _) aB) ?_ ?_
 ·rintro i ys H' hi ⟨rfl,g2,e2⟩;have tk:(rl.take (i+1)).filterMap id=(rl.take i).filterMap id++([ov rl i]).filterMap id:=by
   rw[List.take_succ,List.filterMap_append];congr 1;unfold ov;simp[List.getD,hi]
  refine⟨(bM _ _ (SqL.of (g2 _ _ eD)) (u5 hi)),?_⟩;rintro x H'' ⟨rfl,hx⟩;have ex:=hx _ (SqL.of (g2 _ _ eD));rw[u5 hi]at ex;cases ex;refine⟨(Fills.refl _).set _ rfl,?_⟩;refine⟨rfl,?_⟩;have hlen:(((rl.take i).filterMap id).map V.int).length<ZW:=by
   rw[Zq];have:=List.length_filterMap_le id (rl.take i);rw[Yw]at this;exact Xz (by lia:((rl.take i).filterMap id).length<1001) (!1)
  rcases ho:ov rl i with _ | z
  ·refine iF (xPP ?_ g2 e2);rw[tk,ho];simp
  ·refine iT (bK e2 hlen ?_ ?_ aB)
   ·rw[tk,ho];simp;rfl
   ·exact λb o h=>by rw[aH (aE h hD2)];exact g2 _ _ h
 rintro ys H2 ⟨rfl,g2,e2⟩;rw[Yv]at e2;refine⟨(xWP _ (SqL.of (g2 _ _ eD)) (by unfold vos;rw[Zq];exact ZC _)),?_⟩;have g02:=g1.trans g2;have ob2:=g02 _ _ ob;have hr2:=g02 _ _ S.r;refine(aV _ dx _ _ ob2 T.x.l T.x.n3 (eZ _ _ _ _ _) (aG _ _ (SqL.of hr2) (aQ hc rfl) ?_));refine(aV _ dx _ _ ob2 T.x.l T.x.n3 (eZ _ _ _ _ _) (aG _ _ (SqL.of hr2) (aQ hla rfl) ⟨ !9,λl2 hl2=>?_⟩));have g3:=aC hl2 (.lst [.int (at0 rs c),.int (-at0 rs last)]);have lb:(rl.filterMap id).length<=1000:=by
  have:=List.length_filterMap_le id rl
  lia
 refine(aO _ _ aB (g3 _ _ e2) ?_ (λl3 hl3=>?_))
 ·rw[Zq];exact YQ (show 2+(rl.filterMap id).length<=1002 by lia) (!1)
 have g4:=aC hl3 (.lst ([.int (at0 rs c),.int (-at0 rs last)]++(rl.filterMap id).map V.int));refine(aO l3 (at0 rs c::-at0 rs last::rl.filterMap id) rfl (SqL.of aB) (!5) (λx hx hle=>?_));have g04:=g02.trans (g3.trans g4);have mrl:∀r,some r∈rl↔∃q∈bs,rm ws gs q.1 q.2=some r:=λr=>by
  rw[hrl,Zh];constructor
  ·rintro⟨i,hi,e⟩;obtain⟨_,_,_,e3⟩:=at_ (Zs.mp hi);exact(xWP _ e3 e)
  ·rintro⟨q',hq',e⟩;obtain⟨i,hi,rfl⟩:=Yy.mp hq';exact(xWP i (Zs.mpr hi) (by rw[<-e];simp[List.getD,hi]))
 have mfm:∀r,r∈rl.filterMap id↔∃q∈bs,rm ws gs q.1 q.2=some r:=λr=>by
  rw[<-mrl,List.mem_filterMap];constructor
  ·rintro⟨o,h1,h2⟩;exact h2▸h1
  ·intro h;exact(xWP _ h rfl)
 have x1:x<=at0 rs c:=hle _ (!5);have x2:x<=- at0 rs last:=hle _ (!5);have x3:∀q∈bs,∀r,rm ws gs q.1 q.2=some r->x<=r:=λq' hq' r e=>hle _ (by simp only[Zn];exact .inr (.inr ((mfm r).mpr (xWP q' hq' e))));have x4:x=at0 rs c\/x = - at0 rs last\/∃q∈bs,rm ws gs q.1 q.2=some x:=by
  simp only[Zn]at hx;exact hx.imp id λz=>z.imp id λz=>(mfm x).mp z
 generalize upd (upd H2 l2 (.lst [.int (at0 rs c),.int (-at0 rs last)])) l3 (.lst ([.int (at0 rs c),.int (-at0 rs last)]++(rl.filterMap id).map V.int))=H4 at g04;refine⟨⟨_,SqL.of (g04 _ _ d1)⟩,eY (xs:=lr.map V.ref) (λi σ H'=>(∀b o,b≠A'.g->H b=some o->H' b=some o)/\(∃gs':List Int,H' A'.g=some (.lst (gs'.map V.int))/\gs'.length=gs.length/\∀k,at0 gs' k=dP (at0 gs) x (bs.take i) k) /\
  ∃o7 o8:Option V,σ=[some (.ref s'),some (.ref l),some (vn last),some (vn c),some (.ref D),some (.ref D2),some (.int x),o7,o8]) (xPP (λb o _ h=>g04 _ _ h) (aM gs (g04 _ _ S.g) rfl (λk=>rfl)) (!44)) (λi σ H' _ h=>SqL.of (h.1 _ _ nlg d1)) ?_ ?_⟩
 ·rintro i y σ H' hy ⟨k1,⟨gs',e1,l1,a1⟩,o7,o8,rfl⟩;have hi:i<bs.length:=by
   have:=(Zj.mp hy).1;rw[Zq,d2]at this;sleep 19
  obtain⟨r,f1,f2,f3⟩:=at_ hi;rw[f1]at hy;cases hy;have f4:=k1 _ _ (b8 f2 S.g (!36)) f2;obtain⟨b1,b2⟩:=hbs _ f3;have ob':=k1 _ _ (b8 ob S.g (!36)) ob;refine(aM _ (SqT.of f4) rfl ?_);refine(aV _ dx _ _ ob' T.x.l T.x.n2 (nN _ _ _ _ _) (aO _ _ (SqL.of e1) (by show 0<=((bs.getD i (0,0)).1:Int);lia) (aQ (j:=(bs.getD i (0,0)).1) (by lia) rfl) ?_));refine(eQ (.inl (by rcases b2 with z | z<;>rw[z]<;>exact⟨by decide,by decide⟩)) _ ((bs.getD i (0,0)).1) e1 (dE (!26) rfl) ?_);refine(xPP (λb o h1 h=>by rw[aH h1];exact k1 b o h1 h) (aM (gs'.set (bs.getD i (0,0)).1 (at0 gs' (bs.getD i (0,0)).1+(bs.getD i (0,0)).2*x)) (by rw[aB,ZH]) (by rw[ZR];exact l1) (λk=>?_)) (!44));have tk:bs.take (i+1)=bs.take i++[bs.getD i (0,0)]:=by
   rw[List.take_succ];congr 1;simp[List.getD,hi]
  rw[tk,pH,lQ (by lia)];by_cases z:k=(bs.getD i (0,0)).1
  ·rw[Yb z,Yb z,<-z,a1]
  ·rw[Ya z,Ya z,a1];lia
 rintro σ H5 ⟨k1,⟨gs',e5,l5,a5⟩,o7,o8,rfl⟩;rw[Zq,d2,Yv]at a5;have ob5:=k1 _ _ (b8 ob S.g (!36)) ob;have r5:=k1 _ _ S.gr.symm S.r;refine(aV _ dx _ _ ob5 T.x.l T.x.n3 (eZ _ _ _ _ _) (aO _ _ (SqL.of r5) (by show 0<=(c:Int);lia) (aQ (j:=c) hc rfl) (aG _ c r5 (dE (!26) rfl) ?_)));rw[show(rs.map V.int).set c (V.int (at0 rs c-x))=(rs.set c (at0 rs c-x)).map V.int by rw[ZH]];have ob6:(upd H5 A'.r (.lst ((rs.set c (at0 rs c-x)).map V.int))) s'=_:=(aH (b8 ob5 r5 (!36))).trans ob5;refine(aV _ dx _ _ ob6 T.x.l T.x.n3 (eZ _ _ _ _ _) (aO _ _ (SqL.of aB) (by show 0<=(last:Int);lia) (aQ (j:=last) (by rw[ZR];exact hla) rfl) (aG _ last aB (dE (by rw[Zq,ZR];lia) rfl) ?_)));refine q x _ gs' (step rs ⟨c,last,0,none,0⟩ x) x1 x2 x3 x4 (λb o h1 h2 h=>by rw[aH h2,aH h2];exact k1 b o h1 h) ?_ l5 a5 ?_ (mX _ _ _) λv=>yY (w:=⟨c,last,0,none,0⟩) hc hla v
 ·rw[aH S.gr,aH S.gr];exact e5
 ·rw[aB];unfold NM.step;simp only[ZH]
end
inductive y0{S:Type}(st:S->S->Prop)(a:S):S->Prop
 |refl:y0 st a a
 |tail {b c:S}:y0 st a b->st b c->y0 st a c
section
variable{S:Type}{st:S->S->Prop}{a b c:S}
end
theorem P0{e u:En}(h:kl e=kl u):e=u:=by
 obtain⟨d,v,k,b⟩:=e;obtain⟨d',v',k',b'⟩:=u;unfold kl at h;simp only[List.cons.injEq,and_true]at h;obtain⟨h1,h2,h3,h4⟩:=h;have h2:v=v':=by lia
 have h3:k=k':=by lia
 subst h1;subst h2;subst h3;subst h4;rfl
section
variable(ws:List Way)(ds:List (!34))(ps gs rs:List Int)
abbrev far(q:Nat×Int):Nat:=fr (aF ws) (bF ws) q.1 q.2
abbrev dis(x:En)(q:Nat×Int):Int:=x.d+ln (aF ws) (bF ws) (coF ws) (at0 ps) q.1 q.2
def AR(x:En)(q:Nat×Int)(nr:Nat->Option Int):Prop:=(∀z,nr (far ws q)=some z->dis ws ps x q<z)/\rm ws gs q.1 q.2≠some 0
def SC(x:En)(q:Nat×Int)(s t:List En×(Nat->Option Int)):Prop :=
 (AR ws ps gs x q s.2/\t.1.Perm (⟨dis ws ps x q,far ws q,q.1,q.2⟩::s.1)/\Dn (t.1.map kl)/\t.2=λv=>if v=far ws q then some (dis ws ps x q) else s.2 v)\/(¬AR ws ps gs x q s.2/\t=s)
def Drs(x:En)(l:List (Nat×Int)):Nat->(List En×(Nat->Option Int))->(List En×(Nat->Option Int))->Prop
 |0,s,t=>t=s
 |i+1,s,u=>∃t q,Drs x l i s t/\l[i]?=some q/\SC ws ps gs x q t u
structure RS where
 W:List En
 R:List En
 nr:Nat->Option Int
def NL(s t:RS):Prop:=∃(W':List En) (x:En),s.W=W'++[x]/\((x.v∈s.R.map (·.v)/\t=⟨W',s.R,s.nr⟩) \/
 (x.v∉s.R.map (·.v)/\¬at0 rs x.v<0/\∃l,ds[x.v]?=some l/\t.R=s.R++[x]/\Drs ws ps gs x l l.length (W',s.nr) (t.W,t.nr)))
def TF(s:RS)(R:List En):Prop:=(s.W=[]/\R=s.R)\/∃(W':List En) (x:En),s.W=W'++[x]/\x.v∉s.R.map (·.v)/\at0 rs x.v<0/\R=s.R++[x]
def j5(i:Nat):List En:=((ZS i).filter λv=>decide (0<at0 rs v)).map λv=>⟨0,v,0,0⟩
theorem pM(i:Nat):j5 rs (i+1)=j5 rs i++(if 0<at0 rs i then [⟨0,i,0,0⟩] else []):=by
 unfold j5;rw[ZI,List.filter_append,Zt];congr 1;by_cases z:0<at0 rs i
 ·rw[Yb z,List.filter_cons_of_pos (p:=λv=>decide (0<at0 rs v)) (Ye z)];rfl
 ·rw[Ya z,List.filter_cons_of_neg (p:=λv=>decide (0<at0 rs v)) (by simpa using z)];rfl
def Rr(n:Nat)(R:List En):Prop:=∃(W0:List En) (s:RS),W0.Perm (j5 rs n)/\Dn (W0.map kl)/\y0 (NL ws ds ps gs rs) ⟨W0,[],λ_=>none⟩ s/\TF rs s R
end
end K27
namespace L2
theorem Sc.of{b:Bool}{p:Prop}(h:b=true)(q:p):Sc b p:=by subst h;exact q
end L2
namespace K27
open PySem L2 PyProof.Rows NM FL
structure LS(H0 H:Hp)(wl na rd:Addr)(W R:List (Addr×En))(nr:Nat->Option Int)(c:Nat):Prop where
 g:aK H0 H
 w:H wl=some (.lst (wr W))
 wt:∀x∈W,H x.1=some (.tup (ev x.2))
 dn:Dn (W.map λx=>kl x.2)
 r:H rd=some (.dK (kvR R))
 rt:∀x∈R,H x.1=some (.tup (ev x.2))
 q:∃kvs,H na=some (.dK kvs)/\(∀v:Nat,fA kvs (Sum.inl (v:Int))=(nr v).map V.int)/\kvs.length<=c
 wb:W.length<=64+c
 nwl:H0 wl=none
 nna:H0 na=none
 nrd:H0 rd=none
 ne:na≠rd
section
variable{H0 H H':Hp}{wl na rd:Addr}{W R:List (Addr×En)}{nr:Nat->Option Int}{c:Nat}
theorem LS.mono(h:LS H0 H wl na rd W R nr c)(k:aK H H'):LS H0 H' wl na rd W R nr c:=by
 obtain⟨kvs,q1,q2⟩:=h.q;exact⟨h.g.trans k,k _ _ h.w,λx hx=>k _ _ (h.wt x hx),h.dn,k _ _ h.r,λx hx=>k _ _ (h.rt x hx),(xWP kvs (k _ _ q1) q2),h.wb,h.nwl,h.nna,h.nrd,h.ne⟩
theorem LS.more(h:LS H0 H wl na rd W R nr c){c':Nat}(k:c<=c'):LS H0 H wl na rd W R nr c':=by
 obtain⟨kvs,q1,q2,q3⟩:=h.q;have:=h.wb;exact⟨h.g,h.w,h.wt,h.dn,h.r,h.rt,(aM kvs q1 q2 (by lia)),by lia,h.nwl,h.nna,h.nrd,h.ne⟩
theorem LS.setw(h:LS H0 H wl na rd W R nr c){W':List (Addr×En)}(wt:∀x∈W',H x.1=some (.tup (ev x.2)))(dn:Dn (W'.map λx=>kl x.2))(wb:W'.length<=64+c):LS H0 (upd H wl (.lst (wr W'))) wl na rd W' R nr c:=by
 obtain⟨kvs,q1,q2⟩:=h.q;have k:∀b o,(∀z,o≠.lst z)->H b=some o->upd H wl (.lst (wr W')) b=some o:=λb o z e=>by rw[aH (b8 e h.w (λy=>z _ y))];exact e
 exact⟨λb o e=>by rw[aH (aE e h.nwl)];exact h.g _ _ e,aB,λx hx=>k _ _ (!52) (wt x hx),dn,k _ _ (!52) h.r,λx hx=>k _ _ (!52) (h.rt x hx),(xWP kvs (k _ _ (!52) q1) q2),wb,h.nwl,h.nna,h.nrd,h.ne⟩
theorem LS.setr(h:LS H0 H wl na rd W R nr c){x:Addr×En}(hx:H x.1=some (.tup (ev x.2))):LS H0 (upd H rd (.dK (kvR (R++[x])))) wl na rd W (R++[x]) nr c:=by
 obtain⟨kvs,q1,q2⟩:=h.q;have k:∀b o,(∀z,o≠.dK z)->H b=some o->upd H rd (.dK (kvR (R++[x]))) b=some o:=λb o z e=>by rw[aH (b8 e h.r (λy=>z _ y))];exact e
 exact⟨λb o e=>by rw[aH (aE e h.nrd)];exact h.g _ _ e,k _ _ (!52) h.w,λx hx=>k _ _ (!52) (h.wt x hx),h.dn,aB,λy hy=>k _ _ (!52) ((Zf.mp hy).elim (h.rt y) λz=>by
  have:y=x:=by simpa using z
  rw[this];exact hx),(xWP kvs (by rw[aH h.ne];exact q1) q2),h.wb,h.nwl,h.nna,h.nrd,h.ne⟩
theorem LS.setq(h:LS H0 H wl na rd W R nr c){kvs:List (Key×V)}(e:H na=some (.dK kvs))(f:Nat)(x:Int):LS H0 (upd H na (.dK (putK kvs (Sum.inl (f:Int)) (.int x)))) wl na rd W R (λv=>if v=f then some x else nr v) (c+1):=by
 obtain⟨kvs',q1,q2,q3⟩:=h.q;rw[e]at q1;cases q1;have k:∀b o,(∀z,o≠.dK z)->H b=some o->upd H na (.dK (putK kvs (Sum.inl (f:Int)) (.int x))) b=some o:=λb o z e'=>by rw[aH (b8 e' e (λy=>z _ y))];exact e'
 have:=h.wb;refine⟨λb o e'=>by rw[aH (aE e' h.nna)];exact h.g _ _ e',k _ _ (!52) h.w,λx hx=>k _ _ (!52) (h.wt x hx),h.dn,by rw[aH h.ne.symm];exact h.r,λx hx=>k _ _ (!52) (h.rt x hx),(aM _ aB (λv=>?_) (YQ (kP _ _ _) (by lia))),by lia,h.nwl,h.nna,h.nrd,h.ne⟩;rw[rH];by_cases z:v=f
 ·subst z;rw[Yb rfl,Yb rfl];rfl
 ·rw[Ya (λy=>z (by have:=Sum.inl.inj y;lia)),Ya z];exact q2 v
end
def wJ(B:List (Addr×En))(a:Addr):En:=match B.find? λx=>x.1==a with
 |some x=>x.2
 |none=>⟨0,0,0,0⟩
theorem wI{B:List (Addr×En)}{a:Addr}(h:a∈B.map (·.1)):(a,wJ B a)∈B:=by
 unfold wJ;cases e:B.find? (λx=>x.1==a) with
 |none =>
  obtain⟨x,hx,rfl⟩:=Zh.mp h;exact Yg (!5) (List.find?_eq_none.mp e x hx)
 |some x =>
  have h1:=List.find?_some e;have h2:=List.mem_of_find?_eq_some e;have h3:x.1=a:=Yi h1;subst h3;exact h2
theorem JE{e u:En}(h:ev e=ev u):kl e=kl u:=by
 have:∀(a b:List Int),a.map V.int=b.map V.int->a=b:=by
  intro a;induction a with
  |nil=>intro b h;cases b with
   |nil=>rfl
   |cons _ _=>cases h
  |cons x a ih=>intro b h;cases b with
   |nil=>cases h
   |cons y b =>
    rw[ZJ,ZJ]at h;obtain⟨h1,h2⟩:=List.cons.inj h;rw[V.int.inj h1,ih b h2]
 exact this _ _ h
section
def BY(C:Addr):Sp:=λvs H Q _=>∃(s:Addr) (A:SA) (ws:List Way) (ds:List (!34)) (ps gs rs:List Int) (n:Nat),vs=[.ref s]/\SAt C H s A ws ds ps gs rs/\SOk n ws ds ps gs rs/\n<64/\ws.length<=1000/\fW ws.length (aF ws) (bF ws) (loF ws) (hiF ws) (coF ws) (at0 gs) (at0 ps) /\
 ∀(d:Addr) (H':Hp) (R:List (Addr×En)),H d=none->aK H H'->H' d=some (.dK (kvR R))->(∀y∈R,H' y.1=some (.tup (ev y.2)))->Out (at0 rs) (sd (aF ws) (bF ws)) (fr (aF ws) (bF ws)) (ln (aF ws) (bF ws) (coF ws) (at0 ps)) (!50) n (es R)->Rr ws ds ps gs rs n (es R)->Q (.ref d) H'
theorem HN(T:Txt K mg t)(G_rate:Ok P w base T 27 1 (rM))(G_far_side:Ok P w base T 36 1 (B3 (t.c 0)))(G_room:Ok P w base T 37 1 (zW (t.c 0)))
  (G_put_in:Ok P w base T 38 1 NG):Ok P w base T 35 2 (BY (t.c 0)):=by
 refine T.okN 35 (scm:dU ["search","begun","waiting","nearest","reached","entry","knot","number","by","distance","far","nearer"] _ _) (λvs H Q E h=>?_) ?_
 ·obtain⟨s,A,ws,ds,ps,gs,rs,n,rfl,_⟩:=h;rfl
 sleep 14;obtain⟨s',A',ws,ds,ps,gs,rs,n,rfl,S,O,hn,hm,sr,q⟩:=h;have hu:=CU hr;refine(xWP _ (by exists (fH 1 ["knot","rest"] [none,none]),cV rfl (T.z 3) ?_,dH (pv 0) rfl,0,1,mI ?_,1,0,2,EE tQ rfl (T.z 11) boot_sorted ?_ (LJ NQ OU),1,3,nC,4,nC,bT (pv 2) (λ_=>rfl),5,HH YO PySem.F.slot_list_pop PySem.F.type_list_pop IJ (pv 2),6,aI,5,OQ (uI hu (pv 6) (pv 4)),qE hu (pv 4) (pv 6) (pv 5) rfl,aJ,dH (pv 0) rfl,6,4,bE ?_,aJ,dH (pv 0) rfl,6,7,8,9,aX,aI,5,8,cX G_rate hr (T.f 27) bR ?_,aJ,dH (pv 0) rfl,7,dH (pv 0) rfl,10,cX G_far_side hr (T.f 36) bR ?_,0,7,8,11,RL ?_ ?_,O2 (uI hu (pv 10) (pv 3)),vQ ?_,9,jV hu (pv 3) (pv 10) (λ_ _=>rfl),bT (pv 11) (λ_=>rfl),fX,cX G_room hr (T.f 37) bR ?_,0,7,8,qE hu (pv 3) (pv 10) (pv 9) rfl,cX G_put_in hr (T.f 38) bR ?_,2,9,10,7,8,4) ?_);obtain⟨dx,ob⟩:=S.ob;have hrl:=O.rl;refine(aV _ dx _ _ ob T.x.l T.x.n3 (eZ _ _ _ _ _) (aM A'.r rfl ⟨_,SqL.of S.r⟩ (λD hD=>?_)));refine iW n (λi ys H'=>∃B:List (Addr×En),ys=wr B/\(∀x∈B,H' x.1=some (.tup (ev x.2))/\vA (at0 rs) x.2/\x.2.v<n)/\(∀v,v<i->0<at0 rs v->∃x∈B,x.2.v=v)/\aK H H'/\H' D=some (.lst ys)/\B.length<=i/\es B=j5 rs i)
  (qV ([]) rfl (λx hx=>(by cases hx)) (λv hv=>Yg hv (Nat.not_lt_zero _)) (aC hD _) aB (ZC _) rfl) ?_ ?_
 ·rintro i ys H' hi ⟨B,rfl,hB,hv,g1,eD,bl,eB⟩;refine⟨(bM _ _ (SqL.of (g1 _ _ S.r)) (bX (by lia))),?_⟩;rintro x H'' ⟨Tp,x',rfl,hTp,rfl,hx⟩;have ex:=hx _ (SqL.of (g1 _ _ S.r));rw[bX (by lia)]at ex;cases ex;have g2:=aC hTp (.tup [.int (i:Int),.int (at0 rs i)]);refine(!29);refine(i2 (λc=>?_) (λc=>?_))
  ·have c':0<at0 rs i:=Yf c;refine⟨(by show 4<=ZW;decide),λT2 hT2=>?_⟩;have g3:=g2.trans (aC hT2 (.tup [.int 0,.int (i:Int),.int 0,.int 0]));refine(zG (g3 _ _ eD) (by rw[Zq];exact Xq bl (Xz (by lia:i<64) (!1))) (B++[(T2,⟨0,i,0,0⟩)]) (by unfold wr;rw[Zt];rfl) (λx hx=>?_) (λv hv' hp=>?_) (λb o h=>by rw[aH (aE h hD)];exact g3 _ _ (g1 _ _ h)) aB (by rw[Zm];exact Nat.succ_le_succ bl) (by rw[pM,Yb c',<-eB];unfold es;rw[Zt];rfl))
   ·rcases Zf.mp hx with hx | hx
    ·obtain⟨h1,h2⟩:=hB x hx;exact⟨by rw[aH (b8 (g3 _ _ h1) (g3 _ _ eD) (!36))];exact g3 _ _ h1,h2⟩
    ·have:x=(T2,⟨0,i,0,0⟩):=by simpa using hx
     subst this;refine(xPP ?_ (xPP rfl rfl c') hi);rw[aH (aE (g2 _ _ eD) hT2).symm];exact aB
   ·by_cases z:v=i
    ·subst z;exact(xWP _ (ZO _ (.head _)) rfl)
    ·obtain⟨x,h1,h2⟩:=hv v (by lia) hp;exact(xWP x (ZP _ h1) h2)
  ·have c':¬0<at0 rs i:=λz=>c (Ye z);refine(qV B rfl (λx hx=>⟨g2 _ _ (hB x hx).1,(hB x hx).2⟩) (λv hv' hp=>?_) (g1.trans g2) (g2 _ _ eD) (by lia) (by rw[pM,Ya c',List.append_nil];exact eB));by_cases z:v=i
   ·subst z;exact Yg hp c'
   ·exact hv v (by lia) hp
 rintro ys H1 ⟨B,rfl,hB,hv,g1,eD,bl,eB⟩;refine⟨(xWP _ (SqL.of (g1 _ _ S.r)) (!26)),?_⟩;refine(hJ D (B.map (·.1)) (λa=>kl (wJ B a)) rfl rfl (by unfold wr at eD;rw[Ym];exact SqL.of eD) (λa ha=>⟨by unfold kl;simp,SqT.of (hB _ (wI ha)).1⟩) (!26) (λwl ps' hwl hp hs=>?_));have inB:∀a∈ps',(a,wJ B a)∈B:=λa ha=>wI (hp.mem_iff.mp ha);intro na hna rd hrd;obtain⟨W0,hW0⟩:∃W0:List (Addr×En),W0=ps'.map λa=>(a,wJ B a):=⟨_,rfl⟩
 have ew:ps'.map V.ref=wr W0:=by rw[hW0];unfold wr;rw[Ym];rfl
 have mW:∀x∈W0,x∈B:=λx hx=>by
  rw[hW0]at hx;obtain⟨a,ha,rfl⟩:=Zh.mp hx;exact inB a ha
 have h1wl:H wl=none:=g1.free hwl;have k1:=aC hwl (.lst (ps'.map V.ref));have k2:=aC hna (.dK []);have k3:=aC hrd (.dK []);have gg:=g1.trans (k1.trans (k2.trans k3));have nne:na≠rd:=λz=>by rw[z,aB]at hrd;cases hrd
 have ls:LS H (upd (upd (upd H1 wl (.lst (ps'.map V.ref))) na (.dK [])) rd (.dK [])) wl na rd W0 [] (λ_=>none) 0:=by
  refine⟨gg,?_,λx hx=>(k1.trans (k2.trans k3)) _ _ (hB x (mW x hx)).1,?_,aB,λx hx=>(by cases hx),(aM ([]) (k3 _ _ aB) (λv=>rfl) (ZC _)),?_,h1wl,(g1.trans k1).free hna,(g1.trans (k1.trans k2)).free hrd,nne⟩
  ·rw[<-ew];exact(k2.trans k3) _ _ aB
  ·unfold Dn;rw[hW0,Ym,List.pairwise_map];exact hs
  ·rw[hW0,Zq,hp.length_eq,Zq];lia
 have rch0:Rch (at0 rs) (sd (aF ws) (bF ws)) (fr (aF ws) (bF ws)) (ln (aF ws) (bF ws) (coF ws) (at0 ps)) (!50) n (λ_ _=>False) (es []) (es W0) (λ_=>none):=by
  refine Rch.start (λe he=>?_) (λv hv' hp'=>?_)
  ·obtain⟨x,hx,rfl⟩:=Zh.mp he;exact(hB x (mW x hx)).2
  ·obtain⟨x,h1,h2⟩:=hv v hv' hp';have mx:x.1∈ps':=hp.mem_iff.mpr (Zh.mpr (xWP x h1 rfl));refine(xWP (wJ B x.1) (Zh.mpr (xWP (x.1,wJ B x.1) (by rw[hW0];exact Zh.mpr (xWP _ mx rfl)) rfl)) ?_);have t1:=(hB _ (inB x.1 mx)).1;rw[(hB x h1).1]at t1;have t2:=JE (HO.tup.inj (Option.some.inj t1));unfold kl at t2;simp only[List.cons.injEq]at t2;have:=t2.2.1
   lia
 have pf:(es W0).Perm (j5 rs n):=by
  have z:(B.map (·.1)).map (wJ B)=es B:=by
   rw[Ym];refine Ys λx hx=>?_;have t1:=(hB _ (wI (Zh.mpr (xWP x hx rfl)))).1;rw[(hB x hx).1]at t1;exact(P0 (JE (HO.tup.inj (Option.some.inj t1)))).symm
  rw[<-eB,<-z,hW0];unfold es;rw[Ym];exact hp.map (wJ B)
 have dnf:Dn ((es W0).map kl):=by unfold es;rw[Ym];exact ls.dn
 clear hv hB bl eD inB mW hp hs ew eB;generalize upd (upd (upd H1 wl (.lst (ps'.map V.ref))) na (.dK [])) rd (.dK [])=H2 at ls;clear k3 hrd k2 hna k1 hwl gg;refine⟨λm σ H'=>∃(W R:List (Addr×En)) (nr:Nat->Option Int),m=(n-R.length)*(2*ws.length+1)+W.length/\LS H H' wl na rd W R nr (R.length*(2*ws.length)) /\
  Rch (at0 rs) (sd (aF ws) (bF ws)) (fr (aF ws) (bF ws)) (ln (aF ws) (bF ws) (coF ws) (at0 ps)) (!50) n (λk b=>∃u∈R,∃l,ds[u.2.v]?=some l/\(k,b)∈l) (es R) (es W) nr/\(∀u∈R,0<=at0 rs u.2.v)/\y0 (NL ws ds ps gs rs) ⟨es W0,[],λ_=>none⟩ ⟨es W,es R,nr⟩ /\
  ∃o5 o6 o7 o8 o9 o10 o11:Option V,σ=[some (.ref s'),some (.ref D),some (.ref wl),some (.ref na),some (.ref rd),o5,o6,o7,o8,o9,o10,o11],
  (bG _ W0 ([]) _ rfl (by show LS _ _ _ _ _ _ _ _ (0*_);rw[Nat.zero_mul];exact ls) (rch0.pass (k:=0) (by_:=0) (λz=>Yg z.2 (by rintro(⟨z,_⟩ | ⟨z,_⟩)<;>cases z)) (λk b z=>by obtain⟨u,hu',_⟩:=z;cases hu')) (λu hu'=>(by cases hu')) .refl (qP _ _ _ _ _ _ _ rfl)),?_⟩
 clear ls rch0 hW0;rintro m σ H' ⟨W,R,nr,rfl,L,rc,nn,tr,o5,o6,o7,o8,o9,o10,o11,rfl⟩;have all:∀k b,opn ws.length (loF ws) (hiF ws) (at0 gs) k b->(∃u∈es R,u.v=sd (aF ws) (bF ws) k b)->∃u∈R,∃l,ds[u.2.v]?=some l/\(k,b)∈l:=λk b o z=>by
  obtain⟨u,hu',uv⟩:=z;obtain⟨x,hx,rfl⟩:=Zh.mp hu';have hvn:x.2.v<ds.length:=by rw[O.d.len];exact rc.lt _ (ZP _ hu')
  refine(tS x hx (ds[x.2.v]) (Zz hvn) (O.d.has o.1 (fC o) ?_));rw[<-uv];exact Zz hvn
 refine(xWP _ (.inl (xWP _ (SqL.of L.w) rfl)) ?_);rcases List.eq_nil_or_concat W with hW | ⟨W',x,hW⟩
 ·
  subst hW;refine iF (q rd H' R L.nrd L.g L.r L.rt (.inr (aG nr _ rc all (λu hu'=>?_))) (aO (es W0) _ pf dnf tr (.inl ⟨rfl,rfl⟩)));obtain⟨y,hy,rfl⟩:=Zh.mp hu';exact nn y hy
 rw[List.concat_eq_append]at hW;subst hW;have ew':es (W'++[x])=es W'++[x.2]:=by unfold es;rw[Zt];rfl
 refine iTb (by unfold wr;simp) (xWP _ (λσ' H'' h=>h) ?_);have hlast:(wr (W'++[x]))[(wr (W'++[x])).length-1]?=some (.ref x.1):=by unfold wr;simp
 have hdrop:(wr (W'++[x])).dropLast=wr W':=by unfold wr;simp
 have mx:x∈W'++[x]:=by simp
 refine(eQ (.inl ⟨rfl,_,SqL.of L.w⟩) _ _ L.w hlast ?_);rw[hdrop];have hwb:=L.wb;rw[Zm,ZQ]at hwb;have dn':Dn (W'.map λx=>kl x.2):=by
  have:=L.dn;unfold Dn at this;rw[Zt]at this;exact(List.pairwise_append.mp this).1
 have L1:=L.setw (W':=W') (λy hy=>L.wt y (ZP _ hy)) dn' (by lia);have tx:(upd H' wl (.lst (wr W'))) x.1=some (.tup (ev x.2)):=by rw[aH (b8 (L.wt x mx) L.w (!36))];exact L.wt x mx
 generalize upd H' wl (.lst (wr W'))=H3 at L1 tx;have pW:(es (W'++[x])).Perm (x.2::es W'):=by
  unfold es;rw[Zt];exact List.perm_append_comm
 have hvn:x.2.v<n:=rc.lt _ (ZO _ (Zh.mpr (xWP x mx rfl)));refine(aG _ _ (SqT.of tx) rfl ?_);refine(xWP _ (i9.k (k:=Sum.inl (x.2.v:Int)) L1.r) ?_);cases hin:(fA (kvR R) (Sum.inl (x.2.v:Int))).isSome with
 |true =>
  obtain⟨y,hy,ey⟩:=FN hin;have rc':=rc.drop pW (xWP y.2 (Zh.mpr (xWP y hy rfl)) ey);refine iF (l9 _ ?_ W' R nr rfl L1 rc' nn ⟨ .tail tr (bM (es W') x.2 ew' (.inl ⟨Zh.mpr (xWP y.2 (Zh.mpr (xWP y hy rfl)) ey),rfl⟩)),(qP _ _ _ _ _ _ _ rfl)⟩);rw[Zm,ZQ];lia
 |false =>
  have hno:fA (kvR R) (Sum.inl (x.2.v:Int))=none:=Option.isNone_iff_eq_none.mp (by rw[<-Option.not_isSome,hin];rfl);have hne:∀u∈es R,u.v≠x.2.v:=λu hu' e=>by
   obtain⟨y,hy,rfl⟩:=Zh.mp hu';have:=oF rc.nd hy (v:=(x.2.v:Int)) (by lia);rw[hno]at this;cases this
  have nmem:x.2.v∉(es R).map (·.v):=λz=>by obtain⟨u,hu',e⟩:=Zh.mp z;exact hne u hu' e
  have least:∀y∈es W',x.2.d<=y.d:=λy hy=>by
   obtain⟨z,hz,rfl⟩:=Zh.mp hy;have d0:=L.dn;rw[Zt]at d0;exact AY (w:=W'.map λx=>kl x.2) (d:=x.2.d) (r:=[(x.2.v:Int),(x.2.k:Int),x.2.by_]) (d':=z.2.d) (r':=[(z.2.v:Int),(z.2.k:Int),z.2.by_]) d0 (Zh.mpr (xWP z hz rfl))
  have rc':=rc.take pW least hne;have ees:es R++[x.2]=es (R++[x]):=by unfold es;rw[Zt];rfl
  have few:=rc'.few;rw[Zm,ZQ,Zq]at few;have ekv:putK (kvR R) (Sum.inl (x.2.v:Int)) (V.ref x.1)=kvR (R++[x]):=by rw[GY _ hno];unfold kvR;rw[Zt];rfl
  refine iT (xWP _ (BJ.k (k:=Sum.inl (x.2.v:Int)) L1.r (by unfold kvR;rw[Zq];exact Xz (by lia:R.length<64) (!1))) ?_);rw[ekv];have L2':=L1.setr tx;have tx2:(upd H3 rd (.dK (kvR (R++[x])))) x.1=some (.tup (ev x.2)):=by rw[aH (b8 tx L1.r (!36))];exact tx
  generalize upd H3 rd (.dK (kvR (R++[x])))=H4 at L2' tx2;have S4:=S.mono L2'.g;obtain⟨dx4,ob4⟩:=S4.ob;refine(aV _ dx4 _ _ ob4 T.x.l T.x.n3 (eZ _ _ _ _ _) (aG _ _ (SqL.of S4.r) (aQ (j:=x.2.v) (by lia) rfl) (i2 (λc=>?_) (λc=>?_))))
  ·
   have c':at0 rs x.2.v<0:=Yf c;refine(q rd H4 (R++[x]) L2'.nrd L2'.g L2'.r L2'.rt (.inl (gZ (es R) x.2 (es W') nr _ ees.symm ?_ all c')) (aO (es W0) _ pf dnf tr (.inr (aO (es W') x.2 ew' nmem c' ees.symm))));rw[<-ees];exact rc'
  have c':¬at0 rs x.2.v<0:=λz=>c (Ye z);rw[ees]at rc';have hds:x.2.v<ds.length:=by rw[O.d.len];exact hvn
  have hrow:=Zz hds;obtain⟨ra,ra1,lr,d1,d2,d3⟩:=S4.dr x.2.v _ hrow;generalize hrw:ds[x.2.v]=row at hrow d2 d3;have hfew:=O.d.few _ _ hrow;have top:∀y∈es (R++[x]),y.d<=x.2.d:=λy hy=>by
   have u:=rc'.up;rw[<-ees]at u hy;rcases Zf.mp hy with hy | hy
   ·exact(List.pairwise_append.mp u).2.2 y hy x.2 (.head _)
   ·have:y=x.2:=by simpa using hy
    rw[this];sleep 16
  have mxe:x.2∈es (R++[x]):=Zh.mpr (xWP x (!5) rfl);refine(aV _ dx4 _ _ ob4 T.x.l T.x.n4 (I0 _ _ _ _ _) (aG _ (.ref ra) (SqL.of S4.d) (dA (by rw[Zk,ra1];rfl)) ⟨ ⟨_,SqL.of d1⟩,?_⟩));refine eY (xs:=lr.map V.ref) (λi σ H5=>∃(Wi:List (Addr×En)) (nri:Nat->Option Int),aK H4 H4/\LS H H5 wl na rd Wi (R++[x]) nri (R.length*(2*ws.length)+i)/\Wi.length<=W'.length+i/\H5 ra=some (.lst (lr.map V.ref))/\(∀(j:Nat) q',row[j]?=some q'->∃r,lr[j]?=some r/\H5 r=some (.tup [vn q'.1,.int q'.2])) /\
   Rch (at0 rs) (sd (aF ws) (bF ws)) (fr (aF ws) (bF ws)) (ln (aF ws) (bF ws) (coF ws) (at0 ps)) (!50) n (λk b=>(∃u∈R,∃l,ds[u.2.v]?=some l/\(k,b)∈l)\/(k,b)∈row.take i) (es (R++[x])) (es Wi) nri/\Drs ws ps gs x.2 row i (es W',nr) (es Wi,nri) /\
   ∃o7 o8 o9 o10 o11:Option V,σ=[some (.ref s'),some (.ref D),some (.ref wl),some (.ref na),some (.ref rd),some (.ref x.1),some (vn x.2.v),o7,o8,o9,o10,o11])
   (dM W' nr (aK.refl _) L2' (ZC _) d1 d3 (rc'.pass (k:=0) (by_:=0) (λz=>Yg z.2 (by rintro(⟨z,_⟩ | ⟨z,_⟩)<;>cases z)) (λk b z=>by
    rcases z with z | z
    ·exact .inl z
    ·rw[List.take_zero]at z;cases z)) rfl (qQ _ _ _ _ _ rfl)) (λi σ H5 _ h=>by obtain⟨_,_,_,_,_,h,_⟩:=h;exact SqL.of h) ?_ ?_
  ·rintro i y σ H5 hy ⟨Wi,nri,_,Li,wi,e5,f5,rci,dd,o7,o8,o9,o10,o11,rfl⟩;have hi:i<row.length:=by
    have:=(Zj.mp hy).1;rw[Zq,d2]at this;sleep 19
   have hq:=Zz hi;generalize hqq:row[i]=qd at hq;obtain⟨k,b⟩:=qd;obtain⟨r,f1,f2⟩:=f5 i _ hq;rw[Zk,f1]at hy;cases hy;obtain⟨hk,h1,hsd⟩:=O.d.src hrow (Zg hq);have hw:ws[k]?=some ws[k]:=Zz hk;have S5:=S.mono Li.g;obtain⟨dx5,ob5⟩:=S5.ob;obtain⟨wx,wr5,w1,w2,w3⟩:=S5.way hw;have hab:=O.w _ (Zp hk);have tx5:H5 x.1=some (.tup (ev x.2)):=Li.rt x (!5);have pls:=O.pl;have hdst:fr (aF ws) (bF ws) k b<n:=by
    unfold fr;rw[lY hw,nQ hw];split
    ·exact hab.2
    ·exact hab.1
   have elen:ln (aF ws) (bF ws) (coF ws) (at0 ps) k b=b*NM.rt ps ws[k]:=by unfold ln;rw[CB hw]
   refine(aM _ (SqT.of f2) rfl ?_);refine(eP _ _ (SqT.of tx5) rfl _ dx5 _ _ ob5 (bN T.x.l T.x.n0 (wH _ _ _ _ _) (eP _ _ (SqL.of w1) w2 _ dx5 _ _ ob5 (zI T.x.l T.x.n1 (oW _ _ _ _ _) wr5 A'.p (ws[k]) ps rfl (SqT.of w3) (bK S5.p (by lia) (by lia) (.inl (show(-(2 ^ 64):Int)<b/\b<2 ^ 64 by rcases h1 with z | z<;>rw[z]<;>exact⟨by decide,by decide⟩)) ?_)))));refine(aR s' A' ws ds ps gs rs k b (bN rfl S5 hk ?_));have hdist:x.2.d+b*NM.rt ps ws[k]=x.2.d+ln (aF ws) (bF ws) (coF ws) (at0 ps) k b:=by rw[elen]
   obtain⟨kvs,q1,q2,q3⟩:=id Li.q;have tk:row.take (i+1)=row.take i++[(k,b)]:=by rw[List.take_succ,hq];rfl
   have sub:∀k' b',((∃u∈R,∃l,ds[u.2.v]?=some l/\(k',b')∈l)\/(k',b')∈row.take (i+1))->((∃u∈R,∃l,ds[u.2.v]?=some l/\(k',b')∈l)\/(k',b')∈row.take i)\/(k'=k/\b'=b):=λk' b' z=>by
    rcases z with z | z
    ·exact .inl (.inl z)
    ·rw[tk]at z;rcases Zf.mp z with z | z
     ·exact .inl (.inr z)
     ·have:(k',b')=(k,b):=by simpa using z
      cases this;exact .inr ⟨rfl,rfl⟩
   dsimp only[cS];refine via (λσ' H6=>H6=H5/\∃nb:Bool,(nb=true->∀z,nri (fr (aF ws) (bF ws) k b)=some z->x.2.d+b*NM.rt ps ws[k]<z)/\(nb=false->∃z,nri (fr (aF ws) (bF ws) k b)=some z/\z<=x.2.d+b*NM.rt ps ws[k]) /\
    σ'=[some (.ref s'),some (.ref D),some (.ref wl),some (.ref na),some (.ref rd),some (.ref x.1),some (vn x.2.v),some (vn k),some (.int b),some (.int (x.2.d+b*NM.rt ps ws[k])),some (vn (fr (aF ws) (bF ws) k b)),some (.bl nb)]) (λhr'=>?_) ?_
   ·refine(xWP _ (i9.k (k:=Sum.inl ((fr (aF ws) (bF ws) k b:Nat):Int)) q1) ?_);rw[q2];cases hz:nri (fr (aF ws) (bF ws) k b) with
    |none=>exact iT (hr' _ _ (j9 rfl true (λ_ z hz'=>(by rw[hz]at hz';cases hz')) (λz=>(by cases z)) rfl))
    |some z =>
     have dg:=i9.k (k:=Sum.inl ((fr (aF ws) (bF ws) k b:Nat):Int)) q1;rw[q2,hz]at dg;refine iF (xWP _ dg (hr' _ _ (j9 rfl _ (λc z' hz'=>?_) (λc=>(xWP z hz ?_)) rfl)))
     ·rw[hz]at hz';cases hz';exact Yf c
     ·exact Int.not_lt.mp (of_decide_eq_false c)
   rintro σ' H6 ⟨rfl,nb,better,near,rfl⟩;have pass:(opn ws.length (loF ws) (hiF ws) (at0 gs) k b->nb=false)->¬AR ws ps gs x.2 (k,b) nri->∃(Wi':List (Addr×En)) (nri':Nat->Option Int),aK H4 H4/\LS H H6 wl na rd Wi' (R++[x]) nri' (R.length*(2*ws.length)+(i+1))/\Wi'.length<=W'.length+(i+1)/\H6 ra=some (.lst (lr.map V.ref))/\(∀(j:Nat) q',row[j]?=some q'->∃r,lr[j]?=some r/\H6 r=some (.tup [vn q'.1,.int q'.2])) /\
     Rch (at0 rs) (sd (aF ws) (bF ws)) (fr (aF ws) (bF ws)) (ln (aF ws) (bF ws) (coF ws) (at0 ps)) (!50) n (λk b=>(∃u∈R,∃l,ds[u.2.v]?=some l/\(k,b)∈l)\/(k,b)∈row.take (i+1)) (es (R++[x])) (es Wi') nri'/\Drs ws ps gs x.2 row (i+1) (es W',nr) (es Wi',nri'):=λhop hnn=>by
    refine(DH Wi nri (aK.refl _) (Li.more (by lia)) (by lia) e5 f5 (rci.pass (k:=k) (by_:=b) (λo=>?_) sub) (aG (es Wi,nri) (k,b) dd hq (.inr ⟨hnn,rfl⟩)));obtain⟨z,z1,z2⟩:=near (hop o);exact(zA z z1 x.2 mxe hsd.symm (by rw[<-hdist];exact z2))
   refine(xWP nb rfl ?_);cases nb with
   |false =>
    obtain⟨Wi',nri',p⟩:=pass (λ_=>rfl) λz=>by
     obtain⟨y,y1,y2⟩:=near rfl;have z1:x.2.d+ln (aF ws) (bF ws) (coF ws) (at0 ps) k b<y:=z.1 y y1;rw[<-hdist]at z1
     lia
    exact iF (iF (dM Wi' nri' p.1 p.2.1 p.2.2.1 p.2.2.2.1 p.2.2.2.2.1 p.2.2.2.2.2.1 p.2.2.2.2.2.2 (qQ _ _ _ _ _ rfl)))
   |true =>
    refine iT (aR s' A' ws ds ps gs rs k b (bK rfl S5 hk O.gl ?_));by_cases ho:rm ws gs k b=some 0
    ·rw[ho];obtain⟨Wi',nri',p⟩:=pass (λo=>Yg ho ((GS hk h1).mp o)) λz=>z.2 ho;exact iF (dM Wi' nri' p.1 p.2.1 p.2.2.1 p.2.2.2.1 p.2.2.2.2.1 p.2.2.2.2.2.1 p.2.2.2.2.2.2 (qQ _ _ _ _ _ rfl))
    ·have ho':¬vo (rm ws gs k b)=V.int 0:=λz=>ho (by
      cases e:rm ws gs k b with
      |none=>rw[e]at z;cases z
      |some y=>rw[e]at z;rw[V.int.inj z])
     have op:=(GS hk h1).mpr ho;have cb:R.length*(2*ws.length)+(i+1)<=64*2000:=by
      have:R.length*(2*ws.length)<=63*2000:=Nat.mul_le_mul (by lia) (by lia)
      lia
     refine Sc.of (by cases rm ws gs k b<;>rfl) (iTb ?_ ?_)
     ·rw[Yc ho'];rfl
     refine(xWP _ (BJ.k (k:=Sum.inl ((fr (aF ws) (bF ws) k b:Nat):Int)) q1 (Xq q3 (Xz (by omega:R.length*(2*ws.length)+i<200000) (!1)))) ?_);have L7:=Li.setq q1 (fr (aF ws) (bF ws) k b) (x.2.d+b*NM.rt ps ws[k]);have nra:ra≠na:=b8 e5 q1 (!36);have e7:(upd H6 na (.dK (putK kvs (Sum.inl ((fr (aF ws) (bF ws) k b:Nat):Int)) (.int (x.2.d+b*NM.rt ps ws[k]))))) ra=some (.lst (lr.map V.ref)):=by rw[aH nra];exact e5
     have f7:∀(j:Nat) q',row[j]?=some q'->∃r,lr[j]?=some r/\(upd H6 na (.dK (putK kvs (Sum.inl ((fr (aF ws) (bF ws) k b:Nat):Int)) (.int (x.2.d+b*NM.rt ps ws[k]))))) r=some (.tup [vn q'.1,.int q'.2]):=λj q' hq'=>by
      obtain⟨r',z1,z2⟩:=f5 j q' hq';exact(xWP r' z1 (by rw[aH (b8 z2 q1 (!36))];exact z2))
     generalize upd H6 na (.dK (putK kvs (Sum.inl ((fr (aF ws) (bF ws) k b:Nat):Int)) (.int (x.2.d+b*NM.rt ps ws[k]))))=H7 at L7 e7 f7;refine⟨(by show 4<=ZW;decide),λTe hTe=>?_⟩;have k8:=aC hTe (.tup [.int (x.2.d+b*NM.rt ps ws[k]),vn (fr (aF ws) (bF ws) k b),vn k,.int b]);have L8:=L7.mono k8;have wb8:=L8.wb;refine(bG wl Te Wi ⟨x.2.d+b*NM.rt ps ws[k],fr (aF ws) (bF ws) k b,k,b⟩ rfl L8.w L8.wt aB L8.dn ⟨ by lia,λW8 p8 dn8=>?_⟩);have nral:ra≠wl:=λz=>by
      have h0:H ra=some (.lst (lr.map V.ref)):=by
       obtain⟨ra',y1,y2⟩:=S.dr x.2.v _ (by rw[<-hrw]at hrow;exact hrow);obtain⟨lr',y3,_⟩:=y2;rw[ra1]at y1;cases y1;exact y3.trans ((L2'.g _ _ y3).symm.trans d1)
      rw[z,L8.nwl]at h0;cases h0
     have L9:=L8.setw (W':=W8) (λy hy=>by
      rcases Zn.mp (p8.mem_iff.mp hy) with rfl | hy
      ·exact aB
      ·exact L8.wt y hy) dn8 (by rw[p8.length_eq,Yq];have:=Li.wb;lia)
     refine(dM W8 _ (aK.refl _) L9 (by rw[p8.length_eq,Yq];lia) (by rw[aH nral];exact k8 _ _ e7) (λj q' hq'=>?_) ?_ ?_ (qQ _ _ _ _ _ rfl))
     ·obtain⟨r',z1,z2⟩:=f7 j q' hq';exact(xWP r' z1 (by rw[aH (b8 (k8 _ _ z2) L8.w (!36))];exact k8 _ _ z2))
     ·rw[hdist]at p8 ⊢;refine rci.put (k:=k) (by_:=b) (u:=x.2) op (by rcases h1 with z | z<;>rw[z]<;>decide) mxe hsd.symm top (sr.nn op) hdst (λz hz=>by rw[<-hdist];exact Int.le_of_lt (better rfl z hz)) ?_ sub;exact p8.map (·.2)
     ·refine(aG (es Wi,nri) (k,b) dd hq (.inl (bN ⟨λz hz=>?_,ho⟩ ?_ ?_ ?_)))
      ·show x.2.d+ln (aF ws) (bF ws) (coF ws) (at0 ps) k b<z;rw[<-hdist];exact better rfl z hz
      ·rw[hdist]at p8;exact p8.map (·.2)
      ·unfold es;rw[Ym];exact dn8
      ·show(λv=>if v=fr (aF ws) (bF ws) k b then some (x.2.d+b*NM.rt ps ws[k]) else nri v)=_;rw[hdist]
  ·rintro σ H5 ⟨Wi,nri,_,Li,wi,e5,f5,rci,dd,o7,o8,o9,o10,o11,rfl⟩;rw[Zq,d2,Yv]at rci;rw[Zq,d2]at Li wi dd;have er:(R++[x]).length=R.length+1:=by simp
   refine(l9 _ ?_ Wi (R++[x]) nri rfl (Li.more (by rw[er,Nat.succ_mul R.length (2*ws.length)];lia)) (rci.pass (k:=0) (by_:=0) (λz=>Yg z.2 (by rintro(⟨z,_⟩ | ⟨z,_⟩)<;>cases z)) (λk b z=>?_)) (λu hu'=>?_) ⟨ .tail tr (bM (es W') x.2 ew' (.inr (zH nmem c' row hrow ees.symm dd))),(qP _ _ _ _ _ _ _ rfl)⟩)
   ·rw[er,Zm,ZQ];have e1:n-R.length=(n-(R.length+1))+1:=by lia
    rw[e1,Nat.succ_mul (n-(R.length+1)) (2*ws.length+1)]
    lia
   ·obtain⟨u,hu',l,h1,h2⟩:=z;rcases Zf.mp hu' with hu' | hu'
    ·exact .inl (.inl (tS u hu' l h1 h2))
    ·have:u=x:=by simpa using hu'
     subst this;rw[hrow]at h1;cases h1;exact .inl (.inr h2)
   ·rcases Zf.mp hu' with hu' | hu'
    ·exact nn u hu'
    ·have:u=x:=by simpa using hu'
     subst this
     lia
end
def kZ(H:Hp)(rows:List Addr)(ds:List (!34)):Prop:=rows.length=ds.length/\∀(v:Nat) l,ds[v]?=some l->∃a,rows[v]?=some a/\tJ H a l
theorem kZ.mono{H H':Hp}{rows:List Addr}{ds:List (!34)}(h:kZ H rows ds)(g:aK H H'):kZ H' rows ds :=
 ⟨h.1,λv l hl=>let⟨a,h1,h2⟩:=h.2 v l hl;(xWP a h1 (h2.mono g))⟩
theorem kZ.put{H:Hp}{rows lr:List Addr}{ds:List (!34)}{l:List (Nat×Int)}{v k:Nat}{b:Int}{a Tq:Addr}(h:kZ H rows ds)(nd:rows.Nodup)(hv:ds[v]?=some l)(ha:rows[v]?=some a)(d1:H a=some (.lst (lr.map V.ref)))(d2:lr.length=l.length)
  (d3:∀(j:Nat) q,l[j]?=some q->∃r,lr[j]?=some r/\H r=some (.tup [vn q.1,.int q.2])) (hT:H Tq=none):kZ (upd (upd H Tq (.tup [vn k,.int b])) a (.lst (lr.map V.ref++[.ref Tq]))) rows (ds.set v (l++[(k,b)])):=by
 have g:=aC hT (.tup [vn k,.int b]);have nT:Tq≠a:=(aE d1 hT).symm;have tp:∀{r:Addr}{xs:List V},H r=some (.tup xs)->(upd (upd H Tq (.tup [vn k,.int b])) a (.lst (lr.map V.ref++[.ref Tq]))) r=some (.tup xs):=λe=>by rw[aH (b8 e d1 (!36))];exact g _ _ e
 refine⟨by rw[ZR];exact h.1,λv' l' hl'=>?_⟩;by_cases z:v=v'
 ·subst z;rw[ZL (Zj.mp hv).1]at hl';cases hl';refine(zA a ha (lr++[Tq]) (by rw[aB,Zt];rfl) (by rw[Zm,Zm,d2];rfl) (λj q hq=>?_));rcases Xk j l.length with y | y
  ·rw[Zx y]at hq;obtain⟨r,r1,r2⟩:=d3 j q hq;exact(xWP r (by rw[Zx (by lia)];exact r1) (tp r2))
  ·rw[Zy y]at hq;have z0:j-l.length=0:=by
    have:=(Zj.mp hq).1;simp at this
    lia
   rw[z0]at hq;cases hq;exact(xWP Tq (by rw[Zy (by lia),d2,z0];rfl) (by rw[aH nT];exact aB))
 ·rw[ZK z]at hl';obtain⟨a',h1,h2⟩:=h.2 v' l' hl';have na:a'≠a:=λy=>by
   subst y;obtain⟨p1,p2⟩:=Zj.mp h1;obtain⟨p3,p4⟩:=Zj.mp ha;exact z ((List.getElem_inj nd).mp (p4.trans p2.symm))
  exact(xWP a' h1 (h2.keep λc xs=>⟨λy e=>by subst y;rw[aH na];exact g _ _ e,tp⟩))
def Dd(ws:List Way)(n:Nat):Nat->List (!34)->Prop
 |0,ds=>ds=ZG n []
 |i+1,ds=>∃d0 la lb,Dd ws n i d0/\d0[aF ws i]?=some la/\(d0.set (aF ws i) (la++[(i,1)]))[bF ws i]?=some lb/\ds=(d0.set (aF ws i) (la++[(i,1)])).set (bF ws i) (lb++[(i,-1)])
structure DrI(ws:List Way)(n i:Nat)(ds:List (!34)):Prop where
 len:ds.length=n
 mem:∀(v:Nat) (l:List (Nat×Int)),ds[v]?=some l->∀(k:Nat) (by_:Int),(k,by_)∈l↔k<i/\((by_=1/\aF ws k=v)\/(by_ = -1/\bF ws k=v))
 few:∀(v:Nat) (l:List (Nat×Int)),ds[v]?=some l->l.length<=2*i
 tr:Dd ws n i ds
theorem DrI.step{ws:List Way}{n i:Nat}{ds:List (!34)}(h:DrI ws n i ds){la lb:List (Nat×Int)}(h1:ds[aF ws i]?=some la)(h2:(ds.set (aF ws i) (la++[(i,1)]))[bF ws i]?=some lb) :
  DrI ws n (i+1) ((ds.set (aF ws i) (la++[(i,1)])).set (bF ws i) (lb++[(i,-1)])):=by
 have ha:=(Zj.mp h1).1;have hb:=(Zj.mp h2).1;rw[ZR]at hb;have mid:∀(v:Nat) l,(ds.set (aF ws i) (la++[(i,1)]))[v]?=some l->(∀(k:Nat) (by_:Int),(k,by_)∈l↔(k<i/\((by_=1/\aF ws k=v)\/(by_ = -1/\bF ws k=v)))\/(k=i/\by_=1/\aF ws i=v))/\l.length<=2*i+1:=λv l hl=>by
  by_cases z:aF ws i=v
  ·subst z;rw[ZL ha]at hl;cases hl;refine⟨λk b=>?_,by have:=h.few _ _ h1;rw[Zm];simp;lia⟩;rw[Zf,h.mem _ _ h1];simp
  ·rw[ZK z]at hl;refine⟨λk b=>?_,by have:=h.few _ _ hl;lia⟩;rw[h.mem _ _ hl];simp[z]
 refine⟨by rw[ZR,ZR];exact h.len,λv l hl k b=>?_,λv l hl=>?_,(cI ds la lb h.tr h1 h2 rfl)⟩
 ·by_cases z:bF ws i=v
  ·subst z;rw[ZL (by rw[ZR];exact hb)]at hl;cases hl;rw[Zf,(mid _ _ h2).1];constructor
   ·rintro((⟨y1,y2⟩ | ⟨rfl,rfl,y⟩) | y)
    ·exact⟨by lia,y2⟩
    ·exact⟨by lia,.inl ⟨rfl,y⟩⟩
    ·have:(k,b)=(i,-1):=by simpa using y
     cases this;exact⟨by lia,.inr ⟨rfl,rfl⟩⟩
   ·rintro⟨y1,y2⟩;by_cases e:k=i
    ·subst e;rcases y2 with⟨rfl,y⟩ | ⟨rfl,y⟩
     ·exact .inl (.inr (xPP rfl rfl y))
     ·exact .inr (!5)
    ·exact .inl (.inl ⟨by lia,y2⟩)
  ·rw[ZK z]at hl;rw[(mid _ _ hl).1];constructor
   ·rintro(⟨y1,y2⟩ | ⟨rfl,rfl,y⟩)
    ·exact⟨by lia,y2⟩
    ·exact⟨by lia,.inl ⟨rfl,y⟩⟩
   ·rintro⟨y1,y2⟩;by_cases e:k=i
    ·subst e;rcases y2 with⟨rfl,y⟩ | ⟨rfl,y⟩
     ·exact .inr (xPP rfl rfl y)
     ·exact Yg y z
    ·exact .inl ⟨by lia,y2⟩
 ·by_cases z:bF ws i=v
  ·subst z;rw[ZL (by rw[ZR];exact hb)]at hl;cases hl;have:=(mid _ _ h2).2;rw[Zm];simp
   lia
  ·rw[ZK z]at hl;have:=(mid _ _ hl).2
   lia
section
def B4:Sp:=λvs H Q _=>∃(p na wa:Addr) (ns:List Int) (ws:List Way),vs=[.ref p]/\iM H p na wa ns ws/\(∀w∈ws,w.a<ns.length/\w.b<ns.length)/\ns.length<=1000/\ws.length<=1000 /\
 ∀(da:Addr) (rows:List Addr) (ds:List (!34)) (H':Hp),H da=none->(∀a∈rows,H a=none)->aK H H'->H' da=some (.lst (rows.map V.ref))->kZ H' rows ds->BI ws ns.length ds->Dd ws ns.length ws.length ds->Q (.ref da) H'
theorem IA(T:Txt K mg t):Ok P w base T 33 1 B4:=by
 left
 obtain⟨p,na,wa,ns,ws,rfl,hN,hab,hn,hm,q⟩:=h;refine(xWP _ (by exists (fH 1 ["knot"] [none]),bE ?_,aI,0,0,cV rfl (T.z 3) ?_,aI,0,2,3,aJ,1,aI,3,2,aJ,1,aI,3,2,1) ?_);obtain⟨wrs,e1,e2,e3⟩:=hN.w;refine(aG _ _ (SqT.of hN.tp) rfl ⟨ ⟨_,SqL.of hN.n⟩,λD hD=>?_⟩);refine comp_map ns.length (λi ys H'=>∃rows:List Addr,ys=rows.map V.ref/\rows.length=i/\rows.Nodup/\(∀a∈rows,a≠D/\H a=none/\H' a=some (!49))/\aK H H'/\H' D=some (.lst ys))
  (pX ([]) rfl rfl List.nodup_nil (λa ha=>(by cases ha)) (aC hD _) aB) ?_ ?_
 ·rintro i ys H' hi ⟨rows,rfl,hl,hnd,hrw,g1,eD⟩;refine⟨(bM _ _ (SqL.of (g1 _ _ hN.n)) (bX hi)),?_⟩;rintro x H'' ⟨rfl,hx⟩;refine(xPP (!13) (!23) (λa ha=>?_));have g2:=aC ha (!49);have naD:a≠D:=(aE eD ha).symm;refine(DL (g2 _ _ eD) (by rw[Zq,hl];exact Xz (by lia:i<1000) (!1)) (rows++[a]) (by rw[Zt];rfl) (by rw[Zm,hl];rfl) ?_ (λb hb=>?_) (λb o h=>by rw[aH (aE h hD)];exact g2 _ _ (g1 _ _ h)) aB)
  ·refine List.nodup_append.mpr (xPP hnd (!5) (λb hb c hc=>?_));have:c=a:=by simpa using hc
   subst this;intro z;subst z;rw[(hrw _ hb).2.2]at ha;cases ha
  ·rcases Zf.mp hb with hb | hb
   ·obtain⟨r1,r2,r3⟩:=hrw b hb;exact(xPP r1 r2 (by rw[aH r1];exact g2 _ _ r3))
   ·have:b=a:=by simpa using hb
    subst this;exact(xPP naD (g1.free ha) (by rw[aH naD];exact aB))
 rintro ys H1 ⟨rows,rfl,hl,hnd,hrw,g1,eD⟩;refine⟨(xWP _ (SqL.of (g1 _ _ hN.n)) (!54)),?_⟩;refine(jC _ _ (SqT.of (g1 _ _ hN.tp)) rfl wa rfl ⟨_,SqL.of (g1 _ _ e1)⟩ ?_);refine dJ (xs:=wrs.map V.ref) (λi σ H'=>aK H H'/\H' D=some (.lst (rows.map V.ref))/\(∃ds,kZ H' rows ds/\DrI ws ns.length i ds)/\∃o2 o3:Option V,σ=[some (.ref p),some (.ref D),o2,o3])
  (bN g1 eD (xWP (ZG ns.length []) ⟨by rw[hl,List.length_replicate],λv l hv=>?_⟩ ?_) (!44)) (λi σ H' _ h=>SqL.of (h.1 _ _ e1)) ?_ ?_
 ·obtain⟨hv1,hv2⟩:=Zj.mp hv;rw[List.getElem_replicate]at hv2;rw[List.length_replicate]at hv1;subst hv2;exact(zA (rows[v]) (Zz (by lia)) ([]) ((hrw _ (Zp _)).2.2) rfl (λj q' hq=>by simp at hq))
 ·refine⟨by simp,λv l hv k b=>?_,λv l hv=>?_,rfl⟩
  ·obtain⟨hv1,hv2⟩:=Zj.mp hv;rw[List.getElem_replicate]at hv2;subst hv2;simp
  ·obtain⟨hv1,hv2⟩:=Zj.mp hv;rw[List.getElem_replicate]at hv2;subst hv2;simp
 ·rintro i y σ H' Tp hy ⟨g2,eD2,⟨ds,ra,di⟩,o2,o3,rfl⟩ hTp;obtain⟨r,hr1,rfl⟩:=gR hy;obtain⟨w',hw,er⟩:=rG e2 e3 hr1;have hi:i<ws.length:=(Zj.mp hw).1;have ab:=hab w' (Zg hw);have g3:=aC hTp (.tup [vn i,.ref r]);have g23:=g2.trans g3;have ra3:=ra.mono g3;have eD3:=g3 _ _ eD2;have er3:=g23 _ _ er;have tT:(upd H' Tp (.tup [vn i,.ref r])) Tp=some (.tup [vn i,.ref r]):=aB;generalize upd H' Tp (.tup [vn i,.ref r])=H3 at g23 ra3 eD3 er3 tT;obtain⟨la,hla⟩:∃la,ds[w'.a]?=some la:=⟨_,Zz (by rw[di.len];exact ab.1)⟩
  obtain⟨a,a1,lr,d1,d2,d3⟩:=ra3.2 _ _ hla;have f1:=di.few _ _ hla;refine(aM _ (SqT.of tT) rfl ?_);refine(aG _ _ (SqT.of er3) rfl (bO _ (.ref a) (SqL.of eD3) (dA (by rw[Zk,a1];rfl)) (.inl ⟨rfl,_,SqL.of d1⟩) (!9) (λT1 hT1=>?_)));have k1:=aC hT1 (.tup [vn i,.int 1]);refine(aM _ (k1 _ _ d1) (by rw[Zq,d2];exact Xz (by lia:la.length<3000) (!1)) ?_);have ra4:=ra3.put (k:=i) (b:=1) hnd hla a1 d1 d2 d3 hT1;have rfree:∀b∈rows,H b=none:=λb hb=>(hrw b hb).2.1;have g4:aK H (upd (upd H3 T1 (.tup [vn i,.int 1])) a (.lst (lr.map V.ref++[.ref T1]))):=λb o h=>by rw[aH (aE h (rfree a (Zg a1)))];exact k1 _ _ (g23 _ _ h)
  have nDa:D≠a:=λz=>(hrw a (Zg a1)).1 z.symm;have eD4:(upd (upd H3 T1 (.tup [vn i,.int 1])) a (.lst (lr.map V.ref++[.ref T1]))) D=some (.lst (rows.map V.ref)):=by rw[aH nDa];exact k1 _ _ eD3
  generalize upd (upd H3 T1 (.tup [vn i,.int 1])) a (.lst (lr.map V.ref++[.ref T1]))=H4 at ra4 g4 eD4;obtain⟨lb,hlb⟩:∃lb,(ds.set w'.a (la++[(i,1)]))[w'.b]?=some lb:=⟨_,Zz (by rw[ZR,di.len];exact ab.2)⟩
  obtain⟨a',a1',lr',d1',d2',d3'⟩:=ra4.2 _ _ hlb;have e5:=di.step (la:=la) (lb:=lb) (by rw[lY hw];exact hla) (by rw[lY hw,nQ hw];exact hlb);rw[lY hw,nQ hw]at e5;have f2:=e5.few w'.b _ (ZL (by rw[ZR,di.len];exact ab.2));rw[Zm]at f2;refine(aG _ _ (SqT.of (g4 _ _ er)) rfl (bO _ (.ref a') (SqL.of eD4) (dA (by rw[Zk,a1'];rfl)) (.inl ⟨rfl,_,SqL.of d1'⟩) (!9) (λT2 hT2=>?_)));have k2:=aC hT2 (.tup [vn i,.int (-1)]);refine(aM _ (k2 _ _ d1') (by rw[Zq,d2'];exact Xz (by lia:lb.length<3000) (!1)) ?_);have ra5:=ra4.put (k:=i) (b:=-1) hnd hlb a1' d1' d2' d3' hT2;refine(bN (λb o h=>by rw[aH (aE h (rfree a' (Zg a1')))];exact k2 _ _ (g4 _ _ h)) ?_ (xWP _ ra5 e5) (!44));rw[aH (λz=>(hrw a' (Zg a1')).1 z.symm)];exact k2 _ _ eD4
 ·rintro σ H' ⟨g2,eD2,⟨ds,ra,di⟩,o2,o3,rfl⟩;rw[Zq,e2]at di;exact(q D rows ds H' hD (λa ha=>(hrw a ha).2.1) g2 eD2 ra ⟨di.len,di.mem,di.few⟩ di.tr)
def BX:Sp:=λvs H Q _=>∃(p na wa ga:Addr) (ns:List Int) (ws:List Way) (gs:List Int),vs=[.ref p,.ref ga]/\iM H p na wa ns ws/\(∀w∈ws,w.a<ns.length/\w.b<ns.length)/\H ga=some (.lst (gs.map V.int))/\gs.length=ws.length/\∀(r:Addr) (H':Hp),H r=none->aK H H'->H' r=some (.lst ((left ws gs ns).map V.int))->Q (.ref r) H'
theorem HM(T:Txt K mg t):Ok P w base T 28 1 BX:=by
 left
 obtain⟨p,na,wa,ga,ns,ws,gs,rfl,hN,hO,hG,hlen,q⟩:=h;obtain⟨rs,e1,e2,e3⟩:=hN.w;refine(xWP _ (by exists 2,a8 bL rfl (T.z 7) boot_list ?_,aI,0,mH rfl (T.z 14) ?_,aI,0,1,3,4,iR (pv 2) ?_ gL (pv 4) IT set_list,aI,3,iR (pv 2) ?_ gL (pv 4) mS set_list,aI,3,2) ?_);refine(aW _ _ (SqT.of hN.tp) rfl na _ rfl (.inl (SqL.of hN.n)) (λla hla=>?_));have g1:=aC hla (.lst (!39));refine(eP _ _ (SqT.of (g1 _ _ hN.tp)) rfl wa ga _ _ rfl (xPP (g1 _ _ e1) (g1 _ _ hG) ?_));refine qL (λi σ H'=>aK H H'/\H' la=some (.lst ((left (ws.take i) (gs.take i) ns).map V.int))/\∃o3 o4:Option V,σ=[some (.ref p),some (.ref ga),some (.ref la),o3,o4])
  (by rw[Zq,Zq,e2,hlen]) (xPP g1 aB (!44)) (λi σ H' _ h=>⟨h.1 _ _ e1,h.1 _ _ hG⟩) ?_ ?_
 ·rintro i x y σ H1 Tp hx hy ⟨g2,el,o3,o4,rfl⟩ hTp;obtain⟨r,hr1,rfl⟩:=gR hx;obtain⟨hi,rfl⟩:=lN hy;obtain⟨w,hw,er⟩:=rG e2 e3 hr1;obtain⟨ha,hb⟩:=hO w (Zg hw);have hgi:gs[i]?=some (at0 gs i):=by unfold at0;simp[List.getD,hi]
  have g3:=g2.trans (aC hTp (.tup [.ref r,.int (at0 gs i)]));have el3:=aC hTp (.tup [.ref r,.int (at0 gs i)]) _ _ el;have ll:(left (ws.take i) (gs.take i) ns).length=ns.length:=nH _ _ _;generalize hL:left (ws.take i) (gs.take i) ns=L at el3 ll;refine(!31);refine(aG _ _ (SqT.of (g3 _ _ er)) rfl (aO _ _ (SqL.of el3) (by lia) (aQ (j:=w.a) (by lia) rfl) (aG _ w.a el3 (dE (!26) rfl) ?_)));rw[show(L.map V.int).set w.a (V.int (at0 L w.a-at0 gs i))=(L.set w.a (at0 L w.a-at0 gs i)).map V.int by rw[ZH]];have g4:aK H (upd (upd H1 Tp (.tup [.ref r,.int (at0 gs i)])) la (.lst ((L.set w.a (at0 L w.a-at0 gs i)).map V.int))):=λb o h=>by rw[aH (aE h hla)];exact g3 _ _ h
  refine(aG _ _ (SqT.of (g4 _ _ er)) rfl (aO _ _ (SqL.of aB) (by lia) (aQ (j:=w.b) (!41) rfl) (aG _ w.b aB (dE (!41) rfl) ?_)));refine(xPP ?_ ?_ (!44))
  ·exact λb o h=>by rw[aH (aE h hla)];exact g4 _ _ h
  ·rw[aB,uO hw hgi,hL];unfold NM.step;simp only[ZH]
 ·rintro σ H1 ⟨g2,el,o3,o4,rfl⟩;rw[Zq,e2,Yv,<-hlen,Yv]at el;exact(q la H1 hla g2 el)
def g0(ps:List Int)(w:Way):Int:=if NM.rt ps w<0 then w.hi.getD 0 else w.lo
def GI(C:Addr):Sp:=λvs H Q _=>∃(x dx p pa na wa:Addr) (ns:List Int) (ws:List Way) (ps:List Int),vs=[.ref x,.ref p,.ref pa]/\H x=some (.ins C dx [])/\iM H p na wa ns ws/\H pa=some (!12)/\ps.length=ns.length/\(∀w∈ws,w.a<ns.length/\w.b<ns.length)/\ns.length<=1000/\ws.length<=1000/\(∀w∈ws,NM.rt ps w<0->∃h,w.hi=some h) /\
 ∀(H':Hp) (A:SA) (ds:List (!34)),(∀b o,b≠x->H b=some o->H' b=some o)->SAt C H' x A ws ds ps (ws.map (g0 ps)) (left ws (ws.map (g0 ps)) ns)->BI ws ns.length ds->Dd ws ns.length ws.length ds->H A.p=none->H A.g=none->H A.r=none->Q .non H'
theorem L5(T:Txt K mg t)(G_rate:Ok P w base T 27 1 (rM))(G_rests:Ok P w base T 28 1 BX)(G_doors_of:Ok P w base T 33 1 B4) :
  j8 P w K mg base CX0 2 t.ai t.di ["self","net","prices"] (GI (t.c 0)):=by
 refine T.x.F.ok rQ (λvs H Q E h=>?_) (λcdv A outer s H vs Q E hr h=>?_)
 ·obtain⟨x,dx,p,pa,na,wa,ns,ws,ps,rfl,_⟩:=h;rfl
 obtain⟨x,dx,p,pa,na,wa,ns,ws,ps,rfl,hx,hN,hP,pl,hab,hn,hm,hhi,q⟩:=h;refine(xWP _ (by exists rY (pv 0) ?_ rfl,aI,1,rY (pv 0) ?_ rfl,a8 bL rfl (T.z 7) boot_list ?_,2,rY (pv 0) ?_ rfl,(fI ["way","prices"] [none,some 2]),bE ?_,aI,1,0,kK ?_ ?_ ?_,cX G_rate hr (T.f 27) bR ?_,0,1,aI,0,aI,0,rY (pv 0) ?_ rfl,cX G_rests hr (T.f 28) bR ?_,1,dH (pv 0) rfl,rY (pv 0) ?_ rfl,cX G_doors_of hr (T.f 33) bR ?_,1) ?_);obtain⟨wrs,e1,e2,e3⟩:=hN.w;refine(jO _ _ (SqT.of hN.tp) rfl _ dx ([]) hx T.x.l (xPP T.x.n0 (by show 0<1000;decide) ?_));have K1:∀b o,b≠x->H b=some o->(upd H x (.ins (t.c 0) dx (bB "ways" (.ref wa) []))) b=some o:=λb o z h=>by rw[aH z];exact h
 have X1:(upd H x (.ins (t.c 0) dx (bB "ways" (.ref wa) []))) x=some (.ins (t.c 0) dx (bB "ways" (.ref wa) [])):=aB;have F1:∀b,(upd H x (.ins (t.c 0) dx (bB "ways" (.ref wa) []))) b=none->H b=none:=λb z=>by
  by_cases y:b=x
  ·subst y;rw[aB]at z;cases z
  ·rw[aH y]at z;exact z
 generalize upd H x (.ins (t.c 0) dx (bB "ways" (.ref wa) []))=H1 at K1 X1 F1;have nk:∀{b:Addr}{o:HO},H b=some o->(∀C' d f,o≠.ins C' d f)->b≠x:=λe z=>b8 e hx (λy=>z _ _ _ y);have wk:∀{H':Hp},(∀b o,b≠x->H b=some o->H' b=some o)->iM H' p na wa ns ws:=λk=>⟨k _ _ (nk hN.tp (λ_ _ _ y=>by cases y)) hN.tp,k _ _ (nk hN.n (λ_ _ _ y=>by cases y)) hN.n,(aM wrs (k _ _ (nk e1 (λ_ _ _ y=>by cases y)) e1) e2 (λi w hw=>by
  obtain⟨r,r1,r2⟩:=e3 i w hw;exact(xWP r r1 (k _ _ (nk r2 (λ_ _ _ y=>by cases y)) r2))))⟩
 have hP1:=K1 _ _ (nk hP (λ_ _ _ y=>by cases y)) hP;refine(aG pa _ rfl (.inl (SqL.of hP1)) (λl1 hl1=>?_));have s1:=aC hl1 (!12);refine(dX _ dx _ (s1 _ _ X1) T.x.l T.x.n1 (by show 1<1000;decide) ?_);have nx1:l1≠x:=(aE X1 hl1).symm;have K2:∀b o,b≠x->H1 b=some o->(upd (upd H1 l1 (!12)) x (.ins (t.c 0) dx (!6))) b=some o:=λb o z h=>by rw[aH z];exact s1 _ _ h
 have X2:(upd (upd H1 l1 (!12)) x (.ins (t.c 0) dx (!6))) x=some (.ins (t.c 0) dx (!6)):=aB;have P2:(upd (upd H1 l1 (!12)) x (.ins (t.c 0) dx (!6))) l1=some (!12):=by rw[aH nx1];exact aB
 have F2:∀b,(upd (upd H1 l1 (!12)) x (.ins (t.c 0) dx (!6))) b=none->H1 b=none:=λb z=>by
  by_cases y:b=x
  ·subst y;rw[aB]at z;cases z
  ·rw[aH y]at z;exact s1.free z
 generalize upd (upd H1 l1 (!12)) x (.ins (t.c 0) dx (!6))=H2 at K2 X2 P2 F2;have K02:∀b o,b≠x->H b=some o->H2 b=some o:=λb o z h=>K2 b o z (K1 b o z h);have N2:=wk K02;obtain⟨wrs2,e12,e22,e32⟩:=N2.w;have hP2:=K02 _ _ (nk hP (λ_ _ _ y=>by cases y)) hP;refine(aG _ _ (SqT.of N2.tp) rfl ⟨ ⟨_,SqL.of e12⟩,λl2 hl2=>?_⟩);have lr:∀{i:Nat}(hi:i<ws.length),∃r,(wrs2.map V.ref)[i]?=some (.ref r)/\H2 r=some (.tup (wv ws[i])):=λ{i} hi=>by
  obtain⟨r,q1,q2⟩:=e32 i ws[i] (Zz hi);exact(xWP r (by rw[Zk,q1];rfl) q2)
 refine bJ ws.length (λi=>.int (at0 (ws.map (g0 ps)) i)) hl2 (by lia) (λi H' hi g=>by obtain⟨r,r1,_⟩:=lr hi;exact(bM _ _ (SqL.of (g _ _ e12)) r1)) (λH' g=>(xWP _ (SqL.of (g _ _ e12)) (!26))) ?_ ?_
 ·rintro i H' y H'' k hi g ⟨rfl,hy⟩ hk;obtain⟨r,r1,r2⟩:=lr hi;have ey:=hy _ (SqL.of (g _ _ e12));rw[r1]at ey;cases ey;have hw:=Zp hi;have ag:at0 (ws.map (g0 ps)) i=g0 ps ws[i]:=by unfold at0;simp[List.getD,hi]
  rw[ag]at hk;refine⟨(Fills.refl _).set _ rfl,?_⟩;refine(bG r pa (ws[i]) ps rfl (SqT.of (g _ _ r2)) (g _ _ hP2) (by rw[pl];exact(hab _ hw).1) (by rw[pl];exact(hab _ hw).2) (i2 (λc=>?_) (λc=>?_)))
  ·have c':NM.rt ps ws[i]<0:=Yf c;obtain⟨h,eh⟩:=hhi _ hw c';have eg:g0 ps ws[i]=h:=by unfold g0;rw[Yb c',eh];rfl
   rw[eg]at hk;have e4:atI (wv ws[i]) 3=some (.int h):=by show some (vo ws[i].hi)=_;rw[eh];rfl
   exact(aG _ _ (SqT.of (g _ _ r2)) e4 (hk _ (aK.refl _)))
  ·have c':¬NM.rt ps ws[i]<0:=λz=>c (Ye z);have eg:g0 ps ws[i]=ws[i].lo:=by unfold g0;rw[Ya c']
   rw[eg]at hk;exact(aG _ _ (SqT.of (g _ _ r2)) rfl (hk _ (aK.refl _)))
 intro H3 g3 e3';have eg:(ZS ws.length).map (λi=>V.int (at0 (ws.map (g0 ps)) i))=(ws.map (g0 ps)).map V.int:=by
  apply Yt;intro i;by_cases hi:i<ws.length
  ·rw[Zk,Yk hi,Zk,Zk,Zz hi];unfold at0;simp[List.getD,hi]
  ·rw[Zr (!41),Zr (!41)]
 rw[eg]at e3';refine(dX _ dx _ (g3 _ _ X2) T.x.l T.x.n2 (by show 2<1000;decide) ?_);have nx2:l2≠x:=(aE X2 hl2).symm;have K4:∀b o,b≠x->H2 b=some o->(upd H3 x (!55)) b=some o:=λb o z h=>by rw[aH z];exact g3 _ _ h
 have X4:(upd H3 x (!55)) x=some (!55):=aB;have G4:(upd H3 x (!55)) l2=some (.lst ((ws.map (g0 ps)).map V.int)):=by rw[aH nx2];exact e3'
 have F4:∀b,(upd H3 x (!55)) b=none->H2 b=none:=λb z=>by
  by_cases y:b=x
  ·subst y;rw[aB]at z;cases z
  ·rw[aH y]at z;exact g3.free z
 generalize upd H3 x (!55)=H4 at K4 X4 G4 F4;have K04:∀b o,b≠x->H b=some o->H4 b=some o:=λb o z h=>K4 b o z (K02 b o z h);have P4:=K4 _ _ nx1 P2;have lg:(bB "going" (.ref l2) (!6):List (Str×V)).lookup ("going" : Str)=some (.ref l2):=by rw[a9,Yb rfl]
 refine(aV _ dx _ _ X4 T.x.l T.x.n2 lg (bW p na wa l2 ns ws (ws.map (g0 ps)) rfl (wk K04) (bN hab G4 (by rw[Zq]) (λl3 H5 hl3 g5 R5=>?_))));refine(dX _ dx _ (g5 _ _ X4) T.x.l T.x.n3 (by show 3<1000;decide) ?_);have nx3:l3≠x:=(aE X4 hl3).symm;have K6:∀b o,b≠x->H4 b=some o->(upd H5 x (!27)) b=some o:=λb o z h=>by rw[aH z];exact g5 _ _ h
 have X6:(upd H5 x (!27)) x=some (!27):=aB;have R6:(upd H5 x (!27)) l3=some (.lst ((left ws (ws.map (g0 ps)) ns).map V.int)):=by rw[aH nx3];exact R5
 have F6:∀b,(upd H5 x (!27)) b=none->H4 b=none:=λb z=>by
  by_cases y:b=x
  ·subst y;rw[aB]at z;cases z
  ·rw[aH y]at z;exact g5.free z
 generalize upd H5 x (!27)=H6 at K6 X6 R6 F6;have K06:∀b o,b≠x->H b=some o->H6 b=some o:=λb o z h=>K6 b o z (K04 b o z h);have P6:=K6 _ _ nx1 P4;have G6:=K6 _ _ nx2 G4;refine(a7 p na wa ns ws rfl (wk K06) hab hn ⟨ hm,λda rows ds H7 hda hrows g7 D7 ra dk dt=>?_⟩);refine(dX _ dx _ (g7 _ _ X6) T.x.l T.x.n4 (by show 4<1000;decide) ?_);have nxd:da≠x:=(aE X6 hda).symm;have K8:∀b o,b≠x->H7 b=some o->(upd H7 x (.ins (t.c 0) dx (nM wa l1 l2 l3 da))) b=some o:=λb o z h=>by rw[aH z];exact h
 have wk8:=wk (H':=upd H7 x (.ins (t.c 0) dx (nM wa l1 l2 l3 da))) λb o z h=>K8 _ _ z (g7 _ _ (K06 b o z h));have fr1:H l1=none:=F1 _ hl1;have fr2:H l2=none:=F1 _ (F2 _ hl2);have fr3:H l3=none:=F1 _ (F2 _ (F4 _ hl3));have no:∀{l:Addr}{o:HO},H6 l=some o->H l=none->l∉wa::da::rows:=λ{l o} h6 h0 z=>by
  rcases Zn.mp z with rfl | z
  ·rw[e1]at h0;cases h0
  ·rcases Zn.mp z with rfl | z
   ·rw[hda]at h6;cases h6
   ·rw[hrows _ z]at h6;cases h6
 refine q (upd H7 x (.ins (t.c 0) dx (nM wa l1 l2 l3 da))) ⟨wa,l1,l2,l3,da,rows⟩ ds (λb o z h=>K8 _ _ z (g7 _ _ (K06 b o z h))) ⟨⟨dx,aB⟩,wk8.w,K8 _ _ nx1 (g7 _ _ P6),K8 _ _ nx2 (g7 _ _ G6),K8 _ _ nx3 (g7 _ _ R6),K8 _ _ nxd D7,ra.1,λi l hl=>?_,no P6 fr1,no G6 fr2,no R6 fr3,?_,?_,?_⟩ dk dt fr1 fr2 fr3
 ·obtain⟨a,a1,a2⟩:=ra.2 i l hl;exact(xWP a a1 (a2.keep λb xs=>⟨λy e=>K8 _ _ (b8 e (g7 _ _ X6) (!36)) e,λe=>K8 _ _ (b8 e (g7 _ _ X6) (!36)) e⟩))
 ·intro z;have z:l1=l2:=z;rw[<-z,P2]at hl2;cases hl2
 ·intro z;have z:l1=l3:=z;rw[<-z,P4]at hl3;cases hl3
 ·intro z;have z:l2=l3:=z;rw[<-z,G4]at hl3;cases hl3
end
end K27
namespace K27
open PySem L2 PyProof.Rows NM
def Unl(ns:List Int)(n:Nat):Prop:=ns≠[]/\(∀x∈ns,0<=x/\x<(n:Int))/\ns.Nodup
def among(ns:List Int)(n:Nat):List Int:=((ZS n).filter λk:Nat=>decide ((k:Int)∈ns)).map λk:Nat=>(k:Int)
theorem BC(ns:List Int)(n:Nat):among ns (n+1)=among ns n++(if (n:Int)∈ns then [(n:Int)] else []):=by
 unfold among;rw[ZI,List.filter_append,Zt];by_cases h:(n:Int)∈ns<;>simp[h]
theorem jL{ns:List Int}{n:Nat}{x:Int}:x∈among ns n↔x∈ns/\0<=x/\x<(n:Int):=by
 unfold among;constructor
 ·intro h;obtain⟨k,hk,rfl⟩:=Zh.mp h;obtain⟨h1,h2⟩:=Yz.mp hk;have:=Zs.mp h1;exact(xPP (Yf h2) (by lia) (by lia))
 ·rintro⟨h1,h2,h3⟩;refine Zh.mpr (xWP x.toNat (Yz.mpr ⟨Zs.mpr (by lia),?_⟩) (by lia));rw[decide_eq_true_iff];have:((x.toNat:Nat):Int)=x:=by lia
  rw[this];exact h1
theorem nR(ns:List Int)(n:Nat):(among ns n).Pairwise (· < ·):=by
 unfold among;rw[List.pairwise_map];exact((List.pairwise_lt_range (n:=n)).sublist List.filter_sublist).imp λh=>by lia
theorem OI{ns ns':List Int}{n:Nat}(hne:ns≠[])(p:ns'.Perm ns)(s:ns'.Pairwise (·<=·)):ns'=among ns n↔Unl ns n:=by
 constructor
 ·intro h;have hd:(among ns n).Nodup:=(nR ns n).imp λh=>by lia
  refine(xPP hne (λx hx=>(jL.mp (h▸(p.mem_iff.mpr hx))).2) ?_);rw[h]at p;exact p.nodup_iff.mp hd
 ·intro h;have hd:(among ns n).Nodup:=(nR ns n).imp λh=>by lia
  refine List.Perm.eq_of_pairwise (le:=(·<=·)) (λa b _ _ h1 h2=>Int.le_antisymm h1 h2) s ((nR ns n).imp λh=>by lia) (p.trans ?_);exact(List.perm_ext_iff_of_nodup h.2.2 hd).mpr λx=>⟨λhx=>jL.mpr ⟨hx,h.2.1 x hx⟩,λhx=>(jL.mp hx).1⟩
end K27
namespace NM
open L2 (at0)
def cc(f:Nat->Bool)(w:Way):Option Int:=if f w.a=true/\f w.b=false then w.hi else if f w.b=true/\f w.a=false then some (-w.lo) else some 0
def ind(f:Nat->Bool)(n:Nat):List Int:=(ZS n).map λk=>if f k=true then 1 else 0
theorem A0{f:Nat->Bool}{n k:Nat}(h:k<n):at0 (ind f n) k=if f k=true then 1 else 0:=by
 unfold ind at0;simp[List.getD,h]
theorem cut{f:Nat->Bool}{n:Nat}:∀(ws:List Way) (gs l:List Int) (t d:Int),gs.length=ws.length->(∀(i:Nat) w g,ws[i]?=some w->gs[i]?=some g->inB w g)->l.length=n->(∀w∈ws,w.a<n/\w.b<n) ->
  bnd (cc f) ws t=some d->dot (ind f n) l n-dot (ind f n) (left ws gs l) n<=d-t
 |[],[],l,t,d,_,_,_,_,h=>by cases h;simp[left]
 |[],_::_,_,_,_,hl,_,_,_,_=>by simp at hl
 |_::_,[],_,_,_,hl,_,_,_,_=>by simp at hl
 |w::ws,g::gs,l,t,d,hl,hin,hn,hk,h=>by
  unfold bnd at h;rcases hw:cc f w with _ | x
  ·rw[hw]at h;cases h
  ·rw[hw]at h;have ih:=cut ws gs (step l w g) (t+x) d (by simpa using hl) (λi w' g' h1 h2=>hin (i+1) w' g' (by simpa using h1) (by simpa using h2)) (by rw[mX];exact hn) (λw' h'=>hk w' (Zw _ h')) h;have hab:=hk w Zd;have h1:=hin 0 w g rfl rfl;rw[xF hn hab.1 hab.2,A0 hab.1,A0 hab.2]at ih;show dot (ind f n) l n-dot (ind f n) (left ws gs (step l w g)) n<=d-t;unfold cc at hw;unfold inB at h1;cases ha:f w.a<;>cases hb:f w.b<;>rw[ha,hb]at hw ih<;>simp at hw ih
   ·lia
   ·lia
   ·have:=h1.2 x hw
    lia
   ·lia
theorem PU{f:Nat->Bool}{needs:List Int}{ws:List Way}{gs:List Int}{d:Int}(hk:∀w∈ws,w.a<needs.length/\w.b<needs.length)(G:pO needs ws gs)(h:bnd (cc f) ws 0=some d):dot (ind f needs.length) needs needs.length<=d:=by
 have:=cut (f:=f) ws gs needs 0 d G.len G.inb rfl hk h;rw[sZ (l:=left ws gs needs) _ G.zero]at this
 lia
end NM
namespace K27
open PySem L2 PyProof.Rows NM
theorem xO{l l':List Int}(p:l.Perm l'):l.sum=l'.sum:=by
 induction p with
 |nil=>rfl
 |cons x _ ih=>simp[ih]
 |swap x y l=>simp;lia
 |trans _ _ h1 h2=>exact h1.trans h2
def fof(ns:List Int)(k:Nat):Bool:=decide ((k:Int)∈ns)
def PZ(ms ns:List Int):List Int:=(ZS ns.length).map λi=>at0 ms (at0 ns i).toNat
def IP(ms ns:List Int):Int:=(PZ ms ns).sum
theorem CN(ms ns:List Int):PZ ms ns=ns.map λx=>at0 ms x.toNat:=by
 unfold PZ;apply Yt;intro i;by_cases h:i<ns.length
 ·rw[Zk,Yk h,Zk,Zz h];unfold at0;simp[List.getD,h]
 ·rw[Zr (!41),Zr (!41)]
theorem u6(ms ns:List Int):∀n N,n<=N->((among ns n).map λx=>at0 ms x.toNat).sum=dot (ind (fof ns) N) ms n
 |0,_,_=>rfl
 |n+1,N,h=>by
  rw[BC,Zt,List.sum_append,u6 ms ns n N (by lia),nP,A0 (by lia)];unfold fof;by_cases hn:(n:Int)∈ns
  ·rw[Yb hn,Yb (Ye hn)];simp
  ·rw[Ya hn,Ya (by simp[hn])];simp
theorem IM{ms ns:List Int}(hu:Unl ns ms.length):IP ms ns=dot (ind (fof ns) ms.length) ms ms.length:=by
 rw[<-u6 ms ns ms.length ms.length (ZC _)];unfold IP;rw[CN];refine xO (List.Perm.map _ ?_);have hd:(among ns ms.length).Nodup:=(nR ns ms.length).imp λh=>by lia
 exact(List.perm_ext_iff_of_nodup hu.2.2 hd).mpr λx=>⟨λhx=>jL.mpr ⟨hx,hu.2.1 x hx⟩,λhx=>(jL.mp hx).1⟩
def BF(ms ns:List Int)(ws:List Way):Prop:=Unl ns ms.length/\∃m,bnd (cc (fof ns)) ws 0=some m/\m<IP ms ns
end K27
namespace FL
open NM L2
theorem K0(ns:List Int):sm ns.length (at0 ns)=ns.sum:=by
 unfold sm;congr 1;apply Yt;intro i;by_cases h:i<ns.length
 ·rw[Zk,Yk h,Zz h];unfold at0;simp[List.getD,h]
 ·rw[Zr (!41),Zr (by lia)]
theorem OM{m n:Nat}{a b:Nat->Nat}{need g:Nat->Int}(ha:∀k,k<m->a k<n)(hb:∀k,k<m->b k<n):sm n (rs m a b need g)=sm n need:=by
 have e:∀c:Nat->Nat,(∀k,k<m->c k<n)->sm n (λv=>sm m (λk=>if c k=v then g k else 0))=sm m g:=λc hc=>by
  have:=p9 (n:=n) (λ_=>1) c g m hc;rw[bY (g:=λv=>sm m (λk=>if c k=v then g k else 0)) λv _=>Int.one_mul _,bY (m:=m) (g:=g) λk _=>Int.one_mul _]at this;sleep 19
 have e1:sm n (rs m a b need g)=sm n need-sm n (λv=>sm m (λk=>if a k=v then g k else 0))+sm n (λv=>sm m (λk=>if b k=v then g k else 0)):=by
  rw[<-rO,<-vM];rfl
 rw[e1,e a ha,e b hb]
 lia
theorem JV{f:Way->Option Int}{ws:List Way}{F:Nat->Int}(h:∀(k:Nat) w,ws[k]?=some w->f w=some (F k))(t:Int):bnd f ws t=some (t+sm ws.length F):=by
 have key:∀i,i<=ws.length->bnd f ws t=bnd f (ws.drop i) (t+sm i F):=by
  intro i;induction i with
  |zero=>intro _;rw[pZ,Int.add_zero];rfl
  |succ i ih =>
   intro hi;have hw:ws[i]?=some ws[i]:=Zz (by lia);rw[ih (by lia),kW hw (h i _ hw),cJ,Int.add_assoc]
 rw[key _ (ZC _),List.drop_length];rfl
theorem Back.len{src:Nat->Int->Nat}{R:List En}{i c:Nat}{bs:List (Nat×Int)}(h:Back src R i bs c):bs.length<=i:=by
 induction h with
 |stop _ _=>exact YZ _
 |step _ _ hj _ _ _ ih=>rw[Yq];lia
theorem Back.last{src:Nat->Int->Nat}{R:List En}{i c:Nat}{bs:List (Nat×Int)}(h:Back src R i bs c):bs=[]\/∃q,bs.getLast?=some q/\src q.1 q.2=c:=by
 induction h with
 |stop _ _=>exact .inl rfl
 |@step i j c e u ps g hb hj gu uv p ih =>
  refine .inr ?_;rcases ih with rfl | ⟨q,h1,h2⟩
  ·refine(xWP (e.k,e.by_) rfl ?_);cases p with
   |stop g' hb' =>
    rw[gu]at g';cases g';exact uv.symm
  ·refine(xWP q ?_ h2);cases ps with
   |nil=>cases h1
   |cons y ps=>rw[List.getLast?_cons_cons];exact h1
theorem FZ{f:Nat->Int}:∀{S:List Nat},(∀v∈S,0<=f v)->∀{u:Nat},u∈S->0<f u->0<ss S f
 |v::S,h,u,hu,hp=>by
  have nn:∀{S:List Nat},(∀v∈S,0<=f v)->0<=ss S f:=by
   intro S;induction S with
   |nil=>intro _;sleep 16
   |cons w S ih =>
    intro hS;rw[jS];have:=hS w (.head _);have:=ih λx hx=>hS x (.tail _ hx)
    lia
  rw[jS];rcases Zn.mp hu with rfl | hu
  ·have:=nn λx hx=>h x (.tail _ hx)
   lia
  ·have:=FZ (λx hx=>h x (.tail _ hx)) hu hp;have:=h v (.head _)
   lia
end FL
namespace K27
open PySem L2 PyProof.Rows NM FL
theorem Q0{ws:List Way}{ps:List Int}(hb:∀w∈ws,∀h,w.hi=some h->w.lo<=h)(hhi:∀w∈ws,NM.rt ps w<0->∃h,w.hi=some h):fW ws.length (aF ws) (bF ws) (loF ws) (hiF ws) (coF ws) (at0 (ws.map (g0 ps))) (at0 ps):=by
 have at_:∀{k:Nat}(hk:k<ws.length),at0 (ws.map (g0 ps)) k=g0 ps ws[k]/\ws[k]?=some ws[k]:=λ{k} hk=>⟨by unfold at0;simp[List.getD,hk],Zz hk⟩
 refine⟨λk hk=>?_,λk hk h hh=>?_,λk hk c=>?_,λk hk c=>?_⟩
 ·obtain⟨e1,e2⟩:=at_ hk;rw[e1,oT e2];unfold g0;split
  ·rename_i c
   obtain⟨h,eh⟩:=hhi _ (Zp hk) c;rw[eh];exact hb _ (Zp hk) h eh
  ·sleep 16
 ·obtain⟨e1,e2⟩:=at_ hk;rw[mT e2]at hh;rw[e1];unfold g0;split
  ·rw[hh];sleep 16
  ·exact hb _ (Zp hk) h hh
 ·obtain⟨e1,e2⟩:=at_ hk;rw[CB e2]at c;rw[e1,oT e2];unfold g0;rw[Ya (by lia)]
 ·obtain⟨e1,e2⟩:=at_ hk;rw[CB e2]at c;rw[e1,mT e2];unfold g0;obtain⟨h,eh⟩:=hhi _ (Zp hk) c;rw[Yb c,eh];rfl
theorem PX{ns gs lot:List Int}{ws:List Way}{co p:Nat->Int}{R:List En}{nr:Nat->Option Int}{pr:Nat->Int->Prop}
  (h:Rch (rs ws.length (aF ws) (bF ws) (at0 ns) (at0 gs)) (sd (aF ws) (bF ws)) (fr (aF ws) (bF ws)) (ln (aF ws) (bF ws) co p) (!50) ns.length pr R [] nr)
  (all:∀k by_,opn ws.length (loF ws) (hiF ws) (at0 gs) k by_->(∃u∈R,u.v=sd (aF ws) (bF ws) k by_)->pr k by_) (nn:∀u∈R,0<=rs ws.length (aF ws) (bF ws) (at0 ns) (at0 gs) u.v)
  {v:Nat}(hv:v<ns.length) (hp:0<rs ws.length (aF ws) (bF ws) (at0 ns) (at0 gs) v) (hl:lot.Perm (R.map λe=>(e.v:Int))):BF ns lot ws:=by
 have mem:∀k:Nat,(k:Int)∈lot↔k∈R.map (·.v):=λk=>by
  rw[hl.mem_iff,Zh,Zh];constructor
  ·rintro⟨e,he,z⟩;exact(xWP e he (by lia))
  ·rintro⟨e,he,z⟩;exact(xWP e he (by lia))
 obtain⟨u,hu,uv⟩:=h.have_pos hv hp;have shut:∀k by_,opn ws.length (loF ws) (hiF ws) (at0 gs) k by_->sd (aF ws) (bF ws) k by_∈R.map (·.v)->fr (aF ws) (bF ws) k by_∈R.map (·.v):=λk b o z=>by
  obtain⟨u,hu,e⟩:=Zh.mp z;obtain⟨u',hu',e'⟩:=h.shut all o (xWP u hu e);exact Zh.mpr (xWP u' hu' e')
 obtain⟨l1,l2,l3⟩:=IL (need:=at0 ns) h.nd shut;have pos:0<ss (R.map (·.v)) (rs ws.length (aF ws) (bF ws) (at0 ns) (at0 gs)):=FZ (λx hx=>by
  obtain⟨e,he,rfl⟩:=Zh.mp hx;exact nn e he) (Zh.mpr (xWP u hu uv)) hp
 refine(fN (xPP (λz=>?_) (λx hx=>?_) ?_) (sm ws.length (λk=>if aF ws k∈R.map (·.v) then (if bF ws k∈R.map (·.v) then 0 else at0 gs k) else if bF ws k∈R.map (·.v) then-at0 gs k else 0)) ?_ ?_)
 ·have:=(mem u.v).mpr (Zh.mpr (xWP u hu rfl));rw[z]at this;cases this
 ·obtain⟨e,he,rfl⟩:=Zh.mp (hl.mem_iff.mp hx);have:=h.lt e (by simpa using he);constructor<;>lia
 ·refine hl.nodup_iff.mpr ?_;rw[show(R.map λe=>(e.v:Int))=(R.map (·.v)).map λk:Nat=>(k:Int) by rw[Ym];rfl];exact List.pairwise_map.mpr (h.nd.imp λz y=>z (by lia))
 ·rw[JV (F:=λk=>if aF ws k∈R.map (·.v) then (if bF ws k∈R.map (·.v) then 0 else at0 gs k) else if bF ws k∈R.map (·.v) then-at0 gs k else 0) λk w hw=>?_,Int.zero_add];have hk:=(Zj.mp hw).1;unfold cc;have ea:fof lot w.a=decide (aF ws k∈R.map (·.v)):=by unfold fof;rw[lY hw];exact decide_eq_decide.mpr (mem _)
  have eb:fof lot w.b=decide (bF ws k∈R.map (·.v)):=by unfold fof;rw[nQ hw];exact decide_eq_decide.mpr (mem _)
  rw[ea,eb];by_cases x:aF ws k∈R.map (·.v)<;>by_cases y:bF ws k∈R.map (·.v)
  ·rw[Ye x,Ye y,Yb x,Yb y];rfl
  ·rw[Ye x,Yc y,Yb x,Ya y,Yb ⟨rfl,rfl⟩,<-mT hw];exact l1 k hk x y
  ·have:=l2 k hk y x;rw[Yc x,Ye y,Ya x,Yb y,Ya (!5),Yb ⟨rfl,rfl⟩,this,oT hw]
  ·rw[Yc x,Yc y,Ya x,Ya y];rfl
 ·have e1:IP ns lot=ss (R.map (·.v)) (at0 ns):=by
   unfold IP ss;rw[CN,xO (hl.map _),Ym,Ym];congr 1
  rw[e1];have e2:sm ws.length (λk=>if aF ws k∈R.map (·.v) then (if bF ws k∈R.map (·.v) then 0 else-at0 gs k) else if bF ws k∈R.map (·.v) then at0 gs k else 0)=sm ws.length (λ_=>0)-sm ws.length (λk=>if aF ws k∈R.map (·.v) then (if bF ws k∈R.map (·.v) then 0 else at0 gs k) else if bF ws k∈R.map (·.v) then-at0 gs k else 0):=by
   rw[<-rO];refine bY λk _=>?_;by_cases x:aF ws k∈R.map (·.v)<;>by_cases y:bF ws k∈R.map (·.v)<;>simp only[x,y,if_true,if_false]<;>lia
  rw[e2,rP]at l3
  lia
theorem M1{ns gs ps:List Int}{ws:List Way}(hl:gs.length=ws.length)(hab:∀w∈ws,w.a<ns.length/\w.b<ns.length)(sr:fW ws.length (aF ws) (bF ws) (loF ws) (hiF ws) (coF ws) (at0 gs) (at0 ps))
  (z:∀v,v<ns.length->rs ws.length (aF ws) (bF ws) (at0 ns) (at0 gs) v=0):pO ns ws gs/\bnd (due ps) ws (dot ps ns ns.length)=some (lS ws gs):=by
 refine⟨⟨hl,λi w g hw hg=>?_,λk hk=>by rw[vZ hl hab];exact z k hk⟩,?_⟩
 ·obtain⟨hi,eg⟩:=Zj.mp hg;have e0:at0 gs i=g:=by unfold at0;simp[List.getD,hg]
  have hi':i<ws.length:=by lia
  have h1:=sr.low i hi';rw[e0,oT hw]at h1;refine⟨h1,λh hh=>?_⟩;have:=sr.high i hi' h (by rw[mT hw];exact hh);rw[e0]at this;sleep 19
 ·have ha:∀k,k<ws.length->aF ws k<ns.length:=λk hk=>by rw[lY (Zz hk)];exact(hab _ (Zp hk)).1
  have hb:∀k,k<ws.length->bF ws k<ns.length:=λk hk=>by rw[nQ (Zz hk)];exact(hab _ (Zp hk)).2
  rw[JV (F:=λk=>FL.rt (aF ws) (bF ws) (coF ws) (at0 ps) k*at0 gs k) λk w hw=>?_]
  ·have c:=MZ (co:=coF ws) (p:=at0 ps) z ha hb;have e1:dot ps ns ns.length=sm ns.length (λv=>at0 ps v*at0 ns v):=rfl;have e2:lS ws gs=sm ws.length (λk=>coF ws k*at0 gs k):=by
    rw[wM ⟨0,0,0,none,0⟩ ws gs hl];refine bY λk hk=>?_;rw[A8 (Zz hk)];simp[List.getD,hk]
   rw[e1,e2,c]
  ·have hk:=(Zj.mp hw).1;have e:=CB hw ps;unfold due;rw[<-e];by_cases h1:0<FL.rt (aF ws) (bF ws) (coF ws) (at0 ps) k
   ·rw[Yb h1,sr.over k hk h1,oT hw]
   ·rw[Ya h1];by_cases h2:FL.rt (aF ws) (bF ws) (coF ws) (at0 ps) k<0
    ·have:=sr.under k hk h2;rw[mT hw]at this;rw[Yb h2,this]
    ·have:FL.rt (aF ws) (bF ws) (coF ws) (at0 ps) k=0:=by lia
     rw[Ya h2,this,Int.zero_mul]
structure FS where
 ps:List Int
 gs:List Int
 rs:List Int
def Amt(ws:List Way)(gs rs:List Int)(bs:List (Nat×Int))(cb l:Nat)(x:Int):Prop :=
 (x<=at0 rs cb/\x<=- at0 rs l/\∀q∈bs,∀r,rm ws gs q.1 q.2=some r->x<=r)/\(x=at0 rs cb\/x = - at0 rs l\/∃q∈bs,rm ws gs q.1 q.2=some x)
def JD(ws:List Way)(ds:List (!34))(n:Nat)(s t:FS):Prop:=∃(R:List En) (y:En) (bs:List (Nat×Int)) (cb:Nat) (x:Int),Rr ws ds s.ps s.gs s.rs n (R++[y])/\at0 s.rs y.v<0/\((R++[y]).map (·.v)).Nodup /\
 Back (sd (aF ws) (bF ws)) (R++[y]) R.length bs cb/\Amt ws s.gs s.rs bs cb y.v x/\(t.ps.length=s.ps.length/\∀v,at0 t.ps v=at0 s.ps v+lift (R++[y]) y.d v)/\(t.gs.length=s.gs.length/\∀k,at0 t.gs k=dP (at0 s.gs) x bs k)/\t.rs.length=s.rs.length/\∀v,at0 t.rs v=at0 s.rs v-(if cb=v then x else 0)+(if y.v=v then x else 0)
inductive Fd where
 |lot (l:List Int)
 |going (gs ps:List Int)
def T6(ws:List Way)(ds:List (!34))(n:Nat)(s:FS):Fd->Prop
 |.lot l=>∃(R:List En) (y:En),Rr ws ds s.ps s.gs s.rs n (R++[y])/\0<=at0 s.rs y.v/\(∃v,v<n/\at0 s.rs v≠0)/\l.Perm ((R++[y]).map λe=>(e.v:Int))/\l.Pairwise (·<=·)
 |.going gs ps=>(∀v,v<n->at0 s.rs v=0)/\gs=s.gs/\ps=s.ps
def M0(n:Nat)(rs:List Int):Int:=sm n λv=>max (at0 rs v) 0
def PB(k:Nat):Int:=1000*128 ^ (k+1)
theorem BE(k:Nat):128000<=PB k:=by
 have:(1:Int)<=128 ^ k:=Int.pow_pos (!1);unfold PB;rw[Int.pow_succ]
 lia
theorem DD(k:Nat):PB (k+1)=128*PB k:=by
 unfold PB;rw[Int.pow_succ 128 (k+1)]
 lia
theorem M8{j k:Nat}(h:j<=k):PB j<=PB k:=by
 induction h with
 |refl=>exact Int.le_refl _
 |step _ ih =>
  rw[DD];have:=BE j
  lia
def PBd(n:Nat)(rs0:List Int)(ps0 ps gs0 gs rs:List Int):Prop :=
 ((∀v,at0 ps0 v=0)->∀v,- PB (M0 n rs0-M0 n rs).toNat<=at0 ps v/\at0 ps v<=PB (M0 n rs0-M0 n rs).toNat)/\M0 n rs<=M0 n rs0/\∀j,at0 gs0 j-(M0 n rs0-M0 n rs)<=at0 gs j/\at0 gs j<=at0 gs0 j+(M0 n rs0-M0 n rs)
theorem PBd.refl{n:Nat}{rs ps gs:List Int}:PBd n rs ps ps gs gs rs:=(xPP (λz v=>by have:=BE (M0 n rs-M0 n rs).toNat;rw[z v];lia) (Int.le_refl _) (λj=>by lia))
theorem DB{rest:Nat->Int}{src dst:Nat->Int->Nat}{len:Nat->Int->Int}{op:Nat->Int->Prop}{n:Nat}{pr:Nat->Int->Prop}{R W:List En}{nr:Nat->Option Int}(h:Rch rest src dst len op n pr R W nr){L:Int}(hl:0<=L)(b:∀k by_,op k by_->0<=len k by_/\len k by_<=L) :
  ∀(m i:Nat) (e:En),i<m->R[i]?=some e->0<=e.d/\e.d<=i*L
 |0,_,_,hm,_=>Yg hm (Nat.not_lt_zero _)
 |m+1,i,e,hm,hi=>by
  rcases h.old i e hi with z | ⟨o,_,_,u,hu,_,ud⟩
  ·rw[z.2.1];exact⟨Int.le_refl _,Int.mul_nonneg (by lia) hl⟩
  ·obtain⟨j,hj,ej⟩:=Yy.mp hu;rw[Yw]at hj;have gj:R[j]?=some u:=by rw[<-ej,List.getElem_take,Zz (by lia)]
   have ih:=DB h hl b m j u (by lia) gj;obtain⟨b1,b2⟩:=b _ _ o;rw[ud];refine⟨by lia,?_⟩;have e1:((j:Int)+1)*L<=i*L:=Int.mul_le_mul_of_nonneg_right (by lia) hl;rw[Int.add_mul,Int.one_mul]at e1
   lia
theorem PBd.step{n c l:Nat}{rs0 ps0 ps ps' gs0 gs gs' rs rs':List Int}{ws:List Way}{R W:List En}{e:En}{bs:List (Nat×Int)}{x:Int}{rest:Nat->Int}{pr:Nat->Int->Prop}{nr:Nat->Option Int}(B:PBd n rs0 ps0 ps gs0 gs rs)(h60:n<60)
  (sr:fW ws.length (aF ws) (bF ws) (loF ws) (hiF ws) (coF ws) (at0 gs) (at0 ps)) (hc:∀k,-1000<=coF ws k/\coF ws k<=1000)
  (h:Rch rest (sd (aF ws) (bF ws)) (fr (aF ws) (bF ws)) (ln (aF ws) (bF ws) (coF ws) (at0 ps)) (!50) n pr (R++[e]) W nr)
  (q:Back (sd (aF ws) (bF ws)) (R++[e]) R.length bs c) (hcn:c<n) (hx:1<=x) (x1:x<=at0 rs c) (x2:x<=- at0 rs l)
  (ep:∀v,at0 ps' v=at0 ps v+lift (R++[e]) e.d v) (eg:∀k,at0 gs' k=dP (at0 gs) x bs k) (er:∀v,at0 rs' v=at0 rs v-(if c=v then x else 0)+(if l=v then x else 0)) :
  PBd n rs0 ps0 ps' gs0 gs' rs':=by
 obtain⟨b1,b2,b3⟩:=B;have less:M0 n rs'=M0 n rs-x:=sO (n:=n) (c:=c) (l:=l) (r:=at0 rs) (r':=at0 rs') hcn (λv _=>er v) x1 x2 hx;have nn:0<=M0 n rs':=uB λk _=>Int.le_max_right _ _;refine(xPP (λz v=>?_) (by lia) (λj=>?_))
 ·have p:=b1 z;generalize hM:(M0 n rs0-M0 n rs).toNat=M at p;have hM':M+1<=(M0 n rs0-M0 n rs').toNat:=by lia
  have pm:=M8 hM';rw[DD]at pm;have pp:=BE M;have hL:∀k by_,opn ws.length (loF ws) (hiF ws) (at0 gs) k by_->0<=ln (aF ws) (bF ws) (coF ws) (at0 ps) k by_/\ln (aF ws) (bF ws) (coF ws) (at0 ps) k by_<=1000+2*PB M:=λk by_ o=>by
   refine⟨sr.nn o,?_⟩;have:=hc k;have:=p (aF ws k);have:=p (bF ws k);unfold ln FL.rt;rcases fC o with rfl | rfl<;>lia
  have few:=h.few;have bd:∀u∈R++[e],0<=u.d/\u.d<=59*(1000+2*PB M):=λu hu=>by
   obtain⟨i,hi,ei⟩:=Yy.mp hu;have:=DB h (L:=1000+2*PB M) (by lia) hL (i+1) i u (by lia) (by rw[<-ei,Zz hi]);have e1:(i:Int)*(1000+2*PB M)<=59*(1000+2*PB M):=Int.mul_le_mul_of_nonneg_right (by lia) (by lia)
   lia
  have top:∀u∈R++[e],u.d<=e.d:=λu hu=>by
   rcases Zf.mp hu with hu | hu
   ·exact(List.pairwise_append.mp h.up).2.2 u hu e (.head _)
   ·have:u=e:=by simpa using hu
    rw[this];sleep 16
  have be:=bd e (!5);have pv:=p v;rw[ep v];by_cases y:∃u∈R++[e],u.v=v
  ·obtain⟨u,hu,rfl⟩:=y;rw[gW h.nd hu];have:=top u hu;have:=bd u hu
   lia
  ·rw[nG λu hu uv=>y (xWP u hu uv)]
   lia
 ·have⟨c1,c2⟩:=b3 j;rw[eg j];by_cases y:j∈bs.map (·.1)
  ·obtain⟨d,hd,rfl⟩:=Zh.mp y;rw[oN x bs (at0 gs) (q.once h (λk b' o=>B9 k (fC o)) λk b' o=>fC o) hd];rcases fC (q.open_ h d hd).1 with z | z<;>rw[z]<;>lia
  ·rw[jT x bs (at0 gs) y]
   lia
def Fl(ns:List Int)(ws:List Way)(ps:List Int)(a:Fd):Prop:=∃ds s,Dd ws ns.length ws.length ds/\y0 (JD ws ds ns.length) ⟨ps,ws.map (g0 ps),left ws (ws.map (g0 ps)) ns⟩ s/\s.rs.length=ns.length/\T6 ws ds ns.length s a/\PBd ns.length (left ws (ws.map (g0 ps)) ns) ps s.ps (ws.map (g0 ps)) s.gs s.rs
section
def xG:Sp:=λvs H Q _=>∃(p pa na wa:Addr) (ns:List Int) (ws:List Way) (ps:List Int),vs=[.ref p,.ref pa]/\iM H p na wa ns ws/\pN ns ws/\ns.length<60/\H pa=some (!12)/\ps.length=ns.length/\(∀w∈ws,NM.rt ps w<0->∃h,w.hi=some h) /\
 (∀(r l1 l2 l3:Addr) (lot:List Int) (H':Hp),H l3=none->aK H H'->H' r=some (.tup [.ref l1,.ref l2,.ref l3])->H' l3=some (.lst (lot.map V.int))->lot.length<60->BF ns lot ws->Fl ns ws ps (.lot lot)->Q (.ref r) H') /\
 (∀(r ga pb l3:Addr) (gs ps':List Int) (H':Hp),H ga=none->H pb=none->ga≠pb->aK H H'->H' r=some (.tup [.ref ga,.ref pb,.ref l3])->H' ga=some (.lst (gs.map V.int))->H' pb=some (.lst (ps'.map V.int))->H' l3=some (!49)->ps'.length=ns.length->pO ns ws gs->bnd (due ps') ws (dot ps' ns ns.length)=some (lS ws gs)->Fl ns ws ps (.going gs ps')->Q (.ref r) H')
theorem EK(T:Txt K mg t)(G_Search_init:j8 P w K mg base CX0 2 t.ai t.di ["self","net","prices"] (GI (t.c 0)))(G_reach:Ok P w base T 35 2 (BY (t.c 0)))(G_raise_prices:Ok P w base T 39 1 (BZ (t.c 0)))
  (G_path_to:Ok P w base T 40 2 (GC (t.c 0))) (G_push:Ok P w base T 41 2 (F9 (t.c 0))):Ok P w base T 34 4 xG:=by
 left
 obtain⟨p,pa,na,wa,ns,ws,ps,rfl,hN,hO,h60,hP,pl,hhi,qlot,qbest⟩:=h;refine(xWP _ (by exists 2,LM T.x.k G_Search_init (hr.mono (!1)) rfl (T.m 0) T.x.b .nil bR ?_,0,1,bT ?_ (λ_=>rfl),bC (E6 rfl) rfl (T.z 1) boot_any ?_,dH (pv 2) rfl,3,cX G_reach hr (T.f 35) bR ?_,2,4,mR,a8 (A9 rfl) rfl (T.z 7) boot_list ?_,3,aJ,dH (pv 2) rfl,4,bC (wQ rfl) rfl (T.z 11) boot_sorted ?_,3,cX G_raise_prices hr (T.f 39) bR ?_,2,3,4,cX G_push hr (T.f 41) bR ?_,2,cX G_path_to hr (T.f 40) bR ?_,2,3,4,4,dH (pv 2) rfl,dH (pv 2) rfl) ?_);have hab:∀w∈ws,w.a<ns.length/\w.b<ns.length:=λw hw=>⟨(hO.w w hw).a,(hO.w w hw).b⟩
 have haF:∀k,k<ws.length->aF ws k<ns.length:=λk hk=>by rw[lY (Zz hk)];exact(hab _ (Zp hk)).1
 have hbF:∀k,k<ws.length->bF ws k<ns.length:=λk hk=>by rw[nQ (Zz hk)];exact(hab _ (Zp hk)).2
 have hcF:∀k,-1000<=coF ws k/\coF ws k<=1000:=λk=>by
  by_cases hk:k<ws.length
  ·rw[A8 (Zz hk)];exact(hO.w _ (Zp hk)).c
  ·unfold coF;rw[Zr (by lia)];decide
 refine(λx dx nx ndx nex=>?_);have s0:aK H (upd (upd H dx (.own x)) x (.ins (t.c 0) dx [])):=λb o e=>by rw[aH (aE e nx),aH (aE e ndx)];exact e
 refine(aR x dx p pa na wa ns ws ps (iD rfl aB (hN.mono s0) (s0 _ _ hP) pl hab hO.n2 hO.w2 hhi (λH1 A1 ds k1 S1 dk dt f1 f2 f3=>⟨rfl,?_⟩)));have g1:aK H H1:=λb o e=>k1 _ _ (aE e nx) (s0 _ _ e);have gl0:(ws.map (g0 ps)).length=ws.length:=by rw[Zq]
 obtain⟨ps0,eps⟩:∃l,ps=l:=⟨_,rfl⟩
 rw[eps]at qlot qbest;refine⟨λm σ H'=>∃(ps gs rs:List Int),m=(sm ns.length (λv=>max (at0 rs v) 0)).toNat/\aK H H'/\SAt (t.c 0) H' x A1 ws ds ps gs rs/\SOk ns.length ws ds ps gs rs/\fW ws.length (aF ws) (bF ws) (loF ws) (hiF ws) (coF ws) (at0 gs) (at0 ps) /\
  (∀v,v<ns.length->at0 rs v=FL.rs ws.length (aF ws) (bF ws) (at0 ns) (at0 gs) v)/\PBd ns.length (left ws (ws.map (g0 ps0)) ns) ps0 ps (ws.map (g0 ps0)) gs rs/\y0 (JD ws ds ns.length) ⟨ps0,ws.map (g0 ps0),left ws (ws.map (g0 ps0)) ns⟩ ⟨ps,gs,rs⟩/\∃o3 o4:Option V,σ=[some (.ref p),some (.ref pa),some (.ref x),o3,o4],
  (bG _ ps _ _ rfl g1 S1 ⟨pl,gl0,nH _ _ _,hab,dk⟩ (Q0 (λw hw h hh=>((hO.w w hw).hi h hh).1) hhi) (bN (λv _=>vZ gl0 hab v) (by rw[<-eps];exact PBd.refl) (by rw[<-eps];exact .refl) (!44))),?_⟩
 have fp:=s0.free f1;have fg:=s0.free f2;have fr':=s0.free f3;clear S1 k1 g1 gl0 hhi pl hP eps ps;rintro m σ H' ⟨ps,gs,rs,rfl,g,S,O,sr,hrs,pb,tr,o3,o4,rfl⟩;obtain⟨dx1,ob⟩:=S.ob;have hz:sm ns.length (at0 rs)=0:=by
  rw[bY hrs,OM haF hbF,K0,hO.z]
 refine(aV _ dx1 _ _ ob T.x.l T.x.n3 (eZ _ _ _ _ _) (iP A1.r rs rfl (SqL.of S.r) _ rfl ?_));have hany:rs.any (· != 0)=true↔∃v,v<ns.length/\at0 rs v≠0:=by
  rw[List.any_eq_true];constructor
  ·rintro⟨y,hy,hne⟩;obtain⟨i,hi,rfl⟩:=Yy.mp hy;refine(xWP i (by rw[<-O.rl];exact hi) ?_);unfold at0;simpa[List.getD,hi] using hne
  ·rintro⟨v,hv,hne⟩;exact(xWP (at0 rs v) (iZ (by rw[O.rl];exact hv)) (by simpa using hne))
 refine i2 (λc=>?_) (λc=>?_)
 ·obtain⟨v0,hv0,hne⟩:=hany.mp c;obtain⟨v1,hv1,hp1⟩:=GM hz hv0 hne;refine(xWP _ (λσ' H'' h=>h) ?_);refine(iC x A1 ws ds ps gs rs ns.length rfl (cN S O (by lia) hO.w2 sr (λd H2 R hd g2 d2 t2 out rr=>?_)));have out':=out.congr (rest':=FL.rs ws.length (aF ws) (bF ws) (at0 ns) (at0 gs)) hrs;have S2:=S.mono g2;have g02:=g.trans g2;have hlast:∃(R':List (Addr×En)) (y:Addr×En),R=R'++[y]:=by
   rcases List.eq_nil_or_concat R with z | ⟨R',y,z⟩
   ·exfalso;subst z;rcases out with⟨R',e,W,nr,pr,z,_⟩ | ⟨nr,pr,h,_⟩
    ·cases R'<;>cases z
    ·obtain⟨u,hu,_⟩:=h.have_pos hv1 hp1;cases hu
   ·exact(xWW R' y (by rw[z,List.concat_eq_append]))
  obtain⟨R',y,rfl⟩:=hlast;have rdl:∀{H3:Hp},aK H2 H3->Rd H3 d (.dK (kvR (R'++[y]))):=λg3=>.inl (g3 _ _ d2);have hyv:y.2.v<ns.length:=by
   rcases out with⟨_,_,_,_,_,_,h,_⟩ | ⟨_,_,h,_⟩
   ·exact h.lt _ (ZP _ (by unfold es;simp))
   ·exact h.lt _ (ZP _ (by unfold es;simp))
  have ndv:((es (R'++[y])).map (·.v)).Nodup:=by
   rcases out with⟨_,_,_,_,_,_,h,_⟩ | ⟨_,_,h,_⟩
   ·exact h.nd
   ·exact h.nd
  refine(cI d _ _ rfl (.inl d2) (yG _) (λl hl=>?_));have g3:=aC hl (.lst (((es (R'++[y])).map λe=>(e.v:Int)).map V.int));refine(.inl (aG _ (vn y.2.v) (SqL.of aB) (tF (by unfold es;simp)) ?_));have S3:=S2.mono g3;have g03:=g02.trans g3;have d3:=g3 _ _ d2;have t3:∀z∈R'++[y],(upd H2 l (.lst (((es (R'++[y])).map λe=>(e.v:Int)).map V.int))) z.1=some (.tup (ev z.2)):=λz hz=>g3 _ _ (t2 z hz);have fd:H d=none:=g.free hd;have fdn:d≠A1.p/\d≠A1.g/\d≠A1.r:=(xPP (λz=>(by rw[z,S.p]at hd;cases hd)) (λz=>(by rw[z,S.g]at hd;cases hd)) (λz=>(by rw[z,S.r]at hd;cases hd)))
  clear d2 t2 S2 g02 rdl hl g3;generalize upd H2 l (.lst (((es (R'++[y])).map λe=>(e.v:Int)).map V.int))=H3 at S3 g03 d3 t3;obtain⟨dx3,ob3⟩:=S3.ob;refine(aV _ dx3 _ _ ob3 T.x.l T.x.n3 (eZ _ _ _ _ _) (aG _ _ (SqL.of S3.r) (aQ (j:=y.2.v) (by rw[O.rl];exact hyv) rfl) ?_));have ees:es (R'++[y])=es R'++[y.2]:=by unfold es;rw[Zt];rfl
  have rr':Rr ws ds ps gs rs ns.length (es R'++[y.2]):=by rw[<-ees];exact rr
  rcases out' with⟨E',e,W,nr,pr,hE,rc,all,neg⟩ | ⟨nr,pr,rc,all,nn⟩
  ·
   rw[ees]at hE;obtain⟨rfl,hE2⟩:=List.append_inj' hE rfl;have hE3:y.2=e:=by simpa using hE2
   subst hE3;rw[ees]at rc;have negy:at0 rs y.2.v<0:=by rw[hrs _ hyv];exact neg
   refine iFb (Yc (by lia)) ?_;obtain⟨bs,cb,hB,hcn,hcp⟩:=Back.there rc ((es R').length+1) (es R').length (Nat.lt_succ_self _) (by rw[Zm];exact Nat.lt_succ_self _);have hbo:=λq hq=>(hB.open_ rc q hq).1;have hbs:∀q∈bs,q.1<ws.length/\(q.2=1\/q.2 = -1):=λq hq=>⟨(hbo q hq).1,fC (hbo q hq)⟩
   have hbl:bs.length<=1000:=by
    have h1:=hB.len;have h2:=rc.few;rw[Zm]at h2
    lia
   have hgt:(es R'++[y.2])[(es R').length]?=some y.2:=by rw[Zy (ZC _),Nat.sub_self];rfl
   obtain⟨ql,hql,hqc⟩:∃q,bs.getLast?=some q/\sd (aF ws) (bF ws) q.1 q.2=cb:=by
    rcases hB.last with z | z
    ·exfalso;subst z;cases hB with
     |stop gg _ =>
      rw[hgt]at gg;cases gg
      lia
    ·exact z
   have hcp':0<at0 rs cb:=by rw[hrs _ hcn];exact hcp
   refine(aR x d A1 ws ds ps gs rs (R'++[y]) (qV y rfl S3 d3 (λz hz=>⟨t3 z hz,?_⟩) ndv (!5) (λH4 ps' k4 p4 rd4 l4 a4=>?_)))
   ·rw[O.pl];refine rc.lt z.2 (ZP _ ?_);rw[<-ees];exact Zh.mpr (xWP z hz rfl)
   have S4:SAt (t.c 0) H4 x A1 ws ds ps' gs rs:=S3.into (λb o h1 _ _ hk h=>k4 _ _ h1 (b8 h d3 (hk _)) h) p4 (k4 _ _ S3.pg.symm fdn.2.1.symm S3.g) (k4 _ _ S3.pr.symm fdn.2.2.symm S3.r);have t4:∀z∈R'++[y],H4 z.1=some (.tup (ev z.2)):=λz hz=>k4 _ _ (b8 (t3 z hz) S3.p (by intro y;cases y)) (b8 (t3 z hz) d3 (by intro y;cases y)) (t3 z hz);have g4:aK H H4:=λb o h=>k4 _ _ (aE h fp) (aE h fd) (g03 _ _ h);have hBl:(es R').length=R'.length:=by unfold es;rw[Zq]
   have hB':=hB;rw[<-ees,hBl]at hB';refine(aR x d A1 ws ds ps' gs rs (R'++[y]) (bG y R'.length cb bs rfl S4 rd4 t4 ndv (bK (by rw[Zy (ZC _),Nat.sub_self];rfl) hB' hbs hbl (λlp H5 hlp g5 dr5=>?_))));have S5:=S4.mono g5;have nlg:lp≠A1.g:=λz=>by rw[z,S4.g]at hlp;cases hlp
   have nlr:lp≠A1.r:=λz=>by rw[z,S4.r]at hlp;cases hlp
   refine(aR x lp A1 ws ds ps' gs rs bs (dM ql y.2.v rfl S5 dr5 nlg nlr hql hbl (bK hbs O.gl (by rw[hqc,O.rl];exact hcn) (by rw[O.rl];exact hyv) (λxx H6 gs' rs' x1 x2 x3 x4 k6 e6 l6 a6 r6 lr6 b6=>?_))));rw[hqc]at x1 x4 b6;have hx1:1<=xx:=by
    rcases x4 with z | z | ⟨q,hq,z⟩
    ·lia
    ·lia
    ·have rr:=sr.room (hbo q hq);have hk:=(hbs q hq).1;unfold rm at z;rcases(hbs q hq).2 with e1 | e1
     ·rw[e1,Ya (!1)]at z;obtain⟨h,z1,z2⟩:=Xv.mp z;have:=rr.1 e1 h z1
      lia
     ·rw[e1,Yb (!1)]at z;have:=rr.2 e1;have:=Option.some.inj z
      lia
   have eg:at0 gs'=dP (at0 gs) xx bs:=funext a6;have ep:at0 ps'=λv=>at0 ps v+lift (es R'++[y.2]) y.2.d v:=by
    funext v
    rw[a4,ees]
   obtain⟨sr',hrs'⟩:=sr.step rc all hB hx1 (λq hq e1 h hh=>x3 q hq _ (by unfold rm;rw[e1,Ya (!1),hh];rfl)) (λq hq e1=>x3 q hq _ (by unfold rm;rw[e1,Yb (!1)]));rw[<-eg,<-ep]at sr';rw[<-eg]at hrs';have hrs6:∀v,v<ns.length->at0 rs' v=FL.rs ws.length (aF ws) (bF ws) (at0 ns) (at0 gs') v:=λv hv=>by rw[b6,hrs',hrs v hv]
   have tr':y0 (JD ws ds ns.length) ⟨ps0,ws.map (g0 ps0),left ws (ws.map (g0 ps0)) ns⟩ ⟨ps',gs',rs'⟩:=.tail tr (a7 (es R') y.2 bs cb xx rr' negy (by rw[<-ees];exact ndv) hB (bK ⟨(xPP x1 x2 x3),x4⟩ ⟨l4,λv=>by rw[<-ees];exact a4 v⟩ ⟨l6,a6⟩ lr6 b6));have less:=sO (n:=ns.length) (c:=cb) (l:=y.2.v) (r:=at0 rs) (r':=at0 rs') hcn (λv _=>b6 v) x1 x2 hx1;have nn6:0<=sm ns.length (λv=>max (at0 rs' v) 0):=uB λk _=>Int.le_max_right _ _;refine(l9 _ ?_ ps' gs' rs' rfl (λb o h=>k6 _ _ (aE h fg) (aE h fr') (g5 _ _ (g4 _ _ h))) (S5.into (λb o _ h2 h3 _ h=>k6 _ _ h2 h3 h) (k6 _ _ S5.pg S5.pr S5.p) e6 r6) ⟨by rw[l4];exact O.pl,by rw[l6];exact O.gl,by rw[lr6];exact O.rl,hab,dk⟩ (bK sr' hrs6 (pb.step h60 sr hcF rc hB hcn hx1 x1 x2 (λv=>by rw[<-ees];exact a4 v) a6 b6) tr' (!44)))
   lia
  ·
   have nny:0<=at0 rs y.2.v:=by rw[hrs _ hyv];exact nn _ (by rw[ees];simp)
   refine iTb (Ye nny) ?_;refine⟨!23,λl1 hl1=>?_⟩;have k1:=aC hl1 (!49);refine⟨!23,λl2 hl2=>?_⟩;have k2:=aC hl2 (!49);have few:=rc.few;refine(dX d _ _ rfl (.inl ((k1.trans k2) _ _ d3)) (yG _) (!26) (λl3 lot hl3 hperm hsort=>?_));have k3:=aC hl3 (.lst (lot.map V.int));refine⟨(by show 3<=ZW;decide),λr hr'=>?_⟩;have k4:=aC hr' (.tup [.ref l1,.ref l2,.ref l3]);refine qlot r l1 l2 l3 lot _ ((g03.trans (k1.trans k2)).free hl3) (g03.trans (k1.trans (k2.trans (k3.trans k4)))) aB (k4 _ _ aB) (by rw[hperm.length_eq,Zq];lia) (PX rc all nn hv1 (by rw[<-hrs _ hv1];exact hp1) hperm) (bO ds ⟨ps,gs,rs⟩ dt tr O.rl (bO (es R') y.2 rr' nny (xWP v0 hv0 hne) (by rw[<-ees];exact hperm) hsort) pb)
 ·
  have hall:∀v,v<ns.length->at0 rs v=0:=λv hv=>ZT λz=>c (hany.mpr (xWP v hv z));refine(aV _ dx1 _ _ ob T.x.l T.x.n2 (nN _ _ _ _ _) (bG _ dx1 _ _ ob T.x.l T.x.n1 (oW _ _ _ _ _) (!23) (λl3 hl3=>?_)));have k3:=aC hl3 (!49);refine⟨(by show 3<=ZW;decide),λr hr'=>?_⟩;have k4:=aC hr' (.tup [.ref A1.g,.ref A1.p,.ref l3]);obtain⟨b1,b2⟩:=M1 O.gl hab sr λv hv=>by rw[<-hrs v hv];exact hall v hv
  exact qbest r A1.g A1.p l3 gs ps _ fg fp S.pg.symm (g.trans (k3.trans k4)) aB ((k3.trans k4) _ _ S.g) ((k3.trans k4) _ _ S.p) (k4 _ _ aB) O.pl b1 b2 (bO ds ⟨ps,gs,rs⟩ dt tr O.rl (xPP hall rfl rfl) pb)
end
def fre(ws:List Way)(i:Nat):List Nat:=(ZS i).filter λk=>(hiF ws k).isNone
theorem yJ(ws:List Way)(i:Nat):fre ws (i+1)=fre ws i++(if (hiF ws i).isNone=true then [i] else []):=by
 unfold fre;rw[ZI,List.filter_append];congr 1;by_cases z:(hiF ws i).isNone=true
 ·rw[Yb z,List.filter_cons_of_pos (p:=λk=>(hiF ws k).isNone) z];rfl
 ·rw[Ya z,List.filter_cons_of_neg (p:=λk=>(hiF ws k).isNone) z];rfl
theorem MR{ws:List Way}{k:Nat}:k∈fre ws ws.length↔k<ws.length/\hiF ws k=none:=by
 unfold fre;rw[Yz,Zs,Option.isNone_iff_eq_none]
theorem CW(ws:List Way)(i:Nat):(fre ws i).length<=i:=by
 have:=List.length_filter_le (λk=>(hiF ws k).isNone) (ZS i);rw[Yj]at this;sleep 19
def Cp(ns:List Int)(ws:List Way)(a:Fd):Prop:=Fl ns ws (ZG ns.length 0) a
def OA:Sp:=λ_ _ _ _=>False
theorem NR{CX:CXT}{k:Nat}{f:Addr}{fd:FuncData}{ps:List Str}:j8 P w K mg base CX k f fd ps OA:=⟨λ_ _ _ _ h=>h.elim,λ_ _ _ _ _ _ _ _ _ _ _ _ _ h=>h.elim⟩
def B0:Sp:=λvs H Q _=>∃(p na wa f pr:Addr) (o:V) (ns:List Int) (ws:List Way) (free:List Nat) (ps:List Int),vs=[.ref p,.ref f,.ref pr,o]/\iM H p na wa ns ws/\(∀w∈ws,w.a<ns.length/\w.b<ns.length)/\H f=some (.lst (vns free))/\(∀k∈free,k<ws.length) /\
 H pr=some (!12)/\ps.length=ns.length/\(∀w∈ws,0<=NM.rt ps w)/\Q .non H
theorem HS(T:Txt K mg t)(G_rate:Ok P w base T 27 1 (rM)):Ok P w base T 30 2 B0:=by
 left
 obtain⟨p,na,wa,f,pr,o,ns,ws,free,ps,rfl,hN,hab,hf,hfr,hP,pl,hz,q⟩:=h;have hu:=CU hr;refine(xWP _ (by exists 4,bE ?_,1,5,6,aJ,aI,0,5,7,cX G_rate hr (T.f 27) bR ?_,6,2,7,iR (pv 2) ?_ gL (pv 7) mS set_list,aI,6,qE hu (pv 3) ?_ (pv 5) rfl,aI,6,4,aI,6,4) ?_);obtain⟨rs,e1,e2,e3⟩:=hN.w;refine⟨⟨_,SqL.of hf⟩,eY (xs:=vns free) (λj σ H'=>H=H'/\∃o5 o6 o7:Option V,σ=[some (.ref p),some (.ref f),some (.ref pr),some o,some .non,o5,o6,o7]) ⟨rfl,(i6 _ _ _ rfl)⟩ (λj σ H' _ h=>by obtain⟨rfl,_⟩:=h;exact SqL.of hf) ?_ ?_⟩
 ·rintro j x σ H' hx ⟨rfl,o5,o6,o7,rfl⟩;rw[Zk]at hx;obtain⟨k,hk,rfl⟩:=Xv.mp hx;have hkl:=hfr k (Zg hk);obtain⟨r,r1,r2⟩:=e3 k _ (Zz hkl);have ab:=hab _ (Zp hkl);have hz':=hz _ (Zp hkl);refine(aG _ _ (SqT.of hN.tp) rfl (aG _ _ (SqL.of e1) (dA (by rw[Zk,r1];rfl)) ?_));refine(bG r pr (ws[k]) ps rfl (SqT.of r2) hP (by lia) (by lia) ?_);exact(i2 (λz=>Yg (Yf z) (Int.not_lt.mpr hz')) (λ_=>⟨rfl,(i6 _ _ _ rfl)⟩))
 ·rintro σ H' ⟨rfl,o5,o6,o7,rfl⟩;exact(q)
def t9:Sp:=λvs H Q _=>∃(p na wa:Addr) (ns:List Int) (ws:List Way),vs=[.ref p]/\iM H p na wa ns ws/\pN ns ws/\(∀w∈ws,0<=w.c) /\
 ∀(r pa l:Addr) (H':Hp),aK H H'->H' r=some (.tup [.ref pa,.ref l])->H' pa=some (.lst ((ZG ns.length (0:Int)).map V.int))->H' l=some (!49)->Q (.ref r) H'
theorem CA{n:Nat}{w:Way}:NM.rt (ZG n (0:Int)) w=w.c:=by
 have z:∀k,at0 (ZG n (0:Int)) k=0:=λk=>by
  unfold at0;rw[Zv];by_cases h:k<n
  ·simp[h]
  ·simp[h]
 unfold NM.rt;rw[z,z]
 lia
theorem AH(T:Txt K mg t)(G_lower_prices:Ok P w base T 30 2 B0):Ok P w base T 29 3 t9:=by
 have G_ring_behind:Ok P w base T 31 1 OA:=NR
 left
 obtain⟨p,na,wa,ns,ws,rfl,hN,hO,hz,qr⟩:=h;refine(xWP _ (by exists (fH 1 ["knot"] [none]),bE ?_,aI,0,0,2,nC,(fH 3 ["number","way"] [none,none]),cV rfl (T.z 3) ?_,aI,0,0,1,mI ?_,jX,aI,1,0,4,1,5,4,cX G_lower_prices hr (T.f 30) bR ?_,0,3,1,2,jX,4,1,1,cX G_ring_behind hr (T.f 31) bR ?_,0,2,4) ?_);have hn:=hO.n;have hn2:=hO.n2;have hw2:=hO.w2;have hab:∀w∈ws,w.a<ns.length/\w.b<ns.length:=λw hw=>⟨(hO.w w hw).a,(hO.w w hw).b⟩
 refine(aG _ _ (SqT.of hN.tp) rfl ⟨ ⟨_,SqL.of hN.n⟩,λpa hpa=>?_⟩);refine bJ ns.length (λ_=>.int 0) hpa (by lia) (λi H' hi g=>(bM _ _ (SqL.of (g _ _ hN.n)) (bX hi))) (λH' g=>(xWP _ (SqL.of (g _ _ hN.n)) (!54))) ?_ ?_
 ·rintro i H' x H'' k hi g ⟨rfl,hx⟩ hk;exact(!33)
 intro H1 g1 e1;have en:(ZS ns.length).map (λ_=>V.int 0)=(ZG ns.length (0:Int)).map V.int:=by
  apply Yt;intro i;by_cases h:i<ns.length
  ·simp[h]
  ·simp[h]
 rw[en]at e1;intro od hod;have g2:=aC hod (.dK []);have N2:=hN.mono (g1.trans g2);obtain⟨rs,w1,w2,w3⟩:=N2.w;refine(jC _ _ (SqT.of N2.tp) rfl wa rfl ⟨_,SqL.of w1⟩ (λfa hfa=>?_));refine iW ws.length (λi ys H'=>ys=vns (fre ws i)/\aK (upd H1 od (.dK [])) H'/\H' fa=some (.lst ys)) (xPP rfl (aC hfa _) aB) ?_ ?_
 ·rintro i ys H' hi ⟨rfl,g3,e3⟩;have hw:ws[i]?=some ws[i]:=Zz hi;obtain⟨r,r1,r2⟩:=w3 i _ hw;have gi:(rs.map V.ref)[i]?=some (.ref r):=by rw[Zk,r1];rfl
  refine⟨(bM _ _ (SqL.of (g3 _ _ w1)) gi),?_⟩;rintro x H'' ⟨Tp,x',rfl,hTp,rfl,hx⟩;have ex:=hx _ (SqL.of (g3 _ _ w1));rw[gi]at ex;cases ex;have g4:=aC hTp (.tup [.int (i:Int),.ref r]);have e4:atI (wv ws[i]) 3=some (vo ws[i].hi):=rfl;have lf:=CW ws i;refine(!29);refine(aO _ _ (SqT.of (g4 _ _ (g3 _ _ r2))) e4 rfl ?_);have eh:=mT hw;rcases hh:ws[i].hi with _ | h
  ·refine iT (bK (g4 _ _ e3) ?_ ?_ ?_ aB)
   ·rw[Zq];exact Xq lf (Xz (by lia:i<1000) (!1))
   ·rw[yJ,Yb (by rw[eh,hh];rfl)];unfold vns;rw[Zt];rfl
   ·exact λb u h=>by rw[aH (aE h hfa)];exact g4 _ _ (g3 _ _ h)
  ·refine iF (xPP ?_ (g3.trans g4) (g4 _ _ e3));rw[yJ,Ya (by rw[eh,hh];simp),List.append_nil]
 rintro ys H3 ⟨rfl,g3,e3⟩;refine⟨(xWP _ (SqL.of (g3 _ _ w1)) (by rw[Zq,w2];exact ZC _)),?_⟩;have g03:=g1.trans (g2.trans g3);have p3:=(g2.trans g3) _ _ e1;have o3:=g3 _ _ (aB (H:=H1) (a:=od) (o:=.dK []));have N3:=N2.mono g3;have fl:=CW ws ws.length;have nod:od≠pa:=b8 o3 p3 (!36);have hod0:H od=none:=g1.free hod;have npf:pa≠fa:=λz=>by rw[<-z,g2 _ _ e1]at hfa;cases hfa
 have npw:pa≠wa:=λz=>by
  obtain⟨rs0,z1,_⟩:=hN.w;rw[z,z1]at hpa;cases hpa
 have npn:pa≠na:=λz=>by rw[z,hN.n]at hpa;cases hpa
 refine(jB pa _ rfl (.inl (SqL.of p3)) _ rfl (!5) (!41) ?_);have ern:((((ZG ns.length (0:Int)).map V.int).length:Nat):Int).toNat=ns.length:=by rw[Zq,List.length_replicate];lia
 refine cK (lo:=0) (n:=((((ZG ns.length (0:Int)).map V.int).length:Nat):Int).toNat) (λi σ H'=>i=0/\H3=H'/\∃o5:Option V,σ=[some (.ref p),some (.ref pa),some (.ref od),some (.ref fa),some .non,o5]) (xPP rfl rfl ⟨ _,rfl⟩) ?_ ?_
 ·rintro i σ H' hi ⟨rfl,rfl,o5,rfl⟩;refine(aR p na wa fa pa _ ns ws (fre ws ws.length) (zB _ rfl N3 hab e3 (λk hk=>(MR.mp hk).1) p3 (!5) (λw hw=>by rw[CA];exact hz w hw) ?_));refine⟨rfl,iT ?_⟩;refine⟨!23,λl hl=>⟨!9,λr hr'=>?_⟩⟩;have m1:=aC hl (!49);have m2:=aC hr' (.tup [.ref pa,.ref l]);exact qr r pa l _ (g03.trans (m1.trans m2)) aB ((m1.trans m2) _ _ p3) (m2 _ _ aB)
 ·rintro σ H' ⟨z,_⟩;rw[ern]at z
  lia
def rN:Sp:=λvs H Q _=>∃(p na wa:Addr) (ns:List Int) (ws:List Way),vs=[.ref p]/\iM H p na wa ns ws/\pN ns ws/\(∀w∈ws,0<=w.c)/\ns.length<60 /\
 (∀(r la:Addr) (lot:List Int) (H':Hp),H la=none->aK H H'->H' r=some (.tup [.str "none",.ref la])->H' la=some (.lst (lot.map V.int))->lot.length<60->BF ns lot ws->Cp ns ws (.lot lot)->Q (.ref r) H') /\
 (∀(r ga pb:Addr) (gs ps:List Int) (H':Hp),(H ga=none/\H pb=none/\ga≠pb)->aK H H'->H' r=some (.tup [.str "best",.ref ga,.ref pb])->H' ga=some (.lst (gs.map V.int))->H' pb=some (!12)->ps.length=ns.length->pO ns ws gs->bnd (due ps) ws (dot ps ns ns.length)=some (lS ws gs)->Cp ns ws (.going gs ps)->Q (.ref r) H')
theorem xY(T:Txt K mg t)(G_check_net:Ok P w base T 43 1 vL)(G_settled_prices:Ok P w base T 29 3 t9)(G_filled:Ok P w base T 34 4 xG):Ok P w base T 46 5 rN:=by
 have G_without_costs:Ok P w base T 47 1 OA:=NR
 left
 obtain⟨p,na,wa,ns,ws,rfl,hN,hO,hz,h60,qlot,qbest⟩:=h;refine(xWP _ (by exists cX G_check_net hr (T.f 43) bR ?_,0,1,cX G_settled_prices hr (T.f 29) bR ?_,0,2,aI,1,bT (pv 2) (λ_=>rfl),3,cX G_filled hr (T.f 34) bR ?_,cX G_without_costs hr (T.f 47) bR ?_,0,(fI ["knot"] [none]),bE ?_,aI,0,0,3,cX G_filled hr (T.f 34) bR ?_,0,aI,1,bT ?_ (λ_=>rfl),aI,3,aI,3,bT (pv 2) (λ_=>rfl),aI,3,2,aI,3,aI,3) ?_);refine(gZ p na wa ns ws rfl hN hO ?_);refine(a7 p na wa ns ws rfl hN hO hz (λr0 pa l H1 g1 e0 e1 e2=>?_));refine(aG _ _ (SqT.of e0) rfl ?_);refine(xWP _ (.inl (xWP _ (SqL.of e2) rfl)) (iF ?_));refine(aG _ _ (SqT.of e0) rfl (bW p pa na wa ns ws _ rfl (hN.mono g1) (eJ hO h60 e1 (!5) (λw hw c=>?_) ?_ ?_)))
 ·rw[CA]at c;exact Yg (hz w hw) (Int.not_le.mpr c)
 ·intro r l1 l2 l3 lot H2 fl g2 f0 f3 h60' hlot cp;refine(iP _ _ (SqT.of f0) rfl _ (.inl (xWP _ (SqL.of f3) rfl)) (iTb (by cases lot with | nil=>exact Yg rfl hlot.1.1 | cons _ _=>rfl) ?_));refine(aO _ _ (SqT.of f0) rfl (!9) (λr2 hr2=>?_));have k:=aC hr2 (.tup [.str "none",.ref l3]);exact qlot r2 l3 lot _ (g1.free fl) (g1.trans (g2.trans k)) aB (k _ _ f3) h60' hlot cp
 ·intro r ga pb l3 gs ps H2 fl1 fl2 fl3 g2 f0 fg fp f3 pl G B cp;refine(iP _ _ (SqT.of f0) rfl _ (.inl (xWP _ (SqL.of f3) rfl)) (iF ?_));refine(xWP _ (.inl (xWP _ (SqL.of (g2 _ _ e2)) rfl)) (iF ?_));refine(bP _ _ (SqT.of f0) rfl _ _ (SqT.of f0) rfl (by show 3<=ZW;decide) (λr2 hr2=>?_));have k:=aC hr2 (.tup [.str "best",.ref ga,.ref pb]);exact qbest r2 ga pb gs ps _ (xPP (g1.free fl1) (g1.free fl2) fl3) (g1.trans (g2.trans k)) aB (k _ _ fg) (k _ _ fp) pl G B cp
end K27
namespace L2
open PySem PyProof.Rows
def TsI(H:Hp)(a:Addr)(ts:AW.Ts):Prop:=∃tr:List Addr,H a=some (.lst (!32))/\tr.length=ts.length/\∀(i:Nat) t,ts[i]?=some t->∃r,tr[i]?=some r/\H r=some (.tup [.int t.1,.int t.2])
def OsI(H:Hp)(a:Addr)(os:AW.Os):Prop:=∃tr:List Addr,H a=some (.lst (!32))/\tr.length=os.length/\∀(i:Nat) l,os[i]?=some l->∃r,tr[i]?=some r/\H r=some (.lst (l.map V.int))
def yZ(H:Hp)(w:Addr)(m:Int)(ts:AW.Ts)(os:AW.Os):Prop:=∃tA oA:Addr,H w=some (.tup [.int m,.ref tA,.ref oA])/\TsI H tA ts/\OsI H oA os
theorem TsI.same{H H':Hp}{a:Addr}{ts:AW.Ts}(h:TsI H a ts)(g:aK H H'):TsI H' a ts:=by
 sleep 7;exact(aM tr (g _ _ h1) h2 (λi t e=>let⟨r,q1,q2⟩:=h3 i t e;(xWP r q1 (g _ _ q2))))
theorem OsI.same{H H':Hp}{a:Addr}{os:AW.Os}(h:OsI H a os)(g:aK H H'):OsI H' a os:=by
 sleep 7;exact(aM tr (g _ _ h1) h2 (λi t e=>let⟨r,q1,q2⟩:=h3 i t e;(xWP r q1 (g _ _ q2))))
theorem yZ.same{H H':Hp}{w:Addr}{m:Int}{ts:AW.Ts}{os:AW.Os}(h:yZ H w m ts os)(g:aK H H'):yZ H' w m ts os:=by
 obtain⟨tA,oA,h1,h2,h3⟩:=h;exact(aG tA oA (g _ _ h1) (h2.same g) (h3.same g))
theorem TsI.nth{H:Hp}{a:Addr}{ts:AW.Ts}{tr:List Addr}(h1:tr.length=ts.length)(h2:∀(i:Nat) t,ts[i]?=some t->∃r,tr[i]?=some r/\H r=some (.tup [.int t.1,.int t.2])){i:Nat}{x:V}(hx:(!32)[i]?=some x) :
  ∃t r,ts[i]?=some t/\x=.ref r/\H r=some (.tup [.int t.1,.int t.2]):=by
 rw[Zk]at hx;cases e:ts[i]? with
 |none =>
  have:tr[i]?=none:=Zr (by rw[h1];exact List.getElem?_eq_none_iff.mp e);rw[this]at hx;cases hx
 |some t =>
  obtain⟨r,q1,q2⟩:=h2 i t e;rw[q1]at hx;cases hx;exact(aG t r rfl rfl q2)
theorem OsI.nth{H:Hp}{os:AW.Os}{tr:List Addr}(h1:tr.length=os.length)(h2:∀(i:Nat) l,os[i]?=some l->∃r,tr[i]?=some r/\H r=some (.lst (l.map V.int))){i:Nat}{x:V}(hx:(!32)[i]?=some x) :
  ∃l r,os[i]?=some l/\x=.ref r/\H r=some (.lst (l.map V.int)):=by
 rw[Zk]at hx;cases e:os[i]? with
 |none =>
  have:tr[i]?=none:=Zr (by rw[h1];exact List.getElem?_eq_none_iff.mp e);rw[this]at hx;cases hx
 |some t =>
  obtain⟨r,q1,q2⟩:=h2 i t e;rw[q1]at hx;cases hx;exact(aG t r rfl rfl q2)
structure gY(H H':Hp)(r:Addr)(rr:List Addr)(ls:List (List V)):Prop where
 at_:H' r=some (.lst (rr.map V.ref))
 len:rr.length=ls.length
 row:∀(i:Nat) l,ls[i]?=some l->∃x,rr[i]?=some x/\H' x=some (.lst l)
 nd:rr.Nodup
 nin:r∉rr
 new:H r=none
 news:∀x∈rr,H x=none
theorem gY.keep{H H' H2:Hp}{r:Addr}{rr:List Addr}{ls:List (List V)}(n:gY H H' r rr ls)(g:aK H' H2):gY H H2 r rr ls :=
 ⟨g _ _ n.at_,n.len,λi l h=>let⟨x,h1,h2⟩:=n.row i l h;(xWP x h1 (g _ _ h2)),n.nd,n.nin,n.new,n.news⟩
theorem aK.fresh{H H':Hp}(g:aK H H'){x:Addr}(hx:H x=none)(o:HO):aK H (upd H' x o):=λb u h=>by rw[aH (aE h hx)];exact g _ _ h
theorem gY.set{H0 H:Hp}{o x:Addr}{rr:List Addr}{ls:List (List V)}(n:gY H0 H o rr ls){p:Nat}{l:List V}(hx:rr[p]?=some x):gY H0 (upd H x (.lst l)) o rr (ls.set p l) where
 at_:=by rw[aH (show o≠x from λz=>n.nin (z▸Zg hx))];exact n.at_
 len:=by rw[ZR];exact n.len
 row:=λi m h=>by
  by_cases e:p=i
  ·subst e;have hp:p<ls.length:=n.len▸(Zj.mp hx).1;rw[ZL hp]at h;cases h;exact(xWP x hx aB)
  ·rw[ZK e]at h;obtain⟨y,h1,h2⟩:=n.row i m h;refine(xWP y h1 ?_);have ne:y≠x:=by
    rintro rfl;obtain⟨a1,b1⟩:=Zj.mp h1;obtain⟨a2,b2⟩:=Zj.mp hx;exact e ((List.getElem_inj n.nd).mp (b2.trans b1.symm))
   rw[aH ne];exact h2
 nd:=n.nd
 nin:=n.nin
 new:=n.new
 news:=n.news
theorem gY.os{H H':Hp}{r:Addr}{rr:List Addr}{os:AW.Os}(n:gY H H' r rr (os.map λl=>l.map V.int)):OsI H' r os :=
 (aM rr n.at_ (by rw[n.len,Zq]) (λi l h=>n.row i _ (by rw[Zk,h];rfl)))
theorem uV{J:It}{js:List (Option Nat)}{σ:St}{H1:Hp}{R:Hp->Prop}{D:Addr}{g:TG}{te:TE}(n:Nat)(fs:Nat->List V)(hD:H1 D=none)(hn:n<=100000)
  (go:∀i H',i<n->aK H1 H'->J.go i H') (stop:∀H',aK H1 H'->J.stop n H')
  (hs:∀i H' x H'' (k:V->Hp->Prop),i<n->aK H1 H'->J.yld i H' x H''->(∀a H4,H' a=none->aK H' H4->H4 a=some (.lst (fs i))->k (.ref a) H4)->g x (!47) H'' λσ2 H2=>Fills (!47) σ2/\te σ2 H2 k)
  (hd:∀(rr:List Addr) H',gY H1 H' D rr ((ZS n).map fs)->aK H1 H'->R H') :
  ∃W:Nat->Nat->List V->Hp->Prop,(∃m,W 0 m [] (upd H1 D (!49))) /\
   ∀i m ys H,W i m ys H->(J.stop i H/\R H)\/(J.go i H/\∃N:List V->Hp->Prop,(!35)/\∀x H',J.yld i H x H'->g x (!47) H' λσ2 H2=>Fills (!47) σ2/\tZ σ2 H2 λb H3 =>
    If b (!10) (N ys H3)):=by
 refine comp_map n (λi ys H'=>∃rr:List Addr,ys=rr.map V.ref/\gY H1 H' D rr ((ZS i).map fs)/\aK H1 H') (aM ([]) rfl ⟨aB,rfl,λi l h=>by simp at h,List.nodup_nil,by simp,hD,by simp⟩ (aC hD _)) ?_ ?_
 ·rintro i ys H' hi ⟨rr,rfl,w,g1⟩;have hl:rr.length=i:=by rw[w.len];simp
  refine⟨go i H' hi g1,λx H'' hy=>hs i H' x H'' _ hi g1 hy λa H4 ha g4 e4=>(zH (g4 _ _ w.at_) ?_ (rr++[a]) ?_ ?_ ?_)⟩
  ·rw[Zq,hl];exact Xz hi (YQ hn (!1))
  ·rw[Zt];rfl
  ·have aD:a≠D:=λz=>by rw[z,w.at_]at ha;cases ha
   have ain:a∉rr:=λz=>by
    obtain⟨j,hj,e⟩:=Yy.mp z;have hj':j<((ZS i).map fs).length:=w.len▸hj;obtain⟨y,h1,h2⟩:=w.row j _ (Zz hj');rw[Zz hj,e]at h1;cases h1;rw[ha]at h2;cases h2
   refine⟨by rw[Zt];exact aB,by simp[hl],λj l h=>?_,?_,?_,hD,?_⟩
   ·by_cases hj:j<i
    ·have e:((ZS (i+1)).map fs)[j]?=((ZS i).map fs)[j]?:=by simp[hj,Xj hj]
     rw[e]at h;obtain⟨y,h1,h2⟩:=w.row j l h;have yD:y≠D:=λz=>w.nin (z▸Zg h1);exact(xWP y (by rw[Zx (by lia)];exact h1) (by rw[aH yD];exact g4 _ _ h2))
    ·have hj2:j=i:=by
      have:=(Zj.mp h).1;simp at this;lia
     subst hj2;have e:l=fs j:=by simpa using h.symm
     subst e;exact(xWP a (by rw[<-hl,Yx]) (by rw[aH aD];exact e4))
   ·rw[List.nodup_append];refine(xPP w.nd (!5) (λb hb c hc z=>?_));have e:c=a:=by simpa using hc
    subst e;subst z;exact ain hb
   ·intro z;rcases Zf.mp z with z | z
    ·exact w.nin z
    ·exact aD (Zb.mp z).symm
   ·intro y hy;rcases Zf.mp hy with z | z
    ·exact w.news y z
    ·rw[Zb.mp z];exact g1.free ha
  ·exact(g1.trans g4).fresh hD _
 ·rintro ys H' ⟨rr,rfl,w,g1⟩;exact⟨stop H' g1,hd rr H' w g1⟩
theorem gY.item{H0 H:Hp}{o:Addr}{rr:List Addr}{n:Nat}{f:Nat->List V}(w:gY H0 H o rr ((ZS n).map f)){p:Nat}(hp:p<n) :
  ∃x,rr[p]?=some x/\H x=some (.lst (f p))/\H0 x=none/\atI (rr.map V.ref) (p:Int)=some (.ref x):=by
 obtain⟨x,h1,h2⟩:=w.row p (f p) (by simp[hp]);exact(cC x h1 h2 (w.news x (Zg h1)) (dA (by rw[Zk,h1];rfl)))
theorem set_range{n p:Nat}{f:Nat->List V}{v:List V}:((ZS n).map f).set p v=(ZS n).map λi=>if i=p then v else f i:=by
 refine Yt λi=>?_;rw[List.getElem?_set];by_cases e:p=i
 ·subst e;by_cases h:p<n<;>simp[h]
 ·rw[Ya e];by_cases h:i<n
  ·simp[h,Yh e]
  ·simp[h]
theorem gY.put{H0 H:Hp}{o x:Addr}{rr:List Addr}{n p:Nat}{f:Nat->List V}(w:gY H0 H o rr ((ZS n).map f))(hx:rr[p]?=some x)(l:List V) :
  gY H0 (upd H x (.lst l)) o rr ((ZS n).map λi=>if i=p then l else f i):=by
 rw[<-set_range];exact w.set hx
theorem gY.other{H0 H:Hp}{o x:Addr}{rr:List Addr}{ls:List (List V)}(n:gY H0 H o rr ls)(h1:x≠o)(h2:x∉rr)(u:HO):gY H0 (upd H x u) o rr ls :=
 ⟨by rw[aH (Yh h1)];exact n.at_,n.len,λi l h=>by
  obtain⟨y,a,b⟩:=n.row i l h;have ne:y≠x:=λz=>h2 (by rw[<-z];exact Zg a);exact(xWP y a (by rw[aH ne];exact b)),n.nd,n.nin,n.new,n.news⟩
theorem gY.notIn{H0 H:Hp}{o x:Addr}{rr:List Addr}{ls:List (List V)}(n:gY H0 H o rr ls)(hx:H x=none):x∉rr:=λz=>by
 obtain⟨i,hi,e⟩:=Yy.mp z;obtain⟨y,a,b⟩:=n.row i _ (Zz (n.len▸hi));rw[Zz hi,e]at a;cases a;rw[hx]at b;cases b
theorem SN{tt r:TS}{D:Ends}{σ:St}{H:Hp}(I:St->Hp->Prop)(ht:∀N:St->Hp->Prop,(∀σ' H',I σ' H'->N σ' H')->tt { D with nx:=N } σ H)(hr:∀σ' H',I σ' H'->r D σ' H'):DR tt r D σ H:=ht _ hr
end L2
namespace AW
def IY(m:Int)(ts:Ts):Bool:=ts.all λt=>(decide (0<=t.1)&&decide (t.1<m))&&(decide (0<=t.2)&&decide (t.2<m))
theorem IX{m:Int}{ts:Ts}:IY m ts=true↔InW m ts:=by
 unfold IY InW;rw[ZE];simp only[Xg,decide_eq_true_eq]
end AW
namespace K27
open PySem L2 PyProof.Rows
theorem ch0{σ:L2.St}{H:Hp}{Q:VK}{i j:Nat}{x m:Int}(h1:σ[i]?=some (some (.int x)))(h2:σ[j]?=some (some (.int m)))(q:Q (.bl (decide (0<=x)&&decide (x<m))) H) :
  rJ (rI0 λi j=>V.bl (decide (i<=j))) (rI0 λi j=>V.bl (decide (i<j))) (tC (V.int 0)) (KI i) (KI j) σ H Q:=by
 show St.at σ i _;refine tH h1 (i2 (λc=>?_) λc=>?_)
 ·rw[c,Bool.true_and]at q;exact tH h2 q
 ·rw[Bool.eq_false_iff.mpr c,Bool.false_and]at q;exact q
def Q1:Sp:=λvs H Q _=>∃(m:Int) (a:Addr) (ts:AW.Ts),vs=[.int m,.ref a]/\TsI H a ts/\ts.length<=1000/\∀H',aK H H'->Q (.bl (AW.IY m ts)) H'
theorem PD(T:Txt K mg t):Ok P w base T 12 1 Q1:=by
 left
 obtain⟨m,a,ts,rfl,⟨tr,e1,e2,e3⟩,hl,q⟩:=h;refine(xWP _ (by exists bC (oX rfl) rfl (T.z 0) boot_all ?_,(fI ["a","b","many"] [none,none,some 0]),bE ?_,1,0,1,AE ?_ ?_,xP lU lT b0 (pv 0) (pv 2),vQ ?_,xP lU lT b0 (pv 1) (pv 2)) ?_);refine⟨⟨_,SqL.of e1⟩,λD hD=>?_⟩
 let fs:Nat->Bool:=λk=>(ts[k]?).any λt=>(decide (0<=t.1)&&decide (t.1<m))&&(decide (0<=t.2)&&decide (t.2<m))
 refine bJ ts.length (λk=>.bl (fs k)) hD (by lia) (λi H' hi g2=>?_) (λH' g2=>(xWP _ (SqL.of (g2 _ _ e1)) (!26))) ?_ ?_
 ·obtain⟨r,q1,_⟩:=e3 i ts[i] (Zz hi);exact(bM _ (.ref r) (SqL.of (g2 _ _ e1)) (by rw[Zk,q1];rfl))
 ·rintro i H' x H'' k hi g2 ⟨rfl,hx⟩ hk;obtain⟨t,r,et,rfl,er⟩:=TsI.nth (a:=a) e2 e3 (hx _ (SqL.of (g2 _ _ e1)));have hf:fs i=((decide (0<=t.1)&&decide (t.1<m))&&(decide (0<=t.2)&&decide (t.2<m))):=by show(ts[i]?).any _=_;rw[et];rfl
  have hk0:=hk H'' (aK.refl _);rw[hf]at hk0;refine(aM _ (SqT.of (g2 _ _ er)) rfl ?_);refine⟨(!13).set _ rfl,?_⟩;refine ch0 (x:=t.1) (m:=m) rfl rfl (i2 (λc=>?_) λc=>?_)
  ·rw[c,Bool.true_and]at hk0;exact ch0 (x:=t.2) (m:=m) rfl rfl hk0
  ·rw[Bool.eq_false_iff.mpr c,Bool.false_and]at hk0;exact hk0
 ·intro H' g2 hD';rw[show(ZS ts.length).map (λk=>V.bl (fs k))=((ZS ts.length).map fs).map V.bl by rw[Ym];rfl]at hD';refine(aG D _ rfl (SqL.of hD') ?_);have e:((ZS ts.length).map fs).all id=AW.IY m ts:=by
   unfold AW.IY;rw[Xh,ZE,ZE];constructor
   ·intro h x hx;obtain⟨i,hi,rfl⟩:=Yy.mp hx;have:=h (fs i) (Zh.mpr (xWP i (Zs.mpr hi) rfl));have e:fs i=_:=(show(ts[i]?).any _=_ from by rw[Zz hi])
    rw[e]at this;sleep 19
   ·intro h b hb;obtain⟨i,hi,rfl⟩:=Zh.mp hb;have hi:=Zs.mp hi;have e:fs i=_:=(show(ts[i]?).any _=_ from by rw[Zz hi])
    rw[e];exact h _ (Zp hi)
  rw[e];exact q H' g2
def Q4:Sp:=λvs H Q _=>∃(m:Nat) (a:Addr) (ts:AW.Ts),vs=[vn m,.ref a]/\TsI H a ts/\AW.InW m ts/\m<=1000/\ts.length<=1000 /\
 ∀(r:Addr) (H':Hp),aK H H'->OsI H' r ((ZS m).map λp:Nat=>AW.endsAt ts p)->Q (.ref r) H'
theorem PL(T:Txt K mg t):Ok P w base T 14 1 Q4:=by
 left
 obtain⟨m,a,ts,rfl,⟨tr,e1,e2,e3⟩,hw,hm,hl,q⟩:=h;refine(xWP _ (by exists (fH 2 ["place"] [none]),0,0,cV rfl (T.z 3) ?_,1,3,4,aJ,2,aI,4,3,aJ,2,aI,4,aX,3,2) ?_);refine(cC (m:Int) rfl (by lia) (by lia) (λD hD=>?_));refine uV m (λ_=>[]) hD (by lia) (λi H' hi g2=>?_) (λH' g2=>?_) ?_ ?_
 ·show i<((m:Int)-0).toNat;lia
 ·show((m:Int)-0).toNat<=m;lia
 ·rintro i H' x H'' k hi g2 hy hk;obtain⟨e,y⟩:=hy;subst e;exact(xPP (!13) (!23) (λl hl'=>hk l _ hl' (aC hl' _) aB))
 ·intro rr H1 w1 g1
  let F:Nat->Nat->List V:=λk p=>(AW.endsAt (ts.take k) p).map V.int
  refine(aM a rfl ⟨_,SqL.of (g1 _ _ e1)⟩ (dJ (a:=a) (xs:=tr.map V.ref) (λk σ H'=>(∃v3 v4,σ=[some (vn m),some (.ref a),some (.ref D),v3,v4])/\gY H H' D rr ((ZS m).map (F k))/\aK H H') (xPP (!44) ?_ g1) ?_ ?_ ?_))
  ·have e:F 0=λ_=>[]:=by funext p;show(AW.endsAt (ts.take 0) p).map V.int=[];rw[List.take_zero];rfl
   rw[e];exact w1
  ·rintro i σ H' hi ⟨_,_,g2⟩;exact SqL.of (g2 _ _ e1)
  ·rintro i x σ H' Tp hx ⟨⟨v3,v4,rfl⟩,w2,g2⟩ hTp;obtain⟨⟨u,v⟩,r,et,rfl,er⟩:=TsI.nth (a:=a) e2 e3 hx;obtain⟨⟨u0,u1⟩,v0,v1⟩:=hw _ (Zg et);obtain⟨p1,rfl⟩:=Xy u0;obtain⟨p2,rfl⟩:=Xy v0;have u1:p1<m:=Int.ofNat_lt.mp u1;have v1:p2<m:=Int.ofNat_lt.mp v1;have hi:i<ts.length:=(Zj.mp et).1;have g3:=g2.trans (aC hTp (.tup [vn i,.ref r]));have w3:=w2.keep (aC hTp (.tup [vn i,.ref r]));have small:∀(k p:Nat),(F k p).length<ZW:=λk p=>by
    show((AW.endsAt (ts.take k) p).map V.int).length<ZW;have h1:(AW.endsAt (ts.take k) p).length<=(AW.all2 (ts.take k)).length:=List.length_filter_le ..;have h2:(AW.all2 (ts.take k)).length<=2000:=by unfold AW.all2;rw[Zq,Yj,Yw];lia
    rw[Zq];exact Xq (YQ h1 h2) (!1)
   refine(!31);obtain⟨x1,a1,b1,c1,d1⟩:=w3.item u1;refine(aG _ _ (SqT.of (g3 _ _ er)) rfl (bO _ _ (SqL.of w3.at_) d1 (.inl ⟨rfl,_,SqL.of b1⟩) (!7) (aM _ b1 (small i p1) ?_)));have w4:=w3.put a1 (F i p1++[V.int (2*(i:Int))]);have g4:=g3.fresh c1 (.lst (F i p1++[V.int (2*(i:Int))]));obtain⟨x2,a2,b2,c2,d2⟩:=w4.item v1;refine(aG _ _ (SqT.of (g4 _ _ er)) rfl (bO _ _ (SqL.of w4.at_) d2 (.inl ⟨rfl,_,SqL.of b2⟩) (!7) (gO _ b2 ?_ (!44) ?_ (g4.fresh c2 _))))
   ·show(if p2=p1 then F i p1++[V.int (2*(i:Int))] else F i p2).length<ZW;have h1:=small i p1;have h2:=small i p2;split
    ·rw[Zm];have h3:(AW.endsAt (ts.take i) p1).length<=(AW.all2 (ts.take i)).length:=List.length_filter_le ..;have h4:(AW.all2 (ts.take i)).length<=2000:=by unfold AW.all2;rw[Zq,Yj,Yw];lia
     have h5:(F i p1).length=(AW.endsAt (ts.take i) p1).length:=Zq ..;exact Xq (show _<=2001 by rw[h5];simp;lia) (!1)
    ·exact h2
   ·have w5:=w4.put a2 ((if p2=p1 then F i p1++[V.int (2*(i:Int))] else F i p2)++[V.int (2*(i:Int)+1)]);have e:(λj=>if j=p2 then (if p2=p1 then F i p1++[V.int (2*(i:Int))] else F i p2)++[V.int (2*(i:Int)+1)] else if j=p1 then F i p1++[V.int (2*(i:Int))] else F i j)=F (i+1):=by
     funext j
     have ht:ts.take (i+1)=ts.take i++[((p1:Int),(p2:Int))]:=by rw[List.take_add_one,et];rfl
     have hlt:(ts.take i).length=i:=by rw[Yw];lia
     show _=(AW.endsAt (ts.take (i+1)) j).map V.int;rw[ht,AW.yM,hlt,Zt,Zt];have c1:((p1:Int)=(j:Int))↔(j=p1):=by lia
     have c2:((p2:Int)=(j:Int))↔(j=p2):=by lia
     simp only[c1,c2];by_cases k2:j=p2
     ·subst k2;by_cases k1:j=p1
      ·subst k1;simp[F]
      ·simp[F,k1]
     ·by_cases k1:j=p1
      ·subst k1;simp[F,k2]
      ·simp[F,k1,k2]
    rw[e]at w5;exact w5
  ·rintro σ H' ⟨⟨v3,v4,rfl⟩,w2,g2⟩;refine(q D H' g2 ?_);have e:F (!32).length=λp:Nat=>(AW.endsAt ts p).map V.int:=by funext p;show(AW.endsAt (ts.take _) p).map V.int=_;rw[Zq,e2,Yv]
   rw[e]at w2;refine gY.os (rr:=rr) (H:=H) ?_;rw[Ym];exact w2
def N9:Sp:=λvs H Q _=>∃(wa:Addr) (m:Nat) (ts:AW.Ts) (os:AW.Os),vs=[.ref wa]/\yZ H wa m ts os/\AW.InW m ts/\m<=1000/\ts.length<=1000 /\
 ∀(b:Bool) (H':Hp),aK H H'->(b=true↔os.length=m/\AW.Fit ts os)->Q (.bl b) H'
theorem LX(T:Txt K mg t):Ok P w base T 13 2 N9:=by
 left
 obtain⟨wa,m,ts,os,rfl,⟨tA,oA,hw,hT,or,o1,o2,o3⟩,hin,hm,hl,q⟩:=h;refine(xWP _ (by exists 1,aI,0,fX,1,aI,0,mH rfl (T.z 14) ?_,1,PL,aI,0,aI,0,2,3,2,nB (T.g 3),(AG hr.units),bC wO rfl (T.z 11) boot_sorted ?_,2,3) ?_);refine(aG _ _ (SqT.of hw) rfl ?_);refine(aW oA _ rfl (.inl (SqL.of o1)) _ _ (SqT.of hw) rfl (i2 (λc=>?_) (λc=>?_)))
 ·refine q false H (aK.refl _) ⟨λz=>Bool.noConfusion z,λz=>?_⟩;rw[Zq,o2,z.1]at c;simp at c
 have hlen:os.length=m:=by
  rw[Zq,o2]at c;apply ZT;intro z;apply c;simp only[Bool.not_eq_true',decide_eq_false_iff_not];intro z2;exact z (Int.ofNat.inj (V.int.inj z2))
 refine(aW _ _ (SqT.of hw) rfl _ _ (SqT.of hw) rfl (hJ m tA ts rfl hT hin hm hl (λr H1 g1 hE=>?_)));obtain⟨er,r1,r2,r3⟩:=hE;refine(gI oA r _ _ rfl (g1 _ _ o1) r1 (qL (xs:=or.map V.ref) (ys:=er.map V.ref) (λk σ H'=>(∃v2 v3,σ=[some (.ref wa),some (.ref oA),v2,v3])/\aK H1 H'/\∀(i:Nat) o,i<k->os[i]?=some o->o.length<=4/\o.Perm (AW.endsAt ts i)) ?_ (xPP (!44) (aK.refl _) (λi o hi=>by lia)) ?_ ?_ ?_))
 ·rw[Zq,Zq,o2,r2,Zq,Yj,hlen]
 ·rintro i σ H' hi ⟨_,g2,_⟩;exact⟨g2 _ _ (g1 _ _ o1),g2 _ _ r1⟩
 ·rintro i x y σ H' Tp hx hy ⟨⟨v2,v3,rfl⟩,g2,ih⟩ hTp;obtain⟨o,ra,eo,rfl,era⟩:=OsI.nth o2 o3 hx;obtain⟨l,rb,el,rfl,erb⟩:=OsI.nth r2 r3 hy;have hi:i<m:=by rw[<-hlen];exact(Zj.mp eo).1
  have el2:l=AW.endsAt ts i:=by
   have:((ZS m).map λp:Nat=>AW.endsAt ts p)[i]?=some (AW.endsAt ts i):=by simp[hi]
   rw[this]at el;exact(Option.some.inj el).symm
  subst el2;have g3:=g2.trans (aC hTp (.tup [.ref ra,.ref rb]));refine(!31);refine(aG ra _ rfl (.inl (SqL.of (g3 _ _ (g1 _ _ era)))) (i2 (λc=>iT ?_) (λc=>?_)))
  ·have c:(4:Int)<((o.map V.int).length:Nat):=Yf c;rw[Zq]at c;refine q false _ (g1.trans g3) ⟨λz=>Bool.noConfusion z,λz=>?_⟩;have:=(z.2 i o eo).1
   lia
  have c4:o.length<=4:=by
   rw[Zq]at c;simp only[decide_eq_true_eq]at c
   lia
  refine(aO ra o rfl (SqL.of (g3 _ _ (g1 _ _ era))) (by lia) (λls ns' hls p1 p2=>?_));have g4:=g3.trans (aC hls (.lst (ns'.map V.int)));refine(bO _ _ (iY aB) (iY (g4 _ _ erb)) (shaped_ints _) (shaped_ints _) ?_);rw[uS];by_cases e:ns'=AW.endsAt ts i
  ·rw[Ye e];refine iF (xPP (!44) g4 (λj o' hj ho'=>?_));by_cases hj2:j<i
   ·exact ih j o' hj2 ho'
   ·have:j=i:=by lia
    subst this;rw[eo]at ho';cases ho';exact⟨c4,e▸p1.symm⟩
  ·rw[Yc e];refine iT (q false _ (g1.trans g4) ⟨λz=>Bool.noConfusion z,λz=>?_⟩);exact Yg (AW.DZ (p1.trans (z.2 i o eo).2) p2 (AW.DO ts i)) e
 ·rintro σ H' ⟨⟨v2,v3,rfl⟩,g2,ih⟩;refine q true H' (g1.trans g2) ⟨λ_=>⟨hlen,λi o hio=>ih i o ?_ hio⟩,λ_=>rfl⟩;rw[Zq,o2];exact(Zj.mp hio).1
def OC:Sp:=λvs H Q _=>∃(m:Nat) (a:Addr) (ts:AW.Ts),vs=[vn m,.ref a]/\TsI H a ts/\AW.InW m ts/\0<m/\m<=1000/\ts.length<=1000 /\
 ∀(b:Bool) (H':Hp),aK H H'->(b=true↔AW.DA m ts)->Q (.bl b) H'
def J6(H:Hp)(m:Nat)(ts:AW.Ts)(D rA wA:Addr)(rr:List Addr)(R:List Bool)(W:List Int)(H':Hp):Prop :=
 gY H H' D rr ((ZS m).map λp:Nat=>(AW.nbs ts p).map V.int)/\H' rA=some (.lst (R.map V.bl))/\H' wA=some (.lst (W.map V.int))/\aK H H'
theorem MF(ts:AW.Ts)(p:Int):(AW.nbs ts p).length<=2*ts.length:=by
 induction ts with
 |nil=>exact ZC _
 |cons t ts ih =>
  unfold AW.nbs AW.nb at ih ⊢;rw[List.flatMap_cons,Zm,Yq,Zm];have h1:(if t.1=p then [t.2] else []).length<=1:=by split<;>simp
  have h2:(if t.2=p then [t.1] else []).length<=1:=by split<;>simp
  lia
theorem L6(T:Txt K mg t):Ok P w base T 15 1 OC:=by
 refine T.okN 15 (scm:dU ["many","ties","near","a","b","reached","waiting","place","neighbour"] _ _) (λvs H Q E h=>?_) ?_
 ·obtain⟨m,a,ts,rfl,_⟩:=h;rfl
 sleep 14;obtain⟨m,a,ts,rfl,⟨tr,e1,e2,e3⟩,hw,hm0,hm,hl,q⟩:=h;refine(xWP _ (by exists (fH 2 ["place"] [none]),0,0,bE ?_,1,3,4,aJ,2,3,4,aJ,2,4,3,(fH 5 ["place"] [none]),0,0,dF,0,6,bT (pv 6) (λ_=>rfl),7,HH YO PySem.F.slot_list_pop PySem.F.type_list_pop IJ (pv 6),bE ?_,aJ,2,7,8,bT ?_ (λ_=>rfl),aJ,5,8,dD ?_ ?_,eI ?_ ?_ set_list,5,8,6,8,bC (oX rfl) rfl (T.z 0) boot_all ?_,5) ?_);refine(cC (m:Int) rfl (by lia) (by lia) (λD hD=>?_));refine uV m (λ_=>[]) hD (by lia) (λi H' hi g2=>?_) (λH' g2=>?_) ?_ ?_
 ·show i<((m:Int)-0).toNat;lia
 ·show((m:Int)-0).toNat<=m;lia
 ·rintro i H' x H'' k hi g2 ⟨e,y⟩ hk;subst e;exact(xPP (!13) (!23) (λl hl'=>hk l _ hl' (aC hl' _) aB))
 intro rr H1 w1 g1
 let F:Nat->Nat->List V:=λk p=>(AW.nbs (ts.take k) p).map V.int
 have small:∀(k p:Nat),(F k p).length<=2000:=λk p=>by
  show((AW.nbs (ts.take k) p).map V.int).length<=2000;have h1:=MF (ts.take k) p;rw[Yw]at h1;rw[Zq];lia
 refine⟨⟨_,SqL.of (g1 _ _ e1)⟩,eY (a:=a) (xs:=tr.map V.ref) (λk σ H'=>(∃v3 v4,σ=[some (vn m),some (.ref a),some (.ref D),v3,v4,none,none,none,none])/\gY H H' D rr ((ZS m).map (F k))/\aK H H') (xPP (!44) ?_ g1) ?_ ?_ ?_⟩
 ·have e:F 0=λ_=>[]:=by funext p;show(AW.nbs (ts.take 0) p).map V.int=[];rw[List.take_zero];rfl
  rw[e];exact w1
 ·rintro i σ H' hi ⟨_,_,g2⟩;exact SqL.of (g2 _ _ e1)
 ·rintro i x σ H' hx ⟨⟨v3,v4,rfl⟩,w2,g2⟩;obtain⟨⟨u,v⟩,r,et,rfl,er⟩:=TsI.nth (a:=a) e2 e3 hx;obtain⟨⟨u0,u1⟩,v0,v1⟩:=hw _ (Zg et);obtain⟨p1,rfl⟩:=Xy u0;obtain⟨p2,rfl⟩:=Xy v0;have u1:p1<m:=Int.ofNat_lt.mp u1;have v1:p2<m:=Int.ofNat_lt.mp v1;refine(aM _ (SqT.of (g2 _ _ er)) rfl ?_);obtain⟨x1,a1,b1,c1,d1⟩:=w2.item u1;refine(aO _ _ (SqL.of w2.at_) d1 (.inl ⟨rfl,_,SqL.of b1⟩) (aM _ b1 (Xq (small i p1) (!1)) ?_));have w4:=w2.put a1 (F i p1++[V.int (p2:Int)]);have g4:=g2.fresh c1 (.lst (F i p1++[V.int (p2:Int)]));obtain⟨x2,a2,b2,c2,d2⟩:=w4.item v1;refine(aO _ _ (SqL.of w4.at_) d2 (.inl ⟨rfl,_,SqL.of b2⟩) (gO _ b2 ?_ (!44) ?_ (g4.fresh c2 _)))
  ·show(if p2=p1 then F i p1++[V.int (p2:Int)] else F i p2).length<ZW;have h1:=small i p1;have h2:=small i p2;refine Xq (show _<=2001 from ?_) (!1);split
   ·rw[Zm];simp;lia
   ·lia
  ·have w5:=w4.put a2 ((if p2=p1 then F i p1++[V.int (p2:Int)] else F i p2)++[V.int (p1:Int)]);have e:(λj=>if j=p2 then (if p2=p1 then F i p1++[V.int (p2:Int)] else F i p2)++[V.int (p1:Int)] else if j=p1 then F i p1++[V.int (p2:Int)] else F i j)=F (i+1):=by
    funext j
    have ht:ts.take (i+1)=ts.take i++[((p1:Int),(p2:Int))]:=by rw[List.take_add_one,et];rfl
    show _=(AW.nbs (ts.take (i+1)) j).map V.int;rw[ht,AW.IH,Zt];unfold AW.nb;have c1:((p1:Int)=(j:Int))↔(j=p1):=by lia
    have c2:((p2:Int)=(j:Int))↔(j=p2):=by lia
    simp only[c1,c2];by_cases k2:j=p2
    ·subst k2;by_cases k1:j=p1
     ·subst k1;simp[F]
     ·simp[F,k1]
    ·by_cases k1:j=p1
     ·subst k1;simp[F,k2]
     ·simp[F,k1,k2]
   rw[e]at w5;exact w5
 rintro σ H2 ⟨⟨v3,v4,rfl⟩,w2,g2⟩;have eF:F (!32).length=λp:Nat=>(AW.nbs ts p).map V.int:=by funext p;show(AW.nbs (ts.take _) p).map V.int=_;rw[Zq,e2,Yv]
 rw[eF]at w2;refine(cC (m:Int) rfl (by lia) (by lia) (λrA hrA=>?_));refine bJ m (λp=>.bl (decide ((V.int (0+(p:Int)))=V.int 0))) hrA (by lia) (λi H' hi g3=>?_) (λH' g3=>?_) ?_ ?_
 ·show i<((m:Int)-0).toNat;lia
 ·show((m:Int)-0).toNat<=m;lia
 ·rintro i H' x H'' k hi g3 ⟨e,y⟩ hk;subst e;subst y;exact(!33)
 intro H3 g3 eR;have eR0:(ZS m).map (λp:Nat=>V.bl (decide ((V.int (0+(p:Int)))=V.int 0)))=((ZS m).map λp=>decide (p=0)).map V.bl:=by
  rw[Ym];refine Ys λp _=>?_;show V.bl (decide _)=V.bl (decide (p=0));have hp:(V.int (0+(p:Int))=V.int 0)↔p=0:=⟨λz=>by have:=V.int.inj z;lia,λz=>by rw[z];rfl⟩
  simp only[hp]
 rw[eR0]at eR;refine⟨(by show 1<=ZW;decide),λwA hwA=>?_⟩;have w3:=w2.keep g3;have g23:=g2.trans g3;have rD:rA≠D:=λz=>by rw[z,w2.at_]at hrA;cases hrA
 have rin:rA∉rr:=w2.notIn hrA;have wD:wA≠D:=λz=>by rw[z,w3.at_]at hwA;cases hwA
 have win:wA∉rr:=w3.notIn hwA;have wr:wA≠rA:=λz=>by rw[z,eR]at hwA;cases hwA
 have r0:H rA=none:=g2.free hrA;have w0:H wA=none:=g23.free hwA;refine⟨λM σ H'=>∃R W v3 v4 v7 v8,(M=2*AW.iK R+W.length/\M<=2001)/\σ=[some (vn m),some (.ref a),some (.ref D),v3,v4,some (.ref rA),some (.ref wA),v7,v8]/\J6 H m ts D rA wA rr R W H'/\AW.fW m ts R W,
  (bW _ _ _ _ _ _ _ ⟨rfl,?bnd⟩ rfl ⟨ (bN (w3.other wD win _) (by rw[aH (Yh wr)];exact eR) (by exact aB) (g23.fresh w0 _)),AW.fW.start hm0⟩),?_⟩
 case bnd =>
  have h1:AW.iK ((ZS m).map λp=>decide (p=0))<=m:=by
   unfold AW.iK;exact YQ (List.length_filter_le ..) (!5)
  show _+1<=2001
  lia
 rintro M σ H' ⟨R,W,v3,v4,v7,v8,⟨rfl,hB⟩,rfl,⟨w4,hR,hW,g4⟩,hS⟩;refine(xWP _ (.inl (xWP _ (SqL.of hW) rfl)) ?_);rcases List.eq_nil_or_concat W with rfl | ⟨W0,pz,rfl⟩
 ·refine iF (aG rA R rfl (SqL.of hR) (q _ H' g4 (hS.done hw)))
 rw[List.concat_eq_append]at *;obtain⟨p0,rfl,hp0⟩:=hS.win pz (!5);have hpm:p0<m:=by rw[<-hS.len];exact(Zj.mp hp0).1
 have eW:(W0++[(p0:Int)]).map V.int=W0.map V.int++[vn p0]:=by rw[Zt];rfl
 rw[eW];rw[show(!(W0.map V.int++[vn p0]).isEmpty)=true by simp];refine iT ⟨λσ' H''=>∃R' W' v3 v4 v7 v8,2*AW.iK R'+W'.length<2*AW.iK R+(W0++[(p0:Int)]).length/\σ'=[some (vn m),some (.ref a),some (.ref D),v3,v4,some (.ref rA),some (.ref wA),v7,v8]/\J6 H m ts D rA wA rr R' W' H''/\AW.fW m ts R' W',?_,?_⟩
 ·rintro σ' H'' ⟨R',W',v3,v4,v7,v8,hM,rfl,hI,hS'⟩;exact(qS _ hM R' W' _ _ _ _ ⟨rfl,by lia⟩ (xPP rfl hI hS'))
 rw[eW]at hW;refine(eQ (.inl ⟨rfl,_,SqL.of hW⟩) _ (vn p0) hW (by rw[Zm];simp) ?_);rw[List.dropLast_concat];have w5:=w4.other wD win (.lst (W0.map V.int));have g5:=g4.fresh w0 (.lst (W0.map V.int));obtain⟨x1,a1,b1,c1,d1⟩:=w5.item hpm;have hlen:(W0++[(p0:Int)]).length=W0.length+1:=by simp
 rw[hlen];refine(aG _ _ (SqL.of w5.at_) d1 ⟨ ⟨_,SqL.of b1⟩,eY (a:=x1) (xs:=(AW.nbs ts p0).map V.int) (λk σ H''=>∃R' W' v8,2*AW.iK R'+W'.length<2*AW.iK R+(W0.length+1) /\
  σ=[some (vn m),some (.ref a),some (.ref D),v3,v4,some (.ref rA),some (.ref wA),some (vn p0),v8]/\J6 H m ts D rA wA rr R' W' H''/\AW.kY m ts R' W' p0 k) (cI R W0 _ (by lia) rfl (bN w5 (by rw[aH (Yh wr)];exact hR) aB g5) (.start hS)) ?_ ?_ ?_⟩)
 ·rintro i σ H'' hi ⟨R',W',v8,_,_,⟨w6,_⟩,_⟩;obtain⟨x2,a2,b2,_⟩:=w6.item hpm;rw[a1]at a2;cases a2;exact SqL.of b2
 ·rintro i x σ H'' hx ⟨R',W',v8,hM,rfl,⟨w6,hR',hW',g6⟩,hI⟩;rw[Zk]at hx;cases eq':(AW.nbs ts p0)[i]? with
  |none=>rw[eq']at hx;cases hx
  |some qz =>
   rw[eq']at hx;cases hx;obtain⟨q0,q1⟩:=AW.II hw (Zg eq');obtain⟨qn,rfl⟩:=Xy q0;have q1:qn<m:=Int.ofNat_lt.mp q1;have hql:qn<R'.length:=by rw[hI.len];exact q1
   have eb:R'[qn]?=some R'[qn]:=Zz hql;refine(iP _ (.bl R'[qn]) (SqL.of hR') (dA (by rw[Zk,eb];rfl)) (R'[qn]) rfl ?_);cases hb:R'[qn]with
   |true =>
    refine iF (cI R' W' _ hM rfl (bN w6 hR' hW' g6) (hI.skip eq' ?_));rw[show((qn:Int)).toNat=qn from rfl,eb,hb]
   |false =>
    rw[hb]at eb;have hset:(R'.map V.bl).set qn (.bl true)=(R'.set qn true).map V.bl:=by rw[ZH]
    have hf:=AW.sX eb;refine iT (aG _ qn hR' ?_ ?_)
    ·exact dE (by rw[Zq];exact hql) rfl
    rw[hset];refine(j9 (.inl ⟨rfl,_,SqL.of (by rw[aH wr];exact hW')⟩) _ (by rw[aH wr];exact hW') ?_ ?_)
    ·rw[Zq];exact Xq (show _<=2001 by rw[hlen]at hB;lia) (!1)
    refine(cI (R'.set qn true) (W'++[(qn:Int)]) _ ?_ rfl (bN ((w6.other rD rin _).other wD win _) ?_ ?_ ((g6.fresh r0 _).fresh w0 _)) (hI.reach eq' q1))
    ·rw[Zm];simp;lia
    ·rw[aH (Yh wr)];exact aB
    ·rw[Zt];exact aB
 ·rintro σ H'' ⟨R',W',v8,hM,rfl,hI,hS'⟩;exact(cR R' W' _ _ _ _ (by simpa using hM) rfl hI (hS'.finish (!54)))
theorem SE{σ:L2.St}{H:Hp}{Q:VK}{a c x:Int}{tb:TE}(hb:∀R:VK,R (.int x) H->tb σ H R)(q:Q (.bl (decide (a<=x)&&decide (x<=c))) H) :
  rJ (rI0 λi j=>V.bl (decide (i<=j))) (rI0 λi j=>V.bl (decide (i<=j))) (tC (V.int a)) tb (tC (V.int c)) σ H Q:=by
 refine hb _ (i2 (λh=>?_) λh=>?_)
 ·rw[h,Bool.true_and]at q;exact q
 ·rw[Bool.eq_false_iff.mpr h,Bool.false_and]at q;exact q
def KZ:Sp:=λvs H Q _=>∃(wa:Addr) (m:Int) (ts:AW.Ts) (os:AW.Os),vs=[.ref wa]/\yZ H wa m ts os/\AW.DF m ts os/\∀H',aK H H'->Q .non H'
theorem IB(T:Txt K mg t):Ok P w base T 11 3 KZ:=by
 left
 obtain⟨wa,m,ts,os,rfl,⟨tA,oA,hw,hT,hO⟩,⟨⟨c1,c2⟩,c3,c4,c5,c6⟩,q⟩:=h;refine(xWP _ (b9 (pI 1 nd (iG aI (pv 0) b0 (λ_ _=>rfl)))
  (b9 (pI 2 nd (iG aI (pv 0) b0 (λ_ _=>rfl)))
  (b9 (jG (jU (kI lU lU b0 (pv 1) (nB (T.g 1)))) fZ fF)
  (b9 (jG (jU (kI lU lU b0 (bC fU rfl (T.z 6) PySem.boot_len (c8 (pv 2) fP)) (nB (T.g 2)))) fZ fF)
  (b9 (jG (jU (bT (cX (PD T) hr (T.f 12) bR (c8 (pv 1) (c8 (pv 2) fP))) (λ_=>rfl))) fZ fF)
  (b9 (jG (jU (bT (cX (LX T) hr (T.f 13) bR (c8 (pv 0) fP)) (λ_=>rfl))) fZ fF)
  (dR (jG (jU (bT (cX (L6 T) hr (T.f 15) bR (c8 (pv 1) (c8 (pv 2) fP))) (λ_=>rfl))) fZ fF)))))))) ?_)
 refine(aG _ _ (SqT.of hw) rfl ?_);refine(aG _ _ (SqT.of hw) rfl ?_);dsimp only[cS,DR,KM,KJ,xC];refine SE (x:=m) ?h1 ?h2
 case h1=>exact λR h=>(h)
 rw[show(decide ((1:Int)<=m)&&decide (m<=200))=true by rw[<-Bool.decide_and];exact Ye c1];refine iF ?_;obtain⟨tr,e1,e2,e3⟩:=id hT;dsimp only[FT,DR,KM,KJ,xC];refine SE (x:=((!32).length:Nat)) ?h3 ?h4
 case h3=>exact λR h=>(aG tA _ rfl (.inl (SqL.of e1)) h)
 rw[Zq,e2];rw[show(decide ((1:Int)<=(ts.length:Nat))&&decide (((ts.length:Nat):Int)<=400))=true by rw[<-Bool.decide_and];exact Ye (by lia)];refine iF (cI m tA ts rfl hT (by lia) (λH1 g1=>(xWP _ rfl ?_)));rw[AW.IX.mpr c3];obtain⟨n,rfl⟩:=Xy (show 0<=m by lia);refine iF (bG wa n ts os rfl (aG tA oA (g1 _ _ hw) (hT.same g1) (hO.same g1)) c3 (by lia) (by lia) (λb H2 g2 hb=>(xWP _ rfl ?_)));rw[hb.mpr ⟨Int.ofNat.inj c4,c5⟩];refine iF (fG n tA ts rfl ((hT.same g1).same g2) c3 (by lia) (by lia) (by lia) (λb H3 g3 hb=>(xWP _ rfl ?_)));rw[hb.mpr c6];exact iF (q H3 ((g1.trans g2).trans g3))
def OG:Sp:=λvs H Q _=>∃(a:Addr) (ns:List Int) (k:Int),vs=[.ref a,.int k]/\SqL H a (!39)/\0<=k/\∀c:Int,Q (.int c) H
theorem QK{ns:List Int}{k:Int}(h0:0<=k)(h:k<(ns.length:Int)):∃v:Int,atI (!39) k=some (.int v):=by
 have hk:k.toNat<ns.length:=by lia
 have ek:k=((k.toNat:Nat):Int):=by lia
 have q:atI (!39) ((k.toNat:Nat):Int)=some (.int ns[k.toNat]):=dA (by rw[Zk,Zz hk]<;>rfl);rw[<-ek]at q;exact⟨_,q⟩
theorem iV(T:Txt K mg t):Ok P w base T 66 1 (OG):=by
 left
 obtain⟨a,ns,k,rfl,hS,h0,q⟩:=h;refine(xWP _ (by exists 1,0,aJ,0,1) ?_);refine(aG a _ rfl (.inl hS) ?_);refine i2 (λc=>?_) (λc=>?_)
 ·have c':k<(((!39).length:Nat):Int):=Yf c;rw[Zq]at c';obtain⟨v,hv⟩:=QK h0 c';exact(aG _ _ hS hv (q v))
 ·exact q 0
def NH:Sp:=λvs H Q _=>∃c k:Int,vs=[.int c,.int k]/\0<=k/\k<=1000/\∀m:Int,0<=m->m<1000000000->Q (.int m) H
theorem iH(T:Txt K mg t):Ok P w base T 67 1 NH:=by
 left
 obtain⟨c,k,rfl,h0,h1,q⟩:=h;refine(xWP _ (by exists 0,vR,1,2,0,bS,0,vR,0,vR,3,aX,aX,0,1,1,1,3,3,3,bS,3,aX,3) ?_);have p18:NB 10 18:=(xPP (!1) (!1) (!1))
 have p6:NB 10 6:=(xPP (!1) (!1) (!1))
 refine⟨p18,?_⟩;refine i2 (λ_=>?_) (λ_=>?_)
 ·refine(cC k rfl (by lia) (by lia) (cK (lo:=0) (n:=k.toNat) (λ_ σ H'=>H'=H/\∃(c':Int) (o:Option V),σ=[some (.int c'),some (.int k),o,none]) ⟨rfl,(xWW c none rfl)⟩ ?_ ?_))
  ·rintro i σ H' hi ⟨rfl,c',o,rfl⟩;exact(bN p6 ⟨by decide,by decide⟩ rfl (!44))
  ·rintro σ H' ⟨rfl,c',o,rfl⟩;refine(xPP p6 (by show(0:Int)<10 ^ 6;decide) (q _ (Xw _ (!1)) ?_));exact Int.lt_trans (Xx _ (!1)) (!1)
 ·refine(cN (by show(0:Int)<1000003;decide) (.inl ⟨by lia,by lia⟩) (.inr ⟨by decide,by decide⟩) (.inr ⟨by decide,by decide⟩) (by show(0:Int)<2147483629;decide) ?_);have b1:∀x:Int,0<=x%2147483629/\x%2147483629<2147483629:=λx=>⟨Xw _ (!1),Xx _ (!1)⟩
  have b2:∀x:Int,0<=x%2147483587/\x%2147483587<2147483587:=λx=>⟨Xw _ (!1),Xx _ (!1)⟩
  have b3:∀x:Int,0<=x%2147483579/\x%2147483579<2147483579:=λx=>⟨Xw _ (!1),Xx _ (!1)⟩
  generalize hn1:((c%1000003+k*k*7919+k)*48271%2147483629:Int)=n1;have r1:=b1 ((c%1000003+k*k*7919+k)*48271);rw[hn1]at r1;refine(xPP (.inl ⟨by lia,by lia⟩) (by show(0:Int)<2147483587;decide) ?_);have r2:=b2 (n1*n1);generalize n1*n1%2147483587=n2 at r2 ⊢;refine(bN (.inl ⟨by lia,by lia⟩) (by show(0:Int)<2147483579;decide) ⟨by decide,by decide⟩ ?_);have r3:=b3 (n2*(n2+2));generalize n2*(n2+2)%2147483579=n3 at r3 ⊢;exact q _ (by lia) (by lia)
def GD:Sp:=λvs H Q _=>∃e:Nat,vs=[vn e]/\Q (vn (!46)) H
theorem dI(T:Txt K mg t):Ok P w base T 70 1 GD:=by
 left
 obtain⟨e,rfl,q⟩:=h;refine(xWP _ (by exists aX,0,0) ?_);refine(xPP (by show(0:Int)<2;decide) (!7) ?_);have e1:(e:Int)+1-2*((e:Int)%2)=((MM.oth e:Nat):Int):=by unfold MM.oth;split<;>lia
 show Q (.int ((e:Int)+1-2*((e:Int)%2))) H;rw[e1];exact q
def KR:Sp:=λvs H Q _=>∃(a:Addr) (ts:MM.aP) (e:Nat),vs=[.ref a,vn e]/\gN H a ts/\e<2*ts.length/\Q (vn (MM.place ts e)) H
theorem C9{x y:Nat}(e:Nat):atI [vn x,vn y] ((e:Int)%2)=some (vn (if e%2=0 then x else y)):=by
 rcases Nat.mod_two_eq_zero_or_one e with h | h
 ·rw[show(e:Int)%2=0 by lia,Yb h];rfl
 ·rw[show(e:Int)%2=1 by lia,Ya (by lia)];rfl
theorem lK(T:Txt K mg t):Ok P w base T 71 1 KR:=by
 left
 obtain⟨a,ts,e,rfl,ht,he,q⟩:=h;refine(xWP _ (by exists mR,aJ,0,bS,1,1) ?_);obtain⟨xs,r,h1,h2,h3,h4⟩:=ht.item (i:=e / 2) (by lia);refine(eQ ⟨by decide,by decide⟩ xs _ (SqL.of h1) (by show atI xs ((e:Int) / 2)=_;rw[show(e:Int) / 2=((e / 2:Nat):Int) by lia];exact h3) ?_);refine⟨(by show(0:Int)<2;decide),.inr (.inl (aG _ _ (SqT.of h4) (C9 e) ?_))⟩;unfold MM.place at q;split
 ·rename_i h;rw[Yb h]at q;exact q
 ·rename_i h;rw[Ya h]at q;exact q
def Q7:Sp:=λvs H Q _=>∃(a o:Addr) (ts:MM.aP) (os:MM.aN) (e:Nat),vs=[.ref a,.ref o,vn e]/\gN H a ts/\nU H o os/\MM.Good ts os/\e<2*ts.length/\Q (vn (MM.behind ts os e)) H
theorem mK(T:Txt K mg t):Ok P w base T 72 2 Q7:=by
 left
 obtain⟨a,o,ts,os,e,rfl,ht,ho,g,he,q⟩:=h;refine(xWP _ (by exists 3,aJ,1,lK,0,dI,2,aJ,3,iU YO PySem.F.slot_list_index PySem.F.type_list_index kO ?_ ?_,3,dI,2) ?_);have hp:=g.g.has (!46) (MM.aZ he);obtain⟨xs,r,h1,h2,h3,h4⟩:=ho.item hp.1;refine(nZ e rfl a ts (!46) rfl ht (MM.aZ he) (aG xs _ (SqL.of h1) h3 ?_));refine(tU (.inl ⟨rfl,_,SqL.of h4⟩) e rfl _ _ rfl h4 hp.2 (aG _ _ (SqL.of h4) (C8 hp.2) q))
end K27
namespace L2
open PySem PyProof.Rows
structure cE(H H':Hp)(r:Addr)(rr:List Addr)(ls:MM.aN):Prop where
 at_:H' r=some (.lst (rr.map V.ref))
 len:rr.length=ls.length
 row:∀(i:Nat) l,ls[i]?=some l->∃x,rr[i]?=some x/\H' x=some (.lst (vns l))
 nd:rr.Nodup
 nin:r∉rr
 new:H r=none
 news:∀x∈rr,H x=none
theorem cE.os{H H':Hp}{r:Addr}{rr:List Addr}{ls:MM.aN}(n:cE H H' r rr ls):nU H' r ls:=(aM rr n.at_ n.len n.row)
theorem cE.keep{H H' H2:Hp}{r:Addr}{rr:List Addr}{ls:MM.aN}(n:cE H H' r rr ls)(g:∀b o,b=r\/b∈rr->H' b=some o->H2 b=some o):cE H H2 r rr ls :=
 ⟨g _ _ (.inl rfl) n.at_,n.len,λi l h=>by obtain⟨x,h1,h2⟩:=n.row i l h;exact(xWP x h1 (g _ _ (.inr (Zg h1)) h2)),n.nd,n.nin,n.new,n.news⟩
theorem cE.ex{H H':Hp}{r:Addr}{rr:List Addr}{ls:MM.aN}(n:cE H H' r rr ls){x:Addr}(hx:x∈rr):∃l,H' x=some (.lst (vns l)):=by
 obtain⟨i,hi,rfl⟩:=Yy.mp hx;have hi':i<ls.length:=by rw[<-n.len];exact hi
 obtain⟨y,h1,h2⟩:=n.row i (ls[i]'hi') (Zz hi');rw[Zz hi]at h1;cases h1;exact⟨_,h2⟩
theorem cE.push{H H' H2:Hp}{r x:Addr}{rr:List Addr}{ls:MM.aN}{l:List Nat}(n:cE H H' r rr ls)(hx:H x=none)(hxr:x∉rr)(hxn:x≠r)(at2:H2 r=some (.lst ((rr++[x]).map V.ref)))(ax:H2 x=some (.lst (vns l)))
  (g:∀b o,b∈rr->H' b=some o->H2 b=some o):cE H H2 r (rr++[x]) (ls++[l]) where
 at_:=at2
 len:=by rw[Zm,Zm,n.len];rfl
 row:=λi m h=>by
  rcases Xk i ls.length with q | q
  ·rw[Zx q]at h;obtain⟨y,h1,h2⟩:=n.row i m h;exact(xWP y (by rw[Zx (by rw[n.len];exact q)];exact h1) (g _ _ (Zg h1) h2))
  ·have hi:i=ls.length:=by
    obtain⟨z,_⟩:=Zj.mp h;rw[Zm]at z;simp at z
    lia
   subst hi;rw[Yx]at h;cases h;exact(xWP x (by rw[<-n.len,Yx]) ax)
 nd:=by
  rw[List.nodup_append];refine(xPP n.nd (!5) (λa ha b hb z=>?_));have e:b=x:=by simpa using hb
  subst e;subst z;exact hxr ha
 nin:=λz=>by
  rcases Zf.mp z with z | z
  ·exact n.nin z
  ·have e:r=x:=by simpa using z
   exact hxn e.symm
 new:=n.new
 news:=λy hy=>by
  rcases Zf.mp hy with z | z
  ·exact n.news y z
  ·have e:y=x:=by simpa using z
   subst e;exact hx
theorem jR(l m:List Nat):vns (l++m)=vns l++vns m:=Zt
theorem MO(x:Nat)(l:List Nat):inV (vn x) (vns l)=decide (x∈l):=by
 unfold inV;rw[Xh,List.any_eq_true,decide_eq_true_iff];constructor
 ·rintro⟨y,hy,h⟩;obtain⟨n,hn,rfl⟩:=Zh.mp hy;have h':((n:Int)==(x:Int))=true:=h;have:n=x:=by have:=beq_iff_eq.mp h';lia
  subst this;exact hn
 ·intro h;exact(xWP (vn x) (Zh.mpr (xWP x h rfl)) (by show((x:Int)==(x:Int))=true;simp))
theorem FM(l:List Nat):(vns l).all lV=true:=by rw[ZE];intro y hy;obtain⟨n,_,rfl⟩:=Zh.mp hy;rfl
theorem qN{H:Hp}:∀l:List Nat,Bds H (vns l) (l.map λn:Nat=>PyData.int (n:Int))
 |[]=>.nil
 |n::l=>.cons (.int n) (qN l)
theorem pG(l:List Nat):SeqAt.shaped (.list (l.map λn:Nat=>PyData.int (n:Int)))=true:=by
 have e:(l.map λn:Nat=>PyData.int (n:Int))=(l.map λn:Nat=>(n:Int)).map PyData.int:=by rw[Ym];rfl
 rw[e];generalize (l.map λn:Nat=>(n:Int))=ns;simp[SeqAt.shaped,PyData.canLay0,PyData.canLayAll0,PyData.depth,PyData.depthAll,PySem.W.ke_canLayAll0,PySem.W.ke_depthAll]
theorem JF(l m:List Nat):PyData.eqv (.list (l.map λn:Nat=>PyData.int (n:Int))) (.list (m.map λn:Nat=>PyData.int (n:Int)))=decide (l=m):=by
 have e:∀l:List Nat,(l.map λn:Nat=>PyData.int (n:Int))=(l.map λn:Nat=>(n:Int)).map PyData.int:=λl=>by rw[Ym];rfl
 rw[e,e];unfold PyData.eqv;rw[PySem.W.ked_eqvAll];have inj:∀l m:List Nat,(l.map λn:Nat=>(n:Int))=(m.map λn:Nat=>(n:Int))->l=m:=by
  intro l;induction l with
  |nil=>intro m h;cases m with
   |nil=>rfl
   |cons _ _=>simp at h
  |cons a l ih=>intro m h;cases m with
   |nil=>simp at h
   |cons b m =>
    simp only[ZJ,List.cons.injEq]at h;rw[ih m h.2,show a=b by lia]
 by_cases h:l=m
 ·subst h;simp
 ·rw[Yc h,Yc (λz=>h (inj l m z))]
end L2
namespace K27
open PySem L2 PyProof.Rows
def GE:Sp:=λvs H Q _=>∃(a o:Addr) (ts:MM.aP) (os:MM.aN),vs=[.ref a,.ref o]/\gN H a ts/\nU H o os/\MM.Good ts os/\ts.length<=500 /\
 ∀(r:Addr) (rr:List Addr) (H':Hp),aK H H'->cE H H' r rr (!40)->Q (.ref r) H'
theorem lL(T:Txt K mg t):Ok P w base T 73 3 GE:=by
 left
 obtain⟨a,o,ts,os,rfl,ht,ho,g,h500,q⟩:=h;refine(xWP _ (by exists 2,3,a8 (tR rfl) rfl (T.z 7) boot_list ?_,a8 yV rfl (T.z 10) boot_range ?_,0,(AG hr.units),3,4,aJ,3,5,mK,0,1,aJ,3,fX,5,aJ,4,4,5,5,mK,0,1,5,2,4,(fH 3 ["_law_end","_law_land"] [none,some 4]),bE ?_,3,0,mI ?_,vS,0,1,0,2) ?_);have m:=g.maps;obtain⟨tr0,hta,htl,_⟩:=id ht;refine⟨!23,λtr htr=>?_⟩;have g1:=aC htr (!49);refine(FA a _ rfl (.inl (SqL.of (g1 _ _ hta))) (!7) _ rfl (λp hp=>?_));have e2:(2:Int)*((tr0.map V.ref).length:Nat)=((2*ts.length:Nat):Int):=by rw[Zq,htl];push_cast;rfl
 rw[e2]at *;have g2:=aC hp (.rng 0 ((2*ts.length:Nat):Int));refine(aO p (!2) rfl aB (by lia) (λlr hlr=>?_));have g3:=aC hlr (.lst (vns (ZS (!2))));have ntl:tr≠lr:=aE (g2 _ _ aB) hlr;generalize hf:MM.behind ts os=f at m q;generalize hN:2*ts.length=N at m q hlr g3 g2 hp;have n0:cE H (upd (upd (upd H tr (!49)) p (.rng 0 (N:Int))) lr (.lst (vns (ZS N)))) tr [] [] :=
  ⟨g3 _ _ (g2 _ _ aB),rfl,λi l h=>by simp at h,List.nodup_nil,by simp,htr,λx hx=>by cases hx⟩
 refine⟨λk σ H1=>∃(lr:Addr) (left:List Nat) (rr:List Addr) (done:MM.aN) (o4 o5:Option V),k=left.length/\σ=[some (.ref a),some (.ref o),some (.ref tr),some (.ref lr),o4,o5]/\aK H H1/\H1 lr=some (.lst (vns left)) /\
  cE H H1 tr rr done/\lr≠tr/\done++MM.lf f left=MM.aS f N/\(∀x∈left,x<N)/\left.length<=N,(bW _ lr (ZS N) ([]) ([]) none none rfl rfl (eJ ((g1.trans g2).trans g3) aB n0 (Yh ntl) rfl (λx hx=>Zs.mp hx) (!5))),?_⟩
 clear n0 g3 g2 hp hlr ntl lr p g1;rintro k σ H1 ⟨lr,left,rr,done,o4,o5,rfl,rfl,g1,el,n1,nlt,eq,hlt,hll⟩;refine⟨!23,λp hp=>?_⟩;have gp:=aC hp (!49);refine(bO _ _ (.lst (SqL.of (gp _ _ el)) (qN left)) (.lst (SqL.of aB) (qN [])) (pG left) (pG []) ?_);rw[JF];have n2:cE H (upd H1 p (!49)) tr rr done:=n1.keep λb o' _ h=>gp _ _ h;have g2:=g1.trans gp;have el2:=gp _ _ el;generalize upd H1 p (!49)=H2 at n2 g2 el2 gp;clear hp;cases left with
 |nil =>
  refine iFb rfl ?_;rw[MM.IQ,List.append_nil]at eq;exact(q tr rr H2 g2 (eq▸n2))
 |cons e r =>
  refine iTb (!5) ?_;have heN:e<N:=hlt e Zd;obtain⟨rd,rdN⟩:=MM.cZ m heN;have hdl:done.length<=N:=by
   have h1:=MM.sN m _ (ZS N) (ZC _) (λx hx=>Zs.mp hx);have h2:(done++MM.lf f (e::r)).length=(MM.aS f N).length:=by rw[eq]
   rw[Zm]at h2;unfold MM.aS at h2;rw[Yj]at h1
   lia
  have p1:atI (vns (e::r)) 0=some (vn e):=j6 (l:=e::r) (j:=0) (!5) rfl;refine(xWP _ (λσ' H' h=>h) ?_);refine(aO _ _ (SqL.of el2) p1 (by show 1<=ZW;decide) (λla hla=>?_));have g3:=aC hla (.lst [vn e]);have nla:la≠tr/\la≠lr/\la∉rr:=by
   refine(xPP ((aE n2.at_ hla).symm) ((aE el2 hla).symm) (λz=>?_));obtain⟨l,hl⟩:=n2.ex z;rw[hla]at hl;cases hl
  refine(aG _ _ (SqL.of (g3 _ _ el2)) p1 (a7 a o ts os e rfl ((g2.trans g3).ts ht) ((g2.trans g3).os ho) g ⟨ by rw[hN];exact heN,?_⟩));rw[hf];refine⟨λk σ H4=>∃j,k=MM.per f e-j/\0<j/\j<=MM.per f e/\σ=[some (.ref a),some (.ref o),some (.ref tr),some (.ref lr),some (.ref la),some (vn (MM.iter f j e))]/\(∀b o,b≠la->H2 b=some o->H4 b=some o)/\H4 la=some (.lst (vns (MM.path f e j))),
   (cG _ 1 rfl Nat.one_pos rd.1 rfl (λb o' hb h=>g3 _ _ h) aB),?_⟩
  rintro k σ H4 ⟨j,rfl,hj0,hj,rfl,b4,e4⟩;have hH:∀b o',H b=some o'->H4 b=some o':=λb o' h=>b4 b o' (aE (g2 _ _ h) hla) (g2 _ _ h);have p0:atI (vns (MM.path f e j)) 0=some (vn e):=by
   have hl:0<(MM.path f e j).length:=by rw[MM.kL];exact hj0
   refine(j6 hl (k:=0) rfl).trans ?_;congr 2;unfold MM.path;simp[List.getD,hj0];rfl
  refine(aG _ _ (SqL.of e4) p0 ?_);by_cases hc:MM.iter f j e=e
  ·refine iFb (by rw[hc];simp) ?_;have ej:j=MM.per f e:=by
    rcases Xk j (MM.per f e) with z | z
    ·exact Yg hc (rd.2.2 j hj0 z)
    ·lia
   subst ej;have n4:cE H H4 tr rr done:=n2.keep λb o' hb h=>b4 b o' (by rcases hb with rfl | hb;exact Yh nla.1;rintro rfl;exact nla.2.2 hb) h;refine(j9 (.inl ⟨rfl,_,SqL.of n4.at_⟩) _ n4.at_ ?_ ?_)
   ·rw[Zq,n4.len];exact Xq (by lia:done.length<=1000) (!1)
   have el5:(upd H4 tr (.lst (rr.map V.ref++[.ref la]))) lr=some (.lst (vns (e::r))):=by rw[aH nlt];exact b4 _ _ (Yh nla.2.1) el2
   have la5:(upd H4 tr (.lst (rr.map V.ref++[.ref la]))) la=some (.lst (vns (MM.aL f e))):=by rw[aH nla.1];exact e4
   have hH5:aK H (upd H4 tr (.lst (rr.map V.ref++[.ref la]))):=λb o' h=>by rw[aH (aE h htr)];exact hH b o' h
   have n5:cE H (upd H4 tr (.lst (rr.map V.ref++[.ref la]))) tr (rr++[la]) (done++[MM.aL f e]) :=
    n4.push (g2.free hla) nla.2.2 nla.1 (by rw[aB,Zt];rfl) la5 λb o' hb h=>by rw[aH (show b≠tr from λz=>n4.nin (z▸hb))];exact h
   generalize upd H4 tr (.lst (rr.map V.ref++[.ref la]))=H5 at el5 la5 hH5 n5;refine⟨⟨_,SqL.of el5⟩,λD hD=>?_⟩;refine iW (e::r).length (λi ys H'=>ys=vns (((e::r).take i).filter λx=>decide (x∉MM.aL f e))/\H'=upd H5 D (.lst ys)) ⟨by simp,rfl⟩ ?_ ?_
   ·rintro i ys H' hi ⟨rfl,rfl⟩;have gD:=aC hD (.lst (vns (((e::r).take i).filter λx=>decide (x∉MM.aL f e))));have hx:(vns (e::r))[i]?=some (vn (e::r)[i]):=by rw[Zk,Zz hi];rfl
    refine⟨(bM _ _ (SqL.of (gD _ _ el5)) hx),?_⟩;rintro x' H'' ⟨rfl,hx'⟩;have e6:=hx' _ (SqL.of (gD _ _ el5));rw[hx]at e6;cases e6;refine⟨(Fills.refl _).set _ rfl,?_⟩;refine(cC _ (.inl (SqL.of (gD _ _ la5))) rfl (FM _) ?_);rw[MO];have ts1:=take_succ_filter (λx=>decide (x∉MM.aL f e)) (e::r) i _ (Zz hi);have hfl:((List.take i (e::r)).filter λx=>decide (x∉MM.aL f e)).length<=1000:=by
     have h1:=List.length_filter_le (λx=>decide (x∉MM.aL f e)) (List.take i (e::r));have h2:(List.take i (e::r)).length<=(e::r).length:=List.length_take_le' _ _
     lia
    by_cases hxm:(e::r)[i]∈MM.aL f e
    ·refine iFb (by simp[hxm]) ?_;rw[ts1,Ya (by simp[hxm]),List.append_nil];exact⟨rfl,rfl⟩
    ·refine iTb (by simp[hxm]) ?_;refine(bN aB ?_ ?_ ?_)
     ·rw[Zq];exact Xq hfl (!1)
     ·rw[ts1,Yb (by simp[hxm]),jR];rfl
     ·rw[fB]
   ·rintro ys H' ⟨rfl,rfl⟩;have gD:=aC hD (.lst (vns (((e::r).take (e::r).length).filter λx=>decide (x∉MM.aL f e))));refine⟨(xWP _ (SqL.of (gD _ _ el5)) (!54)),?_⟩;have sh:=MM.cU m heN r;refine(qS _ ?_ D _ (rr++[la]) (done++[MM.aL f e]) _ _ rfl (w8 rfl (hH5.trans gD) aB (n5.keep λb o' _ h=>gD _ _ h) ((aE n5.at_ hD).symm) ?_ ?_ ?_))
    ·rw[Yv];simp only[Yq];lia
    ·rw[Yv,Yn];rw[MM.j3 m hlt]at eq;exact eq
    ·intro x hx;rw[Yv]at hx;exact hlt x (Yz.mp hx).1
    ·rw[Yv];simp only[Yq]at hll;lia
  ·refine iTb (!41) ?_;have hjp:=MM.rS rd hj0 hj hc;refine(xWP _ (λσ' H' h=>h) ?_);refine(j9 (.inl ⟨rfl,_,SqL.of e4⟩) _ e4 ?_ ?_)
   ·rw[Zq,MM.kL];exact Xq (by lia:j<=1000) (!1)
   have e7:vns (MM.path f e j)++[vn (MM.iter f j e)]=vns (MM.path f e (j+1)):=by rw[MM.oO,jR];rfl
   rw[e7];have hH5:aK H (upd H4 la (.lst (vns (MM.path f e (j+1))))):=λb o' h=>by rw[aH (aE (g2 _ _ h) hla)];exact hH b o' h
   refine(a7 a o ts os (MM.iter f j e) rfl (hH5.ts ht) (hH5.os ho) g ⟨ by rw[hN];exact MM.cF m heN j,?_⟩);rw[hf];exact(DI (MM.per f e-(j+1)) (by lia) (j+1) rfl (by lia) (by lia) rfl (λb o' hb h=>by rw[aH hb];exact b4 b o' hb h) aB)
end K27
namespace MM
theorem h7{l:List Nat}{i x y:Nat}:y∈L2.aU l i x↔y=x\/y∈l:=by
 unfold L2.aU;rw[Zf,Zn];have h:y∈l↔y∈l.take i\/y∈l.drop i:=by rw[<-Zf,List.take_append_drop]
 rw[h];constructor
 ·rintro(h | h | h)
  ·exact .inr (.inl h)
  ·exact .inl h
  ·exact .inr (.inr h)
 ·rintro(h | h | h)
  ·exact .inr (.inl h)
  ·exact .inl h
  ·exact .inr (.inr h)
theorem fL{l:List Nat}(nd:l.Nodup){i x:Nat}(h:x∉l):(L2.aU l i x).Nodup:=by
 unfold L2.aU;have p:(l.take i++x::l.drop i).Perm (x::l):=by
  have q:=List.perm_middle (a:=x) (l₁:=l.take i) (l₂:=l.drop i);rw[List.take_append_drop]at q;exact q
 exact(p.nodup_iff).mpr (List.nodup_cons.mpr ⟨h,nd⟩)
theorem iA{α:Type}(l:List α)(i:Nat)(x:α):(L2.aU l i x).length=l.length+1:=by
 unfold L2.aU;rw[Zm,Yq,<-Nat.add_assoc,<-Zm,List.take_append_drop]
theorem lO(l:List Nat)(i x:Nat):L2.aU (L2.vns l) i (L2.vn x)=L2.vns (L2.aU l i x):=by
 unfold L2.aU L2.vns;rw[Zt,ZJ,List.map_take,List.map_drop]
end MM
namespace K27
open PySem L2 PyProof.Rows
def F8:Sp:=λvs H Q _=>∃(num:Int) (n:Nat),vs=[.int num,vn n]/\0<=num/\n<=400/\∀(r:Addr) (ps:List Nat),H r=none->ps.Nodup->(∀x∈ps,x<n)->ps.length=n->Q (.ref r) (upd H r (.lst (vns ps)))
theorem sG(T:Txt K mg t):Ok P w base T 69 1 F8:=by
 left
 obtain⟨num,n,rfl,h0,hn,q⟩:=h;refine(xWP _ (by exists 2,1,3,iU YO PySem.F.slot_list_insert PySem.F.type_list_insert hZ ?_ ?_,2,0,aX,3,3,0,bS,0,aX,3,2) ?_);refine⟨!23,λr hr0=>?_⟩;refine(cC n rfl (by lia) (by lia) (cK (lo:=0) (n:=(n:Int).toNat) (λi σ H'=>∃(num':Int) (ps:List Nat) (o:Option V),0<=num'/\σ=[some (.int num'),some (vn n),some (.ref r),o]/\H'=upd H r (.lst (vns ps))/\ps.Nodup/\(∀x∈ps,x<i)/\ps.length=i)
  (hJ num ([]) none h0 rfl rfl List.nodup_nil (λx hx=>by cases hx) rfl) ?_ ?_))
 ·rintro i σ H' hi ⟨num',ps,o,h0',rfl,rfl,hnd,hlt,hl⟩;have hi':i<400:=by lia
  have e1:num' % (0+(i:Int)+1)=(((num' % (0+(i:Int)+1)).toNat:Nat):Int):=by
   have:=Xw num' (show(0+(i:Int)+1)≠0 by lia)
   lia
  have e2:(num' % (0+(i:Int)+1)).toNat<=i:=by
   have:=Xx num' (show 0<(0+(i:Int)+1) by lia)
   lia
  refine(zF (.inl ⟨rfl,_,SqL.of aB⟩) (by show(0:Int)<0+(i:Int)+1;lia) _ ((num' % (0+(i:Int)+1)).toNat) (vn i) ?_ aB ?_ ?_ ?_)
  ·show[V.int (num' % (0+(i:Int)+1)),V.int (0+(i:Int))]=[V.int (((num' % (0+(i:Int)+1)).toNat:Nat):Int),V.int (i:Int)]
   rw[<-e1,Int.zero_add]
  ·rw[Zq];lia
  ·rw[Zq];exact Xq (by lia:ps.length<=1000) (!1)
  refine⟨⟨by show(0:Int)<0+(i:Int)+1;lia,by show 0+(i:Int)+1<1073741824;lia⟩,?_⟩;refine(hJ _ (aU ps (num' % (0+(i:Int)+1)).toNat i) _ ?_ rfl ?_ ?_ ?_ ?_)
  ·exact Int.ediv_nonneg h0' (by lia)
  ·rw[fB,MM.lO]
  ·exact MM.fL hnd λz=>YY _ (hlt i z)
  ·intro x hx;rcases MM.h7.mp hx with rfl | hx
   ·lia
   ·have:=hlt x hx;lia
  ·rw[MM.iA,hl]
 ·rintro σ H' ⟨num',ps,o,h0',rfl,rfl,hnd,hlt,hl⟩;exact(q r ps hr0 hnd (λx hx=>by have:=hlt x hx;lia) (by lia))
def B5:Sp:=λvs H Q _=>∃num by_ k:Int,vs=[.int num,.int by_,.int k]/\0<by_/\by_<1000/\0<=k/\k<=1000/\∀d:Int,0<=d->d<by_->Q (.int d) H
theorem oP(T:Txt K mg t):Ok P w base T 68 1 B5:=by
 left
 obtain⟨num,b,k,rfl,hb0,hb,hk0,hk,q⟩:=h;refine(xWP _ (by exists 2,3,0,bS,0,1,0,1) ?_);refine(cC k rfl (by lia) (by lia) (cK (lo:=0) (n:=k.toNat) (λ_ σ H'=>H'=H/\∃(c':Int) (o:Option V),σ=[some (.int c'),some (.int b),some (.int k),o]) ⟨rfl,(xWW num none rfl)⟩ ?_ ?_))
 ·rintro i σ H' hi ⟨rfl,c',o,rfl⟩;exact(xPP ⟨hb0,by lia⟩ rfl (!44))
 ·rintro σ H' ⟨rfl,c',o,rfl⟩;exact⟨hb0,q _ (Xw _ (by lia)) (Xx _ hb0)⟩
end K27
namespace MM
theorem mL(pick:Int){n:Nat}(h:0<n):∃i:Nat,i<n/\pick%(n:Int)=(i:Int):=by
 have h1:=Xw pick (show(n:Int)≠0 by lia);have h2:=Xx pick (show 0<(n:Int) by lia);exact(xWP ((pick%(n:Int)).toNat) (by lia) (by lia))
theorem lI{ts:aP}{t:Nat×Nat}{e:Nat}(h:e<2*ts.length):place (ts++[t]) e=place ts e:=by
 unfold place;have:e / 2<ts.length:=by lia
 simp only[List.getD,Zx this]
theorem iS(ts:aP)(t:Nat×Nat):place (ts++[t]) (!2)=t.1:=by
 unfold place;rw[Yb (by lia),show 2*ts.length / 2=ts.length by lia];simp[List.getD]
theorem gS(ts:aP)(t:Nat×Nat):place (ts++[t]) (!51)=t.2:=by
 unfold place;rw[Ya (by lia),show(!51) / 2=ts.length by lia];simp[List.getD]
theorem Good.newPlace{ts:aP}{os:aN}(g:Good ts os){a i:Nat}(ha:a<os.length)(h3:(row os a).length<4) :
  Good (ts++[(a,os.length)]) ((os.set a (L2.aU (row os a) i (!2)))++[[2*ts.length+1]]):=by
 have nm:2*ts.length∉row os a:=λz=>by have:=(g.g.ends a _ z).1;lia
 have g1:=g.g.congr (pl':=place (ts++[(a,os.length)])) λe he=>lI he;have g2:=g1.add ha (iS ts _) (l:=L2.aU (row os a) i (!2)) (λx=>h7) (fL (g.g.nd a) nm) (by rw[iA];lia);have g3:=g2.new (by rw[ZR];exact gS ts _);refine⟨?_,by rw[Zm];simp⟩;rw[Zm];exact g3
theorem Good.newTie{ts:aP}{os:aN}(g:Good ts os){a b i j:Nat}(ha:a<os.length)(hb:b<os.length)(h1:(row os a).length<4)(h2:(row (os.set a (L2.aU (row os a) i (!2))) b).length<4) :
  Good (ts++[(a,b)]) ((os.set a (L2.aU (row os a) i (!2))).set b (L2.aU (row (os.set a (L2.aU (row os a) i (!2))) b) j (!51))):=by
 have nm:2*ts.length∉row os a:=λz=>by have:=(g.g.ends a _ z).1;lia
 have g1:=g.g.congr (pl':=place (ts++[(a,b)])) λe he=>lI he;have g2:=g1.add ha (iS ts _) (l:=L2.aU (row os a) i (!2)) (λx=>h7) (fL (g.g.nd a) nm) (by rw[iA];lia);have nm2:2*ts.length+1∉row (os.set a (L2.aU (row os a) i (!2))) b:=λz=>by have:=(g2.ends b _ z).1;lia
 have g3:=g2.add (a:=b) (by rw[ZR];exact hb) (gS ts _) (l:=L2.aU (row (os.set a (L2.aU (row os a) i (!2))) b) j (!51)) (λx=>h7) (fL (g2.nd b) nm2) (by rw[iA];lia);refine⟨?_,by rw[Zm];simp⟩;rw[Zm];exact g3
theorem yF{f:Nat->Nat}{N:Nat}(m:b7 f N)(h:0<N):0<(aS f N).length:=by
 unfold aS;cases N with
 |zero=>lia
 |succ N =>
  have e:ZS (N+1)=0::(ZS N).map Nat.succ:=List.range_succ_eq_map;have hl:∀x∈ZS (N+1),x<N+1:=λx hx=>Zs.mp hx;rw[e]at hl ⊢;rw[j3 m hl];simp
theorem pK{f:Nat->Nat}{N:Nat}(m:b7 f N){d:List Nat}(h:d∈aS f N):0<d.length/\∀x∈d,x<N:=by
 obtain⟨e,he,rfl⟩:=mM m _ _ (ZC _) (λx hx=>Zs.mp hx) d h;have heN:=Zs.mp he;exact⟨(sR m heN).1,fR m heN⟩
end MM
namespace L2
open PySem PyProof.Rows
theorem gN.other{H:Hp}{a x:Addr}{ts:MM.aP}{zs:List V}(h:gN H a ts)(hx:H x=some (.lst zs))(ne:x≠a)(o:HO):gN (upd H x o) a ts:=by
 sleep 7;refine(aM tr (by rw[aH (Yh ne)];exact h1) h2 (λi t ht=>?_));obtain⟨r,q1,q2⟩:=h3 i t ht;exact(xWP r q1 (by rw[aH (b8 q2 hx (λz=>nomatch z))];exact q2))
theorem gN.push{H:Hp}{a r:Addr}{ts:MM.aP}{xs:List V}{t:Nat×Nat}(h:gN H a ts)(hx:H a=some (.lst xs))(hr:H r=some (.tup [vn t.1,vn t.2])):gN (upd H a (.lst (xs++[.ref r]))) a (ts++[t]):=by
 sleep 7;have ex:xs=tr.map V.ref:=by rw[hx]at h1;cases h1;rfl
 subst ex;refine(aM (tr++[r]) (by rw[aB,Zt];rfl) (by rw[Zm,Zm,h2];rfl) (λi u hu=>?_));rcases Xk i ts.length with q | q
 ·rw[Zx q]at hu;obtain⟨y,q1,q2⟩:=h3 i u hu;exact(xWP y (by rw[Zx (by rw[h2];exact q)];exact q1) (by rw[aH (b8 q2 hx (λz=>nomatch z))];exact q2))
 ·have hi:i=ts.length:=by
   obtain⟨z,_⟩:=Zj.mp hu;rw[Zm]at z;simp at z
   lia
  subst hi;rw[Yx]at hu;cases hu;exact(xWP r (by rw[<-h2,Yx]) (by rw[aH (b8 hr hx (λz=>nomatch z))];exact hr))
theorem cE.set{H0 H:Hp}{o x:Addr}{rr:List Addr}{os:MM.aN}(n:cE H0 H o rr os){p:Nat}{l:List Nat}(hx:rr[p]?=some x):cE H0 (upd H x (.lst (vns l))) o rr (os.set p l) where
 at_:=by rw[aH (show o≠x from λz=>n.nin (z▸Zg hx))];exact n.at_
 len:=by rw[ZR];exact n.len
 row:=λi m h=>by
  by_cases e:p=i
  ·subst e;have hp:p<os.length:=by rw[<-n.len];exact(Zj.mp hx).1
   rw[ZL hp]at h;cases h;exact(xWP x hx aB)
  ·rw[ZK e]at h;obtain⟨y,h1,h2⟩:=n.row i m h;refine(xWP y h1 ?_);have ne:y≠x:=by
    rintro rfl;obtain⟨a1,b1⟩:=Zj.mp h1;obtain⟨a2,b2⟩:=Zj.mp hx;exact e ((List.getElem_inj n.nd).mp (b2.trans b1.symm))
   rw[aH ne];exact h2
 nd:=n.nd
 nin:=n.nin
 new:=n.new
 news:=n.news
theorem cE.item{H0 H:Hp}{o:Addr}{rr:List Addr}{os:MM.aN}(n:cE H0 H o rr os){p:Nat}(hp:p<os.length):∃x,rr[p]?=some x/\x∈rr/\H x=some (.lst (vns (MM.row os p)))/\atI (rr.map V.ref) (p:Int)=some (.ref x):=by
 obtain⟨x,h1,h2⟩:=n.row p os[p] (Zz hp);refine(cC x h1 (Zg h1) ?_ (dA (by rw[Zk,h1];rfl)));unfold MM.row;simp only[List.getD,Zz hp,YR];exact h2
structure nV(H0 H:Hp)(a o:Addr)(rr:List Addr)(ts:MM.aP)(os:MM.aN):Prop where
 ts:gN H a ts
 os:cE H0 H o rr os
 an:H0 a=none
 ao:a≠o
 ar:a∉rr
theorem nV.keep{H0 H H':Hp}{a o:Addr}{rr:List Addr}{ts:MM.aP}{os:MM.aN}(m:nV H0 H a o rr ts os)(g:aK H H'):nV H0 H' a o rr ts os:=⟨g.ts m.ts,m.os.keep λb u _ h=>g _ _ h,m.an,m.ao,m.ar⟩
end L2
namespace MM
structure pT(f:Nat->Nat)(l R:List Nat):Prop where
 nd:R.Nodup
 of:∀r∈R,r∈l
 all:∀x∈l,∃r∈R,x∈aL f r
 sep:∀r∈R,∀r'∈R,r'∈aL f r->r=r'
theorem xJ(f:Nat->Nat):∃R,pT f [] R/\R.length=(lf f []).length:=by
 refine(xWP ([]) ⟨List.nodup_nil,?_,?_,?_⟩ rfl)<;>· intro r h;cases h
theorem vY{f:Nat->Nat}{N:Nat}(m:b7 f N):∀(n:Nat) (l:List Nat),l.length<=n->(∀x∈l,x<N)->∃R,pT f l R/\R.length=(lf f l).length
 |0,l,h,_=>by
  have e:l=[]:=Yd.mp (by lia);subst e;exact xJ f
 |n+1,[],_,_=>xJ f
 |n+1,e::r,h,hl=>by
  have he:=hl e Zd;have s:=cU m he r;simp only[Yq]at h;obtain⟨R,q,ql⟩:=vY m n ((e::r).filter λx=>decide (x∉aL f e)) (by lia) (λx hx=>hl x (Yz.mp hx).1);have out:∀x∈R,x∈e::r/\x∉aL f e:=λx hx=>by
   have:=Yz.mp (q.of x hx);exact⟨this.1,by simpa using this.2⟩
  refine(xWP (e::R) ⟨?_,?_,?_,?_⟩ (by rw[j3 m hl,Yq,Yq,ql]))
  ·exact List.nodup_cons.mpr ⟨λz=>(out e z).2 (eG m he),q.nd⟩
  ·intro x hx;rcases Zn.mp hx with rfl | hx
   ·exact Zd
   ·exact(out x hx).1
  ·intro x hx;by_cases z:x∈aL f e
   ·exact(xWP e Zd z)
   ·obtain⟨y,y1,y2⟩:=q.all x (Yz.mpr ⟨hx,by simpa using z⟩);exact(xWP y (Zw _ y1) y2)
  ·intro x hx y hy z;rcases Zn.mp hx with h1 | h1<;>rcases Zn.mp hy with h2 | h2
   ·rw[h1,h2]
   ·rw[h1]at z;exact Yg z (out y h2).2
   ·rw[h2]at z;exact Yg (gC m (hl x (out x h1).1) z) (out x h1).2
   ·exact q.sep x h1 y h2 z
theorem CC{f:Nat->Nat}{N:Nat}(m:b7 f N){R S:List Nat}(a:pT f (ZS N) R)(b:pT f (ZS N) S):R.length<=S.length:=by
 have lt:∀r∈R,r<N:=λr h=>Zs.mp (a.of r h);have hg:∀r:Nat,∃s,r∈R->s∈S/\r∈aL f s:=λr=>by
  by_cases h:r∈R
  ·obtain⟨s,h1,h2⟩:=b.all r (a.of r h);exact⟨s,λ_=>⟨h1,h2⟩⟩
  ·exact⟨0,λz=>Yg z h⟩
 obtain⟨g,hg⟩:=Classical.axiomOfChoice hg;have nd:(R.map λr=>S.idxOf (g r)).Nodup:=by
  refine List.Pairwise.map (R:=λx y=>x∈R/\y∈R/\x≠y) _ ?_ ?_
  ·rintro x y ⟨hx,hy,hne⟩ z;have e:g x=g y:=by
    have h1:=List.getElem_idxOf (List.idxOf_lt_length_iff.mpr (hg x hx).1);have h2:=List.getElem_idxOf (List.idxOf_lt_length_iff.mpr (hg y hy).1);rw[<-h1,<-h2];congr 1
   have hs:=Zs.mp (b.of _ (hg x hx).1);have h3:=(hg y hy).2;rw[<-e]at h3;exact hne (a.sep x hx y hy (eV m (lt x hx) (gC m hs (hg x hx).2) h3))
  ·have:=a.nd;rw[List.nodup_iff_pairwise_ne]at this;exact List.Pairwise.imp_of_mem (λhx hy h=>(xPP hx hy h)) this
 have:=fJ S.length _ nd (λx hx=>by
  obtain⟨r,hr,rfl⟩:=Zh.mp hx;exact List.idxOf_lt_length_iff.mpr (hg r hr).1)
 rwa [Zq]at this
theorem gM{f:Nat->Nat}{N:Nat}(m:b7 f N){R:List Nat}(a:pT f (ZS N) R):(aS f N).length=R.length:=by
 obtain⟨S,b,l⟩:=vY m _ (ZS N) (ZC _) (λx hx=>Zs.mp hx);have h1:=CC m a b;have h2:=CC m b a;show(lf f (ZS N)).length=_
 lia
theorem vP{f:Nat->Nat}{N:Nat}(m:b7 f N):∃R,pT f (ZS N) R/\R.length=(aS f N).length:=vY m _ (ZS N) (ZC _) (λx hx=>Zs.mp hx)
theorem tO{f g:Nat->Nat}{N:Nat}(m:b7 f N)(k:b7 g N){φ:Nat->Nat}(hφ:b7 φ N)(h:∀x,x<N->g (φ x)=φ (f x)):(aS g N).length=(aS f N).length:=by
 obtain⟨R,q,l⟩:=vP m;have it:∀n x,x<N->iter g n (φ x)=φ (iter f n x):=by
  intro n;induction n with
  |zero=>intro x _;rfl
  |succ n ih=>intro x hx;show g (iter g n (φ x))=φ (f (iter f n x));rw[ih x hx,h _ (cF m hx n)]
 have sur:∀y,y<N->∃x,x<N/\φ x=y:=λy hy=>by
  obtain⟨n,h0,_,hn⟩:=iX hφ hy;refine(xWP (iter φ (n-1) y) (cF hφ hy _) ?_);have e:n=(n-1)+1:=by lia
  rw[e]at hn;exact hn
 have lt:∀r∈R,r<N:=λr h=>Zs.mp (q.of r h);have a:pT g (ZS N) (R.map φ):=by
  refine⟨?_,?_,?_,?_⟩
  ·refine List.Pairwise.map (R:=λx y=>x∈R/\y∈R/\x≠y) _ ?_ ?_
   ·rintro x y ⟨hx,hy,hne⟩ z;exact hne (hφ.inj _ _ (lt x hx) (lt y hy) z)
   ·have:=q.nd;rw[List.nodup_iff_pairwise_ne]at this;exact List.Pairwise.imp_of_mem (λhx hy h=>(xPP hx hy h)) this
  ·intro r hr;obtain⟨x,hx,rfl⟩:=Zh.mp hr;exact Zs.mpr (hφ.lt _ (lt x hx))
  ·intro y hy;obtain⟨x,hx,rfl⟩:=sur y (Zs.mp hy);obtain⟨r,r1,r2⟩:=q.all x (Zs.mpr hx);obtain⟨n,rfl⟩:=(bH m (lt r r1)).mp r2;exact(xWP (φ r) (Zh.mpr (xWP r r1 rfl)) ((bH k (hφ.lt _ (lt r r1))).mpr ⟨n,it n r (lt r r1)⟩))
  ·intro r hr r' hr' z;obtain⟨x,hx,rfl⟩:=Zh.mp hr;obtain⟨y,hy,rfl⟩:=Zh.mp hr';obtain⟨n,hn⟩:=(bH k (hφ.lt _ (lt x hx))).mp z;rw[it n x (lt x hx)]at hn;have e:=hφ.inj _ _ (cF m (lt x hx) n) (lt y hy) hn;rw[q.sep x hx y hy ((bH m (lt x hx)).mpr ⟨n,e⟩)]
 rw[gM k a,Zq,l]
theorem wB{f:Nat->Nat}{N:Nat}(m:b7 f N){S:Nat->Prop}(h:∀x,x<N->S x->S (f x)){x:Nat}(hx:x<N)(sx:S x):∀y∈aL f x,S y:=by
 intro y hy;obtain⟨n,rfl⟩:=(bH m hx).mp hy;clear hy;induction n with
 |zero=>exact sx
 |succ n ih=>exact h _ (cF m hx n) ih
theorem sT{f g:Nat->Nat}{x:Nat}:∀n,(∀i,i<n->g (iter f i x)=f (iter f i x))->iter g n x=iter f n x
 |0,_=>rfl
 |n+1,h=>by show g (iter g n x)=f (iter f n x);rw[sT n (λi hi=>h i (by lia)),h n (by lia)]
theorem rR{f:Nat->Nat}{N:Nat}(m:b7 f N){e k:Nat}(he:e<N)(r:lZ f e k){i j:Nat}(hi:i<k)(hj:j<k)(h:iter f i e=iter f j e):i=j:=by
 rcases Nat.lt_trichotomy i j with q | q | q
 ·have e1:iter f i e=iter f i (iter f (j-i) e):=by rw[<-gK,Nat.sub_add_cancel (YX q)];exact h
  exact Yg (nJ m he (cF m he _) i e1).symm (r.2.2 (j-i) (by lia) (by lia))
 ·exact q
 ·have e1:iter f j e=iter f j (iter f (i-j) e):=by rw[<-gK,Nat.sub_add_cancel (YX q)];exact h.symm
  exact Yg (nJ m he (cF m he _) j e1).symm (r.2.2 (i-j) (by lia) (by lia))
theorem uF{f:Nat->Nat}{N:Nat}(m:b7 f N){R:List Nat}(q:pT f (ZS N) R){u:Nat}(hu:u<N):∃S:List Nat,S.length+1=R.length/\S.Nodup/\(∀s∈S,s<N/\s∉aL f u)/\(∀x,x<N->x∉aL f u->∃s∈S,x∈aL f s)/\(∀r∈S,∀r'∈S,r'∈aL f r->r=r'):=by
 obtain⟨r0,h1,h2⟩:=q.all u (Zs.mpr hu);have lt:∀r∈R,r<N:=λr h=>Zs.mp (q.of r h);have h0:0<R.length:=List.length_pos_of_mem h1;refine(gO (R.erase r0) ?_ (q.nd.erase _) ?_ ?_ ?_)
 ·rw[List.length_erase_of_mem h1];lia
 ·intro s hs;have:=(q.nd.mem_erase_iff).mp hs;refine⟨lt s this.2,λz=>this.1 ?_⟩;exact(q.sep r0 h1 s this.2 (eV m (lt r0 h1) h2 z)).symm
 ·intro x hx z;obtain⟨s,s1,s2⟩:=q.all x (Zs.mpr hx);refine(xWP s ((q.nd.mem_erase_iff).mpr ⟨λe=>z ?_,s1⟩) s2);rw[e]at s2;exact eV m hu (gC m (lt r0 h1) h2) s2
 ·intro r hr r' hr' z;exact q.sep r (List.mem_of_mem_erase hr) r' (List.mem_of_mem_erase hr') z
theorem gF{f g:Nat->Nat}{N M:Nat}(m:b7 f N)(k:b7 g M)(hNM:N<=M){u:Nat}(hu:u<N)(same:∀x,x<N->x∉aL f u->g x=f x){s:Nat}(hs:s<N)(hsu:s∉aL f u)(y:Nat):y∈aL g s↔y∈aL f s:=by
 have off:∀i,iter f i s∉aL f u:=λi z=>hsu (eV m hu z (gC m hs ((bH m hs).mpr ⟨i,rfl⟩)));have it:∀n,iter g n s=iter f n s:=λn=>sT n λi _=>same _ (cF m hs i) (off i);rw[bH k (by lia),bH m hs];exact⟨λ⟨n,h⟩=>⟨n,by rw[<-it];exact h⟩,λ⟨n,h⟩=>⟨n,by rw[it];exact h⟩⟩
structure Put(f g:Nat->Nat)(N u j:Nat):Prop where
 j0:0<j
 jk:j<=per f u
 same:∀x,x<N->x≠u->x≠iter f j u->g x=f x
 v:g (iter f j u)=N+1
 n1:g (N+1)=f u
 n0:j<per f u->g N=f (iter f j u)/\g u=N
 n0':j=per f u->g N=N
theorem LG{f g:Nat->Nat}{N u j:Nat}(m:b7 f N)(k:b7 g (N+2))(hu:u<N)(p:Put f g N u j):(aS g (N+2)).length=(aS f N).length+1:=by
 obtain⟨R,q,ql⟩:=vP m;obtain⟨S,l,nd,out,all,sep⟩:=uF m q hu;obtain⟨r,hk⟩:=cZ m hu;generalize hP:per f u=P at r hk p;have j0:=p.j0;have jk:j<=P:=by have:=p.jk;lia
 have off:∀x,x<N->x∉aL f u->x≠u/\x≠iter f j u:=λx hx z=>⟨λe=>z (by rw[e];exact eG m hu),λe=>z (by rw[e];exact(bH m hu).mpr ⟨j,rfl⟩)⟩
 have same:∀x,x<N->x∉aL f u->g x=f x:=λx hx z=>p.same x hx (off x hx z).1 (off x hx z).2;have inO:∀x,x∈aL f u->∃i,0<i/\i<=P/\iter f i u=x:=λx hx=>by
  unfold aL at hx;rw[hP]at hx;obtain⟨i,h1,h2⟩:=jI.mp hx;sleep 15
  ·subst z;exact(aM P r.1 (ZC _) (r.2.1.trans h2))
  ·exact(aM i z (by lia) h2)
 have A:∀i,0<i->i<=j->iter g i (N+1)=iter f i u:=by
  intro i h0;induction i with
  |zero=>lia
  |succ i ih =>
   intro h1;sleep 15
   ·subst z;exact p.n1
   ·show g (iter g i (N+1))=f (iter f i u);rw[ih z (by lia)];refine p.same _ (cF m hu i) (λe=>?_) (λe=>?_)
    ·exact r.2.2 i z (by lia) e
    ·rcases Xk j P with c | c
     ·have:=rR m hu r (by lia) c e;lia
     ·have:j=P:=by lia
      rw[this,r.2.1]at e;exact r.2.2 i z (by lia) e
 have B:j<P->∀i,0<i->i<=P-j->iter g i N=iter f (j+i) u:=by
  intro hj i h0;induction i with
  |zero=>lia
  |succ i ih =>
   intro h1;sleep 15
   ·subst z;exact(p.n0 (by lia)).1
   ·show g (iter g i N)=f (iter f (j+i) u);rw[ih z (by lia)];refine p.same _ (cF m hu _) (λe=>?_) (λe=>?_)
    ·exact r.2.2 (j+i) (by lia) (by lia) e
    ·have:=rR m hu r (by lia) hj e;lia
 have a:pT g (ZS (N+2)) (S++[N,N+1]):=by
  have cA:∀y∈aL g (N+1),y=N+1\/∃i,0<i/\i<=j/\iter f i u=y:=wB k (S:=λy=>y=N+1\/∃i,0<i/\i<=j/\iter f i u=y) (λx hx h=>by
   rcases h with rfl | ⟨i,h0,h1,rfl⟩
   ·exact .inr (aM 1 (by lia) j0 p.n1.symm)
   ·rcases Xk i j with c | c
    ·refine .inr (aM (i+1) (by lia) c ?_);have e1:=A i h0 h1;have e2:=A (i+1) (by lia) c;rw[<-e2,<-e1];rfl
    ·have e:i=j:=by lia
     rw[e];exact .inl p.v) (by lia) (.inl rfl)
  have cB:∀y∈aL g N,y=N\/∃i,j<i/\i<=P/\iter f i u=y:=wB k (S:=λy=>y=N\/∃i,j<i/\i<=P/\iter f i u=y) (λx hx h=>by
   rcases Xk j P with c | c
   ·rcases h with rfl | ⟨i,h0,h1,rfl⟩
    ·exact .inr (aM (j+1) (by lia) c ((p.n0 (by lia)).1.symm))
    ·rcases Xk i P with d | d
     ·refine .inr (aM (i+1) (by lia) d ?_);have e1:=B c (i-j) (by lia) (by lia);have e2:=B c (i-j+1) (by lia) (by lia);rw[show j+(i-j)=i by lia]at e1;rw[show j+(i-j+1)=i+1 by lia]at e2;rw[<-e2,<-e1];rfl
     ·have e:i=P:=by lia
      rw[e,r.2.1];exact .inl (p.n0 (by lia)).2
   ·rcases h with rfl | ⟨i,h0,h1,rfl⟩
    ·exact .inl (p.n0' (by lia))
    ·lia) (by lia) (.inl rfl)
  refine⟨?_,?_,?_,?_⟩
  ·rw[List.nodup_append];refine(xPP nd (!5) (λx hx y hy e=>?_));have:=(out x hx).1;simp only[Zn,ZM,or_false]at hy
   lia
  ·intro x hx;rw[Zs];rcases Zf.mp hx with h | h
   ·have:=(out x h).1;lia
   ·simp only[Zn,ZM,or_false]at h;lia
  ·intro x hx;have hx:=Zs.mp hx;rcases Xk x N with c | c
   ·by_cases z:x∈aL f u
    ·obtain⟨i,h0,h1,rfl⟩:=inO x z;rcases Xk j i with d | d
     ·refine(xWP N (!5) ((bH k (by lia)).mpr ⟨i-j,?_⟩));rw[B (by lia) (i-j) (by lia) (by lia),show j+(i-j)=i by lia]
     ·exact(xWP (N+1) (!5) ((bH k (by lia)).mpr ⟨i,A i h0 d⟩))
    ·obtain⟨s,s1,s2⟩:=all x c z;exact(xWP s (ZP _ s1) ((gF m k (by lia) hu same (out s s1).1 (out s s1).2 x).mpr s2))
   ·rcases Xk N x with d | d
    ·have e:x=N+1:=by lia
     subst e;exact(xWP (N+1) (!5) (eG k (by lia)))
    ·have e:x=N:=by lia
     subst e;exact(xWP x (!5) (eG k (by lia)))
  ·intro x hx y hy z;have hin:∀i,iter f i u∈aL f u:=λi=>(bH m hu).mpr ⟨i,rfl⟩;have hlt:∀i,iter f i u<N:=λi=>cF m hu i;rcases Zf.mp hx with h1 | h1<;>rcases Zf.mp hy with h2 | h2
   ·exact sep x h1 y h2 ((gF m k (by lia) hu same (out x h1).1 (out x h1).2 y).mp z)
   ·have:=fR m (out x h1).1 y ((gF m k (by lia) hu same (out x h1).1 (out x h1).2 y).mp z);simp only[Zn,ZM,or_false]at h2
    lia
   ·have hy1:=(out y h2).1;simp only[Zn,ZM,or_false]at h1;rcases h1 with rfl | rfl
    ·rcases cB y z with e | ⟨i,_,_,e⟩
     ·lia
     ·exact Yg (e▸hin i) (out y h2).2
    ·rcases cA y z with e | ⟨i,_,_,e⟩
     ·lia
     ·exact Yg (e▸hin i) (out y h2).2
   ·simp only[Zn,ZM,or_false]at h1 h2;rcases h1 with rfl | rfl<;>rcases h2 with rfl | rfl
    ·rfl
    ·rcases cB _ z with e | ⟨i,_,_,e⟩
     ·lia
     ·have:=hlt i;lia
    ·rcases cA _ z with e | ⟨i,_,_,e⟩
     ·lia
     ·have:=hlt i;lia
    ·rfl
 rw[gM k a,Zm,<-ql];show S.length+2=_
 lia
structure SL(f g:Nat->Nat)(N u:Nat):Prop where
 same:∀x,x<N->x≠u->g x=f x
 at_:g u=N
 n:g N=N+1
 n1:g (N+1)=f u
theorem D9{f g:Nat->Nat}{N u:Nat}(m:b7 f N)(k:b7 g (N+2))(hu:u<N)(p:SL f g N u):(aS g (N+2)).length=(aS f N).length:=by
 obtain⟨R,q,ql⟩:=vP m;obtain⟨S,l,nd,out,all,sep⟩:=uF m q hu;obtain⟨r,hk⟩:=cZ m hu;generalize hP:per f u=P at r hk;have off:∀x,x<N->x∉aL f u->x≠u:=λx hx z e=>z (by rw[e];exact eG m hu);have same:∀x,x<N->x∉aL f u->g x=f x:=λx hx z=>p.same x hx (off x hx z);have inO:∀x,x∈aL f u->∃i,0<i/\i<=P/\iter f i u=x:=λx hx=>by
  unfold aL at hx;rw[hP]at hx;obtain⟨i,h1,h2⟩:=jI.mp hx;sleep 15
  ·subst z;exact(aM P r.1 (ZC _) (r.2.1.trans h2))
  ·exact(aM i z (by lia) h2)
 have A:∀i,0<i->i<=P->iter g (i+1) N=iter f i u:=by
  intro i h0;induction i with
  |zero=>lia
  |succ i ih =>
   intro h1;sleep 15
   ·subst z;show g (g N)=f u;rw[p.n,p.n1]
   ·show g (iter g (i+1) N)=f (iter f i u);rw[ih z (by lia)];exact p.same _ (cF m hu i) (λe=>r.2.2 i z (by lia) e)
 have a:pT g (ZS (N+2)) (S++[N]):=by
  have cA:∀y∈aL g N,y=N\/y=N+1\/∃i,0<i/\i<=P/\iter f i u=y:=wB k (S:=λy=>y=N\/y=N+1\/∃i,0<i/\i<=P/\iter f i u=y) (λx hx h=>by
   rcases h with rfl | rfl | ⟨i,h0,h1,rfl⟩
   ·exact .inr (.inl p.n)
   ·exact .inr (.inr (aM 1 (by lia) r.1 p.n1.symm))
   ·rcases Xk i P with c | c
    ·refine .inr (.inr (aM (i+1) (by lia) c ?_));have e1:=A i h0 h1;have e2:=A (i+1) (by lia) c;rw[<-e2,<-e1];rfl
    ·have e:i=P:=by lia
     rw[e,r.2.1];exact .inl p.at_) (by lia) (.inl rfl)
  refine⟨?_,?_,?_,?_⟩
  ·rw[List.nodup_append];refine(xPP nd (!5) (λx hx y hy e=>?_));have:=(out x hx).1;simp only[Zn,ZM,or_false]at hy
   lia
  ·intro x hx;rw[Zs];rcases Zf.mp hx with h | h
   ·have:=(out x h).1;lia
   ·simp only[Zn,ZM,or_false]at h;lia
  ·intro x hx;have hx:=Zs.mp hx;rcases Xk x N with c | c
   ·by_cases z:x∈aL f u
    ·obtain⟨i,h0,h1,rfl⟩:=inO x z;exact(xWP N (!5) ((bH k (by lia)).mpr ⟨i+1,A i h0 h1⟩))
    ·obtain⟨s,s1,s2⟩:=all x c z;exact(xWP s (ZP _ s1) ((gF m k (by lia) hu same (out s s1).1 (out s s1).2 x).mpr s2))
   ·rcases Xk N x with d | d
    ·have e:x=N+1:=by lia
     subst e;exact(xWP N (!5) ((bH k (by lia)).mpr ⟨1,p.n⟩))
    ·have e:x=N:=by lia
     subst e;exact(xWP x (!5) (eG k (by lia)))
  ·intro x hx y hy z;have hin:∀i,iter f i u∈aL f u:=λi=>(bH m hu).mpr ⟨i,rfl⟩;rcases Zf.mp hx with h1 | h1<;>rcases Zf.mp hy with h2 | h2
   ·exact sep x h1 y h2 ((gF m k (by lia) hu same (out x h1).1 (out x h1).2 y).mp z)
   ·have:=fR m (out x h1).1 y ((gF m k (by lia) hu same (out x h1).1 (out x h1).2 y).mp z);simp only[Zn,ZM,or_false]at h2
    lia
   ·have hy1:=(out y h2).1;simp only[Zn,ZM,or_false]at h1;subst h1;rcases cA y z with e | e | ⟨i,_,_,e⟩
    ·lia
    ·lia
    ·exact Yg (e▸hin i) (out y h2).2
   ·simp only[Zn,ZM,or_false]at h1 h2
    lia
 rw[gM k a,Zm,<-ql];show S.length+1=_
 lia
def Cn(f:Nat->Nat)(N:Nat):Prop:=∀S:Nat->Prop,(∀x,x<N->S x->S (f x))->(∀x,x<N->S x->S (oth x))->∀x y,x<N->y<N->S x->S y
def iN(ts:aP)(os:aN):Prop:=Cn (behind ts os) (!2)
theorem O3(n:Nat):oth (2*n)=2*n+1:=by unfold oth;rw[Yb (by lia)]
theorem RM(n:Nat):oth (2*n+1)=2*n:=by unfold oth;rw[Ya (by lia)];lia
theorem C7{f g:Nat->Nat}{T:Nat}(c:Cn f (2*T))(h:∀S:Nat->Prop,(∀x,x<2*T+2->S x->S (g x))->(∀x,x<2*T+2->S x->S (oth x))->(∀x,x<2*T->S x->S (f x))/\(S (2*T+1)->∃z,z<2*T/\S z)/\((∀y,y<2*T->S y)->S (2*T+1))):Cn g (2*T+2):=by
 intro S h1 h2 x y hx hy sx;obtain⟨a,b,d⟩:=h S h1 h2;have up:S (2*T)->S (2*T+1):=λs=>by have:=h2 _ (by lia) s;rwa [O3]at this
 have dn:S (2*T+1)->S (2*T):=λs=>by have:=h2 _ (by lia) s;rwa [RM]at this
 have old:∃z,z<2*T/\S z:=by
  rcases Xk x (2*T) with h | h
  ·exact(xWP x h sx)
  ·have:x=2*T\/x=2*T+1:=by lia
   rcases this with rfl | rfl
   ·exact b (up sx)
   ·exact b sx
 obtain⟨z,hz,sz⟩:=old;have all:∀y,y<2*T->S y:=λy hy=>c S a (λx hx s=>h2 x (by lia) s) z y hz hy sz;have s1:=d all;rcases Xk y (2*T) with h | h
 ·exact all y h
 ·have:y=2*T\/y=2*T+1:=by lia
  rcases this with rfl | rfl
  ·exact dn s1
  ·exact s1
theorem EY{f g:Nat->Nat}{T u:Nat}(m:b7 f (2*T))(k:b7 g (2*T+2))(hu:u<2*T)(p:SL f g (2*T) u):(aS g (2*T+2)).length=(aS f (2*T)).length/\(Cn f (2*T)->Cn g (2*T+2)):=by
 refine⟨D9 m k hu p,λc=>C7 c λS h1 h2=>?_⟩;have up:S (2*T)->S (2*T+1):=λs=>by have:=h2 _ (by lia) s;rwa [O3]at this
 have s1:S (2*T+1)->S (f u):=λs=>by have:=h1 _ (by lia) s;rwa [p.n1]at this
 have su:S u->S (2*T):=λs=>by have:=h1 u (by lia) s;rwa [p.at_]at this
 refine(xPP (λx hx s=>?_) (λs=>(xWP (f u) (m.lt u hu) (s1 s))) (λall=>up (su (all u hu))));by_cases q:x=u
 ·subst q;exact s1 (up (su s))
 ·rw[<-p.same x hx q];exact h1 x (by lia) s
theorem xM{f g:Nat->Nat}{T u j:Nat}(m:b7 f (2*T))(k:b7 g (2*T+2))(hu:u<2*T)(p:Put f g (2*T) u j):(aS g (2*T+2)).length=(aS f (2*T)).length+1/\(Cn f (2*T)->Cn g (2*T+2)):=by
 refine⟨LG m k hu p,λc=>C7 c λS h1 h2=>?_⟩;have hv:iter f j u<2*T:=cF m hu j;have up:S (2*T)->S (2*T+1):=λs=>by have:=h2 _ (by lia) s;rwa [O3]at this
 have dn:S (2*T+1)->S (2*T):=λs=>by have:=h2 _ (by lia) s;rwa [RM]at this
 have s1:S (2*T+1)->S (f u):=λs=>by have:=h1 _ (by lia) s;rwa [p.n1]at this
 have sv:S (iter f j u)->S (2*T+1):=λs=>by have:=h1 _ (by lia) s;rwa [p.v]at this
 have jk:=p.jk;refine(xPP (λx hx s=>?_) (λs=>(xWP (f u) (m.lt u hu) (s1 s))) (λall=>sv (all _ hv)));by_cases q2:x=iter f j u
 ·rcases Xk j (per f u) with z | z
  ·have:=h1 _ (by lia) (dn (sv (q2▸s)));rw[(p.n0 z).1]at this;rw[q2];sleep 19
  ·have e:j=per f u:=by lia
   have e2:iter f j u=u:=by rw[e];exact(cZ m hu).1.2.1
   rw[q2,e2];exact s1 (sv (q2▸s))
 ·by_cases q:x=u
  ·subst q;rcases Xk j (per f x) with z | z
   ·have:=h1 x (by lia) s;rw[(p.n0 z).2]at this;exact s1 (up this)
   ·have e:j=per f x:=by lia
    exact Yg (by rw[e];exact(cZ m hu).1.2.1.symm) q2
  ·rw[<-p.same x hx q q2];exact h1 x (by lia) s
theorem GT{f g:Nat->Nat}{N:Nat}(m:b7 f N)(k:b7 g N){φ:Nat->Nat}(hφ:b7 φ N)(ho:∀x,oth (φ x)=φ (oth x))(h:∀x,x<N->g (φ x)=φ (f x)):(aS g N).length=(aS f N).length/\(Cn f N->Cn g N):=by
 refine⟨tO m k hφ h,λc S h1 h2 x y hx hy sx=>?_⟩;have sj:∀{y:Nat},y<N->∃x,x<N/\φ x=y:=λ{y} hy=>by
  obtain⟨k,h0,_,h⟩:=iX hφ hy;refine(xWP (iter φ (k-1) y) (cF hφ hy _) ?_);have e:k=(k-1)+1:=by lia
  have:iter φ (k-1+1) y=y:=by rw[<-e];exact h
  sleep 19
 obtain⟨x',hx',rfl⟩:=sj hx;obtain⟨y',hy',rfl⟩:=sj hy;exact c (λz=>S (φ z)) (λz hz s=>by rw[<-h z hz];exact h1 _ (hφ.lt z hz) s) (λz hz s=>by rw[<-ho z];exact h2 _ (hφ.lt z hz) s) x' y' hx' hy' sx
theorem cY{l:List Nat}(nd:l.Nodup){k y:Nat}(h:l[k]?=some y):bZ l y=l.getD (if k=0 then l.length-1 else k-1) 0:=by
 obtain⟨hk,e⟩:=Zj.mp h;have hm:y∈l:=Zg h;have h1:=ZN hm;have e2:l[l.idxOf y]=l[k]:=(List.getElem_idxOf h1).trans e.symm;have e3:l.idxOf y=k:=(List.getElem_inj nd).mp e2;unfold bZ;rw[e3];congr 1;split
 ·rename_i z;subst z;rw[Nat.zero_add];exact Nat.mod_eq_of_lt (by omega)
 ·have:k+l.length-1=(k-1)+l.length:=by lia
  rw[this,Nat.add_mod_right];exact Nat.mod_eq_of_lt (by omega)
theorem nK{l:List Nat}{i M:Nat}(hi:i<=l.length)(k:Nat):(L2.aU l i M)[k]?=if k<i then l[k]? else if k=i then some M else l[k-1]?:=by
 unfold L2.aU;have hl:(l.take i).length=i:=by rw[Yw];lia
 split
 ·rename_i h
  rw[Zx (by lia),List.getElem?_take_of_lt h]
 ·rename_i h
  rw[Zy (by lia),hl];split
  ·rename_i z;subst z;simp
  ·rename_i z
   rw[show k-i=(k-i-1)+1 by lia,List.getElem?_cons_succ,List.getElem?_drop];congr 1
   lia
theorem G5{l:List Nat}(nd:l.Nodup){x M:Nat}(hx:x∈l)(hM:M∉l) :
  bZ (L2.aU l (l.idxOf x) M) M=bZ l x/\∀y∈l,bZ (L2.aU l (l.idxOf x) M) y=if y=x then M else bZ l y:=by
 have h1:=ZN hx;have gx:l[l.idxOf x]?=some x:=by rw[Zz h1,List.getElem_idxOf h1]
 generalize l.idxOf x=i at h1 gx;have nd':=fL nd (i:=i) hM;have len:=iA l i M;have G:=nK (l:=l) (i:=i) (M:=M) (by lia);constructor
 ·rw[cY nd' (k:=i) (y:=M) (by rw[G,Ya (by lia),Yb rfl]),cY nd gx,len];rw[Zv,Zv,G];by_cases z:i=0
  ·rw[Yb z,Yb z,Ya (by lia),Ya (by lia)];rfl
  ·rw[Ya z,Ya z,Yb (by lia)]
 ·intro y hy;obtain⟨k,hk,ek⟩:=Yy.mp hy;have gy:l[k]?=some y:=by rw[Zz hk,ek]
  by_cases hyx:y=x
  ·rw[Yb hyx,hyx,cY nd' (k:=i+1) (y:=x) (by rw[G,Ya (by lia),Ya (by lia)];exact gx),Ya (by lia),Zv,G,Ya (by lia),Yb (by lia)];rfl
  ·have hki:k≠i:=λz=>by subst z;rw[gx]at gy;cases gy;exact hyx rfl
   rw[Ya hyx,cY nd gy];rcases Xk k i with c | c
   ·rw[cY nd' (k:=k) (y:=y) (by rw[G,Yb c];exact gy),len,Zv,Zv,G];by_cases z:k=0
    ·rw[Yb z,Yb z,Ya (by lia),Ya (by lia)];rfl
    ·rw[Ya z,Ya z,Yb (by omega)]
   ·rw[cY nd' (k:=k+1) (y:=y) (by rw[G,Ya (by lia),Ya (by lia)];exact gy),Ya (by lia),Ya (by lia),Zv,Zv,G,Ya (by lia),Ya (by lia)];rfl
theorem gQ{os:aN}{a:Nat}(ha:a<os.length)(l:List Nat):row (os.set a l) a=l:=by
 unfold row;rw[Zv,ZL ha];rfl
theorem i7{os:aN}{a p:Nat}(h:a≠p)(l:List Nat):row (os.set a l) p=row os p:=by
 unfold row;rw[Zv,ZK h,<-Zv]
theorem rZ{os:aN}{a x M:Nat}(ha:a<os.length)(nd:(row os a).Nodup)(hx:x∈row os a)(hM:M∉row os a)(only:∀p,x∈row os p->p=a) :
  bZ (row (os.set a (L2.aU (row os a) ((row os a).idxOf x) M)) a) M=bZ (row os a) x /\
  ∀p y,y∈row os p->bZ (row (os.set a (L2.aU (row os a) ((row os a).idxOf x) M)) p) y=if y=x then M else bZ (row os p) y:=by
 obtain⟨h1,h2⟩:=G5 nd hx hM;refine⟨by rw[gQ ha];exact h1,λp y hy=>?_⟩;by_cases e:a=p
 ·subst e;rw[gQ ha];exact h2 y hy
 ·rw[i7 e,Ya];rintro rfl;exact e (only p hy).symm
theorem MG{os:aN}{a M i p y:Nat}(ha:a<os.length):y∈row (os.set a (L2.aU (row os a) i M)) p↔(y=M/\p=a)\/y∈row os p:=by
 by_cases e:a=p
 ·subst e;rw[gQ ha,h7];simp
 ·rw[i7 e];constructor
  ·exact .inr
  ·rintro(⟨_,h⟩ | h)
   ·exact Yg h.symm e
   ·exact h
theorem xR(n:Nat):oth (2*n)=2*n+1:=by unfold oth;rw[Yb (by lia)]
theorem CH(n:Nat):oth (2*n+1)=2*n:=by unfold oth;rw[Ya (by lia)];lia
noncomputable def dS(ts:aP)(os:aN):Nat:=(aS (behind ts os) (!2)).length
theorem sP{ts:aP}{os:aN}(g:Good ts os){u:Nat}(hu:u<2*ts.length)(h3:(row os (place ts (oth u))).length<4) :
  dS (ts++[(place ts (oth u),os.length)]) ((os.set (place ts (oth u)) (L2.aU (row os (place ts (oth u))) ((row os (place ts (oth u))).idxOf (oth u)) (!2)))++[[2*ts.length+1]])=dS ts os/\(iN ts os->iN (ts++[(place ts (oth u),os.length)]) ((os.set (place ts (oth u)) (L2.aU (row os (place ts (oth u))) ((row os (place ts (oth u))).idxOf (oth u)) (!2)))++[[2*ts.length+1]])):=by
 have ho:=aZ hu;obtain⟨ha,hin⟩:=g.g.has (oth u) ho;have good:=g.newPlace (i:=(row os (place ts (oth u))).idxOf (oth u)) ha h3;have m':=good.maps;unfold dS iN;rw[show 2*(ts++[(place ts (oth u),os.length)]).length=2*ts.length+2 by rw[Zm];rfl]at m' ⊢;generalize hA:place ts (oth u)=a at ha hin good m' ⊢;have nm:2*ts.length∉row os a:=λz=>by have:=(g.g.ends a _ z).1;lia
 obtain⟨p1,p2⟩:=rZ (M:=2*ts.length) ha (g.g.nd a) hin nm (λp hp=>by rw[<-(g.g.ends p _ hp).2,hA]);have rowOld:∀p,p<os.length->row ((!4)++[[2*ts.length+1]]) p=row (!4) p:=λp hp=>by
  unfold row;rw[Zv,Zx (by rw[ZR];exact hp),<-Zv]
 have rowNew:row ((!4)++[[2*ts.length+1]]) os.length=[2*ts.length+1]:=by
  unfold row;rw[Zv,Zy (by rw[ZR];exact ZC _),ZR,Nat.sub_self];rfl
 have old:∀e,e<2*ts.length->behind (ts++[(a,os.length)]) ((!4)++[[2*ts.length+1]]) e=if e=u then 2*ts.length else behind ts os e:=λe he=>by
  have q:=g.g.has (oth e) (aZ he);unfold behind;rw[lI (aZ he),rowOld _ q.1,p2 _ _ q.2];by_cases z:e=u
  ·rw[Yb z,z,Yb rfl]
  ·rw[Ya z,Ya (λh=>z (gU h))]
 refine EY g.maps m' hu ⟨λx hx hne=>by rw[old x hx,Ya hne],by rw[old u hu,Yb rfl],?_,?_⟩
 ·unfold behind;rw[xR,gS,rowNew];unfold bZ;simp
 ·unfold behind;rw[CH,iS,rowOld _ ha,p1];show bZ _ _=bZ (row os (place ts (oth u))) (oth u);rw[hA]
theorem v9{ts:aP}{os:aN}(g:Good ts os){u v:Nat}(hu:u<2*ts.length)(hv:v∈aL (behind ts os) u){a b:Nat}(ea:place ts (oth u)=a)(eb:place ts (oth v)=b)(h1:(row os a).length<4)
  (h2:(row (!4) b).length<4) :
  dS (ts++[(a,b)]) ((!4).set b (L2.aU (row (!4) b) ((row (!4) b).idxOf (oth v)) (!51)))=dS ts os+1/\(iN ts os->iN (ts++[(a,b)]) ((!4).set b (L2.aU (row (!4) b) ((row (!4) b).idxOf (oth v)) (!51)))):=by
 have m:=g.maps;have hvN:=fR m hu v hv;have ho:=aZ hu;have hov:=aZ hvN;obtain⟨ha,hin⟩:=g.g.has (oth u) ho;obtain⟨hb,hinv⟩:=g.g.has (oth v) hov;rw[ea]at ha hin;rw[eb]at hb hinv;have good:=g.newTie (i:=(row os a).idxOf (oth u)) (j:=(row (!4) b).idxOf (oth v)) ha hb h1 h2;have m':=good.maps;unfold dS iN;rw[show 2*(ts++[(a,b)]).length=2*ts.length+2 by rw[Zm];rfl]at m' ⊢;have nm:2*ts.length∉row os a:=λz=>by have:=(g.g.ends a _ z).1;lia
 obtain⟨p1,p2⟩:=rZ (M:=2*ts.length) ha (g.g.nd a) hin nm (λp hp=>by rw[<-(g.g.ends p _ hp).2,ea]);have mem1:∀p y,y∈row (!4) p↔(y=2*ts.length/\p=a)\/y∈row os p:=λp y=>MG ha;have g2:(row (!4) b).Nodup:=by
  by_cases e:a=b
  ·subst e;rw[gQ ha];exact fL (g.g.nd a) nm
  ·rw[i7 e];exact g.g.nd b
 have nm2:2*ts.length+1∉row (!4) b:=λz=>by
  rcases(mem1 _ _).mp z with⟨z,_⟩ | z
  ·lia
  ·have:=(g.g.ends b _ z).1;lia
 obtain⟨q1,q2⟩:=rZ (os:=os.set a (L2.aU (row os a) ((row os a).idxOf (oth u)) (!2))) (a:=b) (x:=oth v) (M:=2*ts.length+1) (by rw[ZR];exact hb) g2 ((mem1 _ _).mpr (.inr hinv)) nm2 (λp hp=>by
  rcases(mem1 _ _).mp hp with⟨z,_⟩ | z
  ·lia
  ·rw[<-(g.g.ends p _ z).2,eb])
 generalize hO1:os.set a (L2.aU (row os a) ((row os a).idxOf (oth u)) (!2))=os1 at p1 p2 mem1 q1 q2 good m' ⊢;generalize hO2:os1.set b (L2.aU (row os1 b) ((row os1 b).idxOf (oth v)) (!51))=os2 at q1 q2 good m' ⊢;have old:∀e,e<2*ts.length->behind (ts++[(a,b)]) os2 e=if e=v then 2*ts.length+1 else if e=u then 2*ts.length else behind ts os e:=λe he=>by
  have q:=g.g.has (oth e) (aZ he);unfold behind;rw[lI (aZ he),q2 _ _ ((mem1 _ _).mpr (.inr q.2)),p2 _ _ q.2];by_cases z:e=v
  ·rw[Yb z,z,Yb rfl]
  ·rw[Ya z,Ya (λh=>z (gU h))];by_cases z:e=u
   ·rw[Yb z,z,Yb rfl]
   ·rw[Ya z,Ya (λh=>z (gU h))]
 have atN:behind (ts++[(a,b)]) os2 (!2)=if v=u then 2*ts.length else behind ts os v:=by
  show bZ (row os2 (place (ts++[(a,b)]) (oth (!2)))) (oth (!2))=_;rw[xR,gS,q1,p2 _ _ hinv];by_cases z:v=u
  ·rw[Yb z,z,Yb rfl]
  ·rw[Ya z,Ya (λh=>z (gU h))];unfold behind;rw[eb]
 have atN1:behind (ts++[(a,b)]) os2 (!51)=behind ts os u:=by
  show bZ (row os2 (place (ts++[(a,b)]) (oth (!51)))) (oth (!51))=_;rw[CH,iS,q2 _ _ ((mem1 _ _).mpr (.inl ⟨rfl,rfl⟩)),Ya (by lia),p1];unfold behind;rw[ea]
 obtain⟨r,hk⟩:=cZ m hu;by_cases hvu:v=u
 ·have e:iter (behind ts os) (per (behind ts os) u) u=u:=r.2.1;refine xM (j:=per (behind ts os) u) m m' hu ⟨r.1,ZC _,λx hx z1 z2=>?_,?_,atN1,λh=>by lia,λ_=>by rw[atN,Yb hvu]⟩
  ·rw[e]at z2;rw[old x hx,Ya (by rw[hvu];exact z1),Ya z1]
  ·rw[e,old u hu,Yb hvu.symm]
 ·unfold aL at hv;obtain⟨j,hj,ej⟩:=jI.mp hv;have j0:0<j:=Nat.pos_of_ne_zero λz=>by subst z;exact hvu ej.symm
  refine xM (j:=j) m m' hu ⟨j0,by lia,λx hx z1 z2=>?_,?_,atN1,λh=>⟨?_,?_⟩,λh=>by lia⟩
  ·rw[ej]at z2;rw[old x hx,Ya z2,Ya z1]
  ·rw[ej,old v hvN,Yb rfl]
  ·rw[atN,Ya hvu,ej]
  ·rw[old u hu,Ya (Yh hvu),Yb rfl]
theorem DU{f:Nat->Nat}{N:Nat}(m:b7 f N){y:Nat}(hy:y<N):∃x,x<N/\f x=y:=by
 obtain⟨k,h0,_,h⟩:=iX m hy;refine(xWP (iter f (k-1) y) (cF m hy _) ?_);have e:k=(k-1)+1:=by lia
 rw[e]at h;exact h
theorem CM{l:List Nat}(nd:l.Nodup)(h:∀x∈l,x<l.length):b7 (λi=>l.getD i 0) l.length where
 lt:=λe he=>h _ (by simp only[List.getD,Zz he,YR];exact Zp he)
 inj:=λa b ha hb q=>by
  simp only[List.getD,Zz ha,Zz hb,YR]at q;exact(List.getElem_inj nd).mp q
def nmF(U F:Nat->Nat)(e:Nat):Nat:=2*U (e / 2)+(if e%2=0 then F (e / 2) else 1-F (e / 2))
theorem fQ(U F:Nat->Nat)(hF:∀k,F k<=1)(e:Nat):nmF U F e / 2=U (e / 2)/\nmF U F e%2=(if e%2=0 then F (e / 2) else 1-F (e / 2)):=by
 have h:(if e%2=0 then F (e / 2) else 1-F (e / 2))<2:=by
  split
  ·exact Nat.lt_succ_of_le (hF _)
  ·exact Nat.lt_succ_of_le (Nat.sub_le _ _)
 unfold nmF;rw[Nat.mul_add_div (Nat.zero_lt_succ 1),Nat.div_eq_of_lt h,Nat.mul_add_mod,Nat.mod_eq_of_lt h];exact⟨rfl,rfl⟩
theorem sI{U F:Nat->Nat}{T:Nat}(hU:b7 U T)(hF:∀k,F k<=1):b7 (nmF U F) (2*T) where
 lt:=λe he=>by
  have h1:=hU.lt (e / 2) (by lia);have h2:=(fQ U F hF e).1;rw[<-h2]at h1
  lia
 inj:=λa b ha hb h=>by
  have⟨a1,a2⟩:=fQ U F hF a;have⟨b1,b2⟩:=fQ U F hF b;rw[h]at a1 a2;have e:=hU.inj (a / 2) (b / 2) (by lia) (by lia) (a1.symm.trans b1);rw[b2,e]at a2;have hk:=hF (b / 2);refine sV e ?_;generalize F (b / 2)=f at a2 hk;rcases Nat.mod_two_eq_zero_or_one a with x | x<;>rcases Nat.mod_two_eq_zero_or_one b with y | y<;>rw[x,y]at a2 ⊢
  ·rw[Yb rfl,Ya (!1)]at a2;lia
  ·rw[Yb rfl,Ya (!1)]at a2;lia
theorem m9(ts:aP)(e:Nat):place ts e=if e%2=0 then (ts.getD (e / 2) (0,0)).1 else (ts.getD (e / 2) (0,0)).2:=rfl
theorem m5{ts told:aP}{os rows:aN}(g:Good ts os){U F Pl:Nat->Nat}(hU:b7 U ts.length)(hF:∀k,F k<=1)(hP:b7 Pl os.length)(ht:told.length=ts.length)(hr:rows.length=os.length)
  (hv:∀k,k<ts.length->told.getD (U k) (0,0)=if F k=0 then (Pl (ts.getD k (0,0)).1,Pl (ts.getD k (0,0)).2) else (Pl (ts.getD k (0,0)).2,Pl (ts.getD k (0,0)).1))
  (hw:∀p,p<os.length->∃l:List Nat,row rows (Pl p)=l.map (nmF U F)/\l.Perm (row os p)):Good told rows:=by
 have mN:=sI hU hF;have pl:∀e,e<2*ts.length->place told (nmF U F e)=Pl (place ts e):=λe he=>by
  have⟨h1,h2⟩:=fQ U F hF e;have hk:=hv (e / 2) (by lia);have hf:=hF (e / 2);rw[m9 told,m9 ts,h1,h2,hk];by_cases q:e%2=0
  ·by_cases z:F (e / 2)=0
   ·simp[q,z]
   ·have z1:F (e / 2)=1:=by lia
    simp[q,z1]
  ·by_cases z:F (e / 2)=0
   ·simp[q,z]
   ·have z1:F (e / 2)=1:=by lia
    simp[q,z1]
 have out:∀p,rows.length<=p->row rows p=[]:=λp hp=>by
  unfold row;simp[List.getD,Zr hp]
 refine⟨⟨λp e he=>?_,λe he=>?_,λp=>?_,λp hp=>?_,λp=>?_⟩,by rw[ht];exact g.one⟩
 ·rcases Xk p rows.length with hp | hp
  ·obtain⟨p0,hp0,rfl⟩:=DU hP (hr▸hp);obtain⟨l,h1,h2⟩:=hw p0 hp0;rw[h1]at he;obtain⟨x,hx,rfl⟩:=Zh.mp he;have q:=g.g.ends p0 x (h2.mem_iff.mp hx);rw[ht];exact⟨mN.lt x q.1,by rw[pl x q.1,q.2]⟩
  ·rw[out p hp]at he;cases he
 ·rw[ht]at he;obtain⟨x,hx,rfl⟩:=DU mN he;have q:=g.g.has x hx;rw[pl x hx,hr];refine⟨hP.lt _ q.1,?_⟩;obtain⟨l,h1,h2⟩:=hw _ q.1;rw[h1];exact Zh.mpr (xWP x (h2.mem_iff.mpr q.2) rfl)
 ·rcases Xk p rows.length with hp | hp
  ·obtain⟨p0,hp0,rfl⟩:=DU hP (hr▸hp);obtain⟨l,h1,h2⟩:=hw p0 hp0;rw[h1];have ndl:l.Nodup:=h2.nodup_iff.mpr (g.g.nd p0);have hl:∀x∈l,x<2*ts.length:=λx hx=>(g.g.ends p0 x (h2.mem_iff.mp hx)).1;clear h1 h2;induction l with
   |nil=>exact List.nodup_nil
   |cons a l ih =>
    rw[ZJ,List.nodup_cons];obtain⟨n1,n2⟩:=List.nodup_cons.mp ndl;refine⟨λz=>?_,ih n2 λx hx=>hl x (Zw _ hx)⟩;obtain⟨y,hy,e⟩:=Zh.mp z;have:=mN.inj y a (hl y (Zw _ hy)) (hl a Zd) e;subst this;exact n1 hy
  ·rw[out p hp];exact List.nodup_nil
 ·obtain⟨p0,hp0,rfl⟩:=DU hP (hr▸hp);obtain⟨l,h1,h2⟩:=hw p0 hp0;rw[h1];intro z;have:l=[]:=List.map_eq_nil_iff.mp z;subst this;exact g.g.full p0 hp0 (h2.symm.eq_nil)
 ·rcases Xk p rows.length with hp | hp
  ·obtain⟨p0,hp0,rfl⟩:=DU hP (hr▸hp);obtain⟨l,h1,h2⟩:=hw p0 hp0;rw[h1,Zq,h2.length_eq];exact g.g.four p0
  ·rw[out p hp];simp
def Rot(l m:List Nat):Prop:=∃k,l=m.drop k++m.take k
theorem Rot.perm{l m:List Nat}(h:Rot l m):l.Perm m:=by
 obtain⟨k,rfl⟩:=h;have:=(List.perm_append_comm:(m.drop k++m.take k).Perm (m.take k++m.drop k))
 rwa [List.take_append_drop]at this
theorem G3{a:Nat}{t:List Nat}(nd:(a::t).Nodup){x:Nat}(hx:x∈a::t):bZ (t++[a]) x=bZ (a::t) x:=by
 have nd2:(t++[a]).Nodup:=(List.perm_append_comm (l₁:=t) (l₂:=[a])).nodup_iff.mpr nd;rcases Zn.mp hx with rfl | hx
 ·cases t with
  |nil=>rfl
  |cons b t =>
   rw[cY (k:=0) nd rfl,cY (k:=(b::t).length) nd2 (by rw[Zy (ZC _),Nat.sub_self];rfl),Yb rfl,Ya (show ¬(b::t).length=0 from Nat.succ_ne_zero _)];show(b::t++[x]).getD t.length 0=(b::t).getD t.length 0;rw[Zv,Zv,Zx (Nat.lt_succ_self _)]
 ·obtain⟨i,hi,ei⟩:=Yy.mp hx;have gx:t[i]?=some x:=by rw[Zz hi,ei]
  have g1:(t++[a])[i]?=some x:=by rw[Zx hi];exact gx
  rw[cY nd2 g1,cY (k:=i+1) nd gx,Ya (Nat.succ_ne_zero i)];cases i with
  |zero =>
   rw[Yb rfl,Zm];show(t++[a]).getD t.length 0=a;rw[Zv,Zy (ZC _),Nat.sub_self];rfl
  |succ j =>
   rw[Ya (Nat.succ_ne_zero j)];show(t++[a]).getD j 0=t.getD j 0;rw[Zv,Zv,Zx (Nat.lt_of_succ_lt hi)]
theorem z9{l:List Nat}(nd:l.Nodup){x k:Nat}(hx:x∈l):bZ (l.drop k++l.take k) x=bZ l x:=by
 induction k with
 |zero=>rw[List.drop_zero,List.take_zero,List.append_nil]
 |succ k ih =>
  rw[<-ih];have pm:(l.drop k++l.take k).Perm l:=Rot.perm ⟨k,rfl⟩;rcases Xk k l.length with h | h
  ·have e:l.drop k=l[k]::l.drop (k+1):=List.drop_eq_getElem_cons h;have n2:=pm.nodup_iff.mpr nd;have m2:=pm.mem_iff.mpr hx;rw[e]at n2 m2;rw[List.take_succ_eq_append_getElem h,<-Yn,e];exact G3 n2 m2
  ·rw[List.drop_eq_nil_of_le h,List.take_of_length_le h,List.drop_eq_nil_of_le (Nat.le_succ_of_le h),List.take_of_length_le (Nat.le_succ_of_le h)]
theorem AB{l:List Nat}(nd:l.Nodup){φ:Nat->Nat}(nd':(l.map φ).Nodup){x:Nat}(hx:x∈l):bZ (l.map φ) (φ x)=φ (bZ l x):=by
 obtain⟨i,hi,ei⟩:=Yy.mp hx;have gx:l[i]?=some x:=by rw[Zz hi,ei]
 have gx':(l.map φ)[i]?=some (φ x):=by rw[Zk,gx];rfl
 rw[cY nd gx,cY nd' gx',Zq];generalize hj:(if i=0 then l.length-1 else i-1)=j;have hj':j<l.length:=by split at hj<;>omega
 rw[Zv,Zv,Zk,Zz hj'];rfl
theorem CL{U F:Nat->Nat}(hF:∀k,F k<=1)(e:Nat):oth (nmF U F e)=nmF U F (oth e):=by
 refine sV ?_ ?_
 ·rw[jH,(fQ U F hF e).1,(fQ U F hF (oth e)).1,jH]
 ·rw[nE,(fQ U F hF e).2,(fQ U F hF (oth e)).2,jH,nE];rcases Nat.mod_two_eq_zero_or_one e with z | z<;>rw[z]
  ·rfl
  ·exact Nat.sub_sub_self (hF _)
theorem tM{ts told:aP}{os rows:aN}(g:Good ts os){U F Pl:Nat->Nat}(hU:b7 U ts.length)(hF:∀k,F k<=1)(hP:b7 Pl os.length)(ht:told.length=ts.length)(hr:rows.length=os.length)
  (hv:∀k,k<ts.length->told.getD (U k) (0,0)=if F k=0 then (Pl (ts.getD k (0,0)).1,Pl (ts.getD k (0,0)).2) else (Pl (ts.getD k (0,0)).2,Pl (ts.getD k (0,0)).1))
  (hw:∀p,p<os.length->∃l:List Nat,row rows (Pl p)=l.map (nmF U F)/\Rot l (row os p)):dS told rows=dS ts os/\(iN ts os->iN told rows):=by
 have good:=m5 g hU hF hP ht hr hv λp hp=>by obtain⟨l,h1,h2⟩:=hw p hp;exact(xWP l h1 h2.perm)
 have mN:=sI hU hF;have pl:∀e,e<2*ts.length->place told (nmF U F e)=Pl (place ts e):=λe he=>by
  have⟨h1,h2⟩:=fQ U F hF e;have hk:=hv (e / 2) (by lia);have hf:=hF (e / 2);rw[m9 told,m9 ts,h1,h2,hk];by_cases q:e%2=0
  ·by_cases z:F (e / 2)=0
   ·simp[q,z]
   ·have z1:F (e / 2)=1:=by lia
    simp[q,z1]
  ·by_cases z:F (e / 2)=0
   ·simp[q,z]
   ·have z1:F (e / 2)=1:=by lia
    simp[q,z1]
 have m':=good.maps;unfold dS iN;rw[ht]at m' ⊢;refine GT g.maps m' mN (λe=>CL hF e) λe he=>?_;have ho:=aZ he;have q:=g.g.has (oth e) ho;obtain⟨l,h1,h2⟩:=hw _ q.1;unfold behind;rw[CL hF,pl _ ho,h1];have nd':=good.g.nd (Pl (place ts (oth e)));rw[h1]at nd';have pm:=h2.perm;rw[AB (pm.nodup_iff.mpr (g.g.nd _)) nd' (pm.mem_iff.mpr q.2)];obtain⟨k,rfl⟩:=h2;rw[z9 (g.g.nd _) q.2]
def QM(ts:aP)(os:aN)(ts':aP)(os':aN):Prop:=(ts'=ts/\os'=os)\/(ts'.length=ts.length+1/\((os'.length=os.length+1/\(dS ts' os'=dS ts os/\(iN ts os->iN ts' os')))\/(os'.length=os.length/\(dS ts' os'=dS ts os+1/\(iN ts os->iN ts' os')))))
def Flat(ts:aP)(os:aN):Prop:=os.length+dS ts os=ts.length+2
structure FC(ts:aP)(os:aN):Prop where
 flat:Flat ts os
 conn:iN ts os
theorem QM.fc{ts ts':aP}{os os':aN}(h:QM ts os ts' os')(f:FC ts os):FC ts' os':=by
 have fl:=f.flat;have c:=f.conn;rcases h with⟨rfl,rfl⟩ | ⟨h1,⟨h2,h3,h4⟩ | ⟨h2,h3,h4⟩⟩
 ·exact f
 ·exact⟨by unfold Flat at *;lia,h4 c⟩
 ·exact⟨by unfold Flat at *;lia,h4 c⟩
theorem yQ{ts:aP}{os:aN}(h:ts.length=1):iN ts os:=by
 intro S h1 h2 x y hx hy sx;rw[h]at hx hy;have e0:oth 0=1:=rfl;have e1:oth 1=0:=rfl;by_cases q:x=y
 ·exact q▸sx
 ·have:=h2 x (by lia) sx;have hx':(x=0/\y=1)\/(x=1/\y=0):=by lia
  rcases hx' with⟨rfl,rfl⟩ | ⟨rfl,rfl⟩
  ·rwa [e0]at this
  ·rwa [e1]at this
theorem sQ{f:Nat->Nat}{N:Nat}(m:b7 f N):(aS f N).flatten.Perm (ZS N):=by
 have one:=λ{x:Nat}(hx:x<N)=>sM m _ (ZS N) (ZC _) (λz hz=>Zs.mp hz) x (Zs.mpr hx);have mem:=λ(d:List Nat) (hd:d∈aS f N)=>mM m _ (ZS N) (ZC _) (λz hz=>Zs.mp hz) d hd;have lt:∀d∈aS f N,∀x∈d,x<N:=λd hd x hx=>by
  obtain⟨e,he,rfl⟩:=mem d hd;exact fR m (Zs.mp he) x hx
 refine(List.perm_ext_iff_of_nodup ?_ ZD).mpr λx=>?_
 ·rw[List.nodup_iff_pairwise_ne,List.pairwise_flatten];refine⟨λd hd=>?_,?_⟩
  ·obtain⟨e,he,rfl⟩:=mem d hd;have:=mQ m (Zs.mp he)
   rwa [List.nodup_iff_pairwise_ne]at this
  ·rw[List.pairwise_iff_getElem];intro i j hi hj hij x hx y hy e;subst e;obtain⟨k,d,_,_,h3⟩:=one (lt _ (Zp hi) x hx);have e1:=h3 i _ (Zz hi) hx;have e2:=h3 j _ (Zz hj) hy
   lia
 ·rw[List.mem_flatten,Zs];constructor
  ·rintro⟨d,hd,hx⟩;exact lt d hd x hx
  ·intro hx;obtain⟨k,d,h1,h2,_⟩:=one hx;exact(xWP d (Zg h1) h2)
def su(l:List Nat)(f:Nat->Int):Int:=(l.map f).sum
theorem kG(f:Nat->Int):su [] f=0:=rfl
theorem bI(x:Nat)(l:List Nat)(f:Nat->Int):su (x::l) f=f x+su l f:=by unfold su;rw[ZJ,List.sum_cons]
theorem oG(f:Nat->Int):∀a b:List Nat,su (a++b) f=su a f+su b f
 |[],b=>by rw[kG,List.nil_append];lia
 |x::a,b=>by rw[List.cons_append,bI,bI,oG f a b];lia
theorem lH{f:Nat->Int}{a b:List Nat}(h:a.Perm b):su a f=su b f:=by
 induction h with
 |nil=>rfl
 |cons x _ ih=>rw[bI,bI,ih]
 |swap x y l=>rw[bI,bI,bI,bI];lia
 |trans _ _ h1 h2=>exact h1.trans h2
theorem c7{f g:Nat->Int}:∀{l:List Nat},(∀x∈l,f x=g x)->su l f=su l g
 |[],_=>rfl
 |x::l,h=>by rw[bI,bI,h x Zd,c7 λy hy=>h y (Zw _ hy)]
theorem oH(f g:Nat->Int):∀l:List Nat,su l (λx=>f x+g x)=su l f+su l g
 |[]=>rfl
 |x::l=>by rw[bI,bI,bI,oH f g l];lia
theorem kF(f g:Nat->Int):∀l:List Nat,su l (λx=>f x-g x)=su l f-su l g
 |[]=>rfl
 |x::l=>by rw[bI,bI,bI,kF f g l];lia
theorem jE(k:Int):∀l:List Nat,su l (λ_=>k)=k*(l.length:Int)
 |[]=>by rw[kG];simp
 |x::l=>by rw[bI,jE k l,Yq,Int.natCast_add,Int.mul_add];simp;lia
theorem zU(f:Nat->Int)(φ:Nat->Nat)(l:List Nat):su (l.map φ) f=su l λx=>f (φ x):=by unfold su;rw[Ym];rfl
theorem mF{e:Nat}(A:Int):∀{l:List Nat},l.Nodup->su l (λz=>if z=e then A else 0)=if e∈l then A else 0
 |[],_=>by rw[kG];simp
 |x::l,nd=>by
  have h:=List.nodup_cons.mp nd;rw[bI,mF A h.2];by_cases q:x=e
  ·subst q;simp[h.1]
  ·have q':¬e=x:=λz=>q z.symm;simp[q,q']
theorem t7{f:Nat->Int}:∀{l:List Nat},(∀x∈l,0<=f x)->0<=su l f
 |[],_=>by rw[kG];sleep 16
 |x::l,h=>by
  have h1:=h x Zd;have h2:=t7 (l:=l) λy hy=>h y (Zw _ hy);rw[bI];lia
theorem zT{f:Nat->Int}:∀{l:List Nat}{x:Nat},(∀x∈l,0<=f x)->x∈l->f x<=su l f
 |y::l,x,h,hx=>by
  rw[bI];have h1:=h y Zd;have h2:=t7 (l:=l) λz hz=>h z (Zw _ hz);rcases Zn.mp hx with rfl | hx
  ·lia
  ·have:=zT (l:=l) (λz hz=>h z (Zw _ hz)) hx
   lia
theorem FW{f:Nat->Int}:∀{l:List Nat}{x y:Nat},(∀x∈l,0<=f x)->x∈l->y∈l->x≠y->f x+f y<=su l f
 |z::l,x,y,h,hx,hy,hne=>by
  rw[bI];have h1:=h z Zd;have h':∀w∈l,0<=f w:=λw hw=>h w (Zw _ hw);rcases Zn.mp hx with ex | hx1
  ·subst ex;rcases Zn.mp hy with ey | hy1
   ·exact Yg ey.symm hne
   ·have:=zT h' hy1;lia
  ·rcases Zn.mp hy with ey | hy1
   ·subst ey;have:=zT h' hx1;lia
   ·have:=FW h' hx1 hy1 hne;lia
theorem vJ(f:Nat->Int):∀ll:List (List Nat),su ll.flatten f=(ll.map λd=>su d f).sum
 |[]=>rfl
 |d::ll=>by rw[List.flatten_cons,oG,vJ f ll,ZJ,List.sum_cons]
theorem qH{a b:List Nat}(ha:a.Nodup)(hb:b.Nodup)(h:∀x,x∈a↔x∈b):a.Perm b:=(List.perm_ext_iff_of_nodup ha hb).mpr h
theorem xQ(T:Nat):((ZS (2*T)).map oth).Perm (ZS (2*T)):=by
 refine qH ?_ ZD λx=>?_
 ·rw[List.Nodup,List.pairwise_map];exact List.Pairwise.imp (λh z=>h (gU z)) (ZD (n:=2*T))
 ·rw[Zh,Zs];constructor
  ·rintro⟨y,hy,rfl⟩;exact aZ (Zs.mp hy)
  ·intro h;exact(xWP (oth x) (Zs.mpr (aZ h)) (eK x))
theorem sW:∀(ll:List (List Nat)),(∀i,(row ll i).Nodup)->(∀i j x,x∈row ll i->x∈row ll j->i=j)->ll.flatten.Nodup
 |[],_,_=>List.nodup_nil
 |d::ll,h1,h2=>by
  rw[List.flatten_cons,List.nodup_append];refine(xPP (h1 0) (sW ll (λi=>h1 (i+1)) (λi j x hi hj=>?_)) (λa ha b hb e=>?_))
  ·have:=h2 (i+1) (j+1) x hi hj;lia
  ·subst e;obtain⟨r,hr,hx⟩:=List.mem_flatten.mp hb;obtain⟨i,hi,rfl⟩:=Yy.mp hr;have:a∈row (d::ll) (i+1):=by
    unfold row;rw[Zv,List.getElem?_cons_succ,Zz hi];exact hx
   have:=h2 0 (i+1) a ha this
   lia
theorem EF{ts:aP}{os:aN}(g:Good ts os):os.flatten.Perm (ZS (!2)):=by
 refine qH (sW os g.g.nd λi j x hi hj=>?_) ZD λx=>?_
 ·rw[<-(g.g.ends i x hi).2,<-(g.g.ends j x hj).2]
 ·rw[Zs,List.mem_flatten];constructor
  ·rintro⟨r,hr,hx⟩;obtain⟨i,hi,rfl⟩:=Yy.mp hr;exact(g.g.ends i x (by unfold row;rw[Zv,Zz hi];exact hx)).1
  ·intro h;have q:=g.g.has x h;refine(xWP (os[place ts x]) (Zp q.1) ?_);have q2:=q.2;unfold row at q2;rw[Zv,Zz q.1]at q2;exact q2
def trm(c l:Nat->Int)(e:Nat):Int:=2-c e+l e-l (oth e)
noncomputable abbrev lls(ts:aP)(os:aN):List (List Nat):=aS (behind ts os) (!2)
structure Plc(ts:aP)(os:aN)(c:Nat->Int):Prop where
 lo:∀e,e<2*ts.length->1<=c e
 hi:∀e,e<2*ts.length->c e<=4
 at_:∀p,p<os.length->su (row os p) (λe=>c (oth e))=4
structure Shp(ts:aP)(os:aN)(o:Nat)(c l:Nat->Int):Prop where
 pl:Plc ts os c
 pos:∀e,e<2*ts.length->0<=l e
 ld:∀(k:Nat) (d:List Nat),(lls ts os)[k]?=some d->su d (trm c l)=if k=o then -4 else 4
theorem rK:∀(xs:List Int),(∀x∈xs,x=4)->xs.sum=4*(xs.length:Int)
 |[],_=>rfl
 |x::xs,h=>by
  rw[List.sum_cons,h x Zd,rK xs λy hy=>h y (Zw _ hy),Yq]
  lia
theorem BS:∀(xs:List Int) (o:Nat),o<xs.length->(∀k,k<xs.length->k≠o->xs.getD k 0=4)->xs.sum=4*(xs.length:Int)-4+xs.getD o 0
 |[],o,h,_=>by simp at h
 |x::xs,0,h,q=>by
  rw[List.sum_cons,rK xs,Yq]
  ·simp;lia
  ·intro y hy;obtain⟨i,hi,rfl⟩:=Yy.mp hy;have:=q (i+1) (!41) (by lia);rw[Zv,List.getElem?_cons_succ,Zz hi]at this;sleep 19
 |x::xs,o+1,h,q=>by
  have h0:=q 0 (!5) (by lia);have e0:x=4:=by simpa using h0
  have ih:=BS xs o (by simpa using h) λk hk hne=>by
   have:=q (k+1) (!41) (by lia);simpa using this
  rw[List.sum_cons,ih,Yq,e0];simp
  lia
theorem total{ts:aP}{os:aN}{c l:Nat->Int}(g:Good ts os)(fl:Flat ts os)(h4:∀p,p<os.length->su (row os p) (λe=>c (oth e))=4):((lls ts os).map λd=>su d (trm c l)).sum=4*((lls ts os).length:Int)-8:=by
 rw[<-vJ,lH (sQ g.maps)];have e1:su (ZS (!2)) (trm c l)=su (ZS (!2)) (λ_=>2)-su (ZS (!2)) c+su (ZS (!2)) l-su (ZS (!2)) (λe=>l (oth e)):=by
  have:trm c l=λe=>((2-c e)+l e)-l (oth e):=rfl;rw[this,kF,oH,kF]
 have eo:∀f:Nat->Int,su (ZS (!2)) (λe=>f (oth e))=su (ZS (!2)) f:=λf=>by
  rw[<-zU,lH (xQ ts.length)]
 have e2:su (ZS (!2)) c=4*(os.length:Int):=by
  rw[<-eo c,<-lH (EF g),vJ,rK]
  ·rw[Zq]
  ·intro x hx;obtain⟨d,hd,rfl⟩:=Zh.mp hx;obtain⟨i,hi,rfl⟩:=Yy.mp hd;have:=h4 i hi;unfold row at this;rw[Zv,Zz hi]at this;sleep 19
 rw[e1,eo l,e2,jE,Yj];unfold Flat dS at fl;show _=4*((aS (behind ts os) (!2)).length:Int)-8
 lia
theorem D4{ts:aP}{os:aN}{o:Nat}{c l:Nat->Int}(g:Good ts os)(fl:Flat ts os)(pl:Plc ts os c)(pos:∀e,e<2*ts.length->0<=l e)(ho:o<(lls ts os).length)
  (h:∀(k:Nat) (d:List Nat),(lls ts os)[k]?=some d->k≠o->su d (trm c l)=4):Shp ts os o c l:=by
 refine⟨pl,pos,λk d hk=>?_⟩;by_cases q:k=o
 ·rw[Yb q];subst q;have t:=total (l:=l) g fl pl.at_;have s:=BS ((lls ts os).map λd=>su d (trm c l)) k (by rw[Zq];exact ho) λj hj hne=>by
   rw[Zq]at hj;rw[Zv,Zk,Zz hj];exact h j _ (Zz hj) hne
  rw[Zq,Zv,Zk,hk]at s;have s':((lls ts os).map λd=>su d (trm c l)).sum=4*((lls ts os).length:Int)-4+su d (trm c l):=s
  lia
 ·rw[Ya q];exact h k d hk q
theorem JG{z e:Nat}:oth z=e↔z=oth e:=⟨λh=>by rw[<-h,eK],λh=>by rw[h,eK]⟩
theorem AF(e:Nat):oth e≠e:=by unfold oth;split<;>lia
theorem rL{c l l':Nat->Int}{e:Nat}{x y:Int}{d:List Nat}(nd:d.Nodup)(h:∀z,l' z=l z+(if z=e then x else 0)+(if z=oth e then y else 0)):su d (trm c l')=su d (trm c l)+(if e∈d then x-y else 0)-(if oth e∈d then x-y else 0):=by
 have e1:∀z,trm c l' z=(trm c l z+(if z=e then x-y else 0))-(if z=oth e then x-y else 0):=λz=>by
  unfold trm;rw[h z,h (oth z)];have a1:(oth z=e)=(z=oth e):=propext JG;have a2:(oth z=oth e)=(z=e):=propext ⟨gU,λh=>by rw[h]⟩;simp only[a1,a2];by_cases q:z=e
  ·have q':¬z=oth e:=λz'=>AF e (by rw[<-z',q]);simp only[Yb q,Ya q']
   lia
  ·by_cases q':z=oth e
   ·simp only[Ya q,Yb q'];lia
   ·simp only[Ya q,Ya q'];lia
 rw[c7 λz _=>e1 z,kF,oH,mF _ nd,mF _ nd]
theorem zV{c c' l:Nat->Int}{a b:Nat}{d:List Nat}(nd:d.Nodup)(h:∀z,c' z=c z-(if z=a then 1 else 0)+(if z=b then 1 else 0)):su d (trm c' l)=su d (trm c l)+(if a∈d then 1 else 0)-(if b∈d then 1 else 0):=by
 have e1:∀z,trm c' l z=(trm c l z+(if z=a then 1 else 0))-(if z=b then 1 else 0):=λz=>by
  unfold trm;rw[h z]
  lia
 rw[c7 λz _=>e1 z,kF,oH,mF _ nd,mF _ nd]
theorem fE{ts:aP}{os:aN}(g:Good ts os){k:Nat}{d:List Nat}(h:(lls ts os)[k]?=some d):d.Nodup/\(∀x∈d,x<2*ts.length)/\(∀x,x<2*ts.length->(behind ts os x∈d↔x∈d))/\d≠[]:=by
 have m:=g.maps;obtain⟨e,he,rfl⟩:=mM m _ (ZS (!2)) (ZC _) (λz hz=>Zs.mp hz) d (Zg h);have he:=Zs.mp he;refine(bN (mQ m he) (fR m he) (λx hx=>?_) (λz=>?_))
 ·have h1:behind ts os x∈aL (behind ts os) x:=(bH m hx).mpr ⟨1,rfl⟩;have hb:=m.lt x hx;constructor
  ·intro q;exact eV m he q (gC m hx h1)
  ·intro q;exact eV m he q h1
 ·have:=eG m he;rw[z]at this;cases this
theorem DM{ts:aP}{os:aN}{o:Nat}{c l l':Nat->Int}{e:Nat}(g:Good ts os)(s:Shp ts os o c l)(h:∀z,l' z=l z+(if z=e then 1 else 0)+(if z=oth e then 1 else 0)):Shp ts os o c l':=by
 refine⟨s.pl,λz hz=>?_,λk d hk=>?_⟩
 ·have:=s.pos z hz;rw[h z];split<;>split<;>lia
 ·rw[rL (fE g hk).1 h];have:=s.ld k d hk;simp only[Int.sub_self,ite_self]
  lia
theorem vF{ts:aP}{os:aN}{o:Nat}{c c' l l':Nat->Int}{e a:Nat}{b:Int}(g:Good ts os)(s:Shp ts os o c l)(he:e<2*ts.length)(ha:a<2*ts.length)(hb:behind ts os a=e)(h1:1<c (oth e))
  (hc:∀z,c' z=c z-(if z=oth e then 1 else 0)+(if z=a then 1 else 0)) (hl:∀z,l' z=l z+(if z=e then 1-b else 0)+(if z=oth e then -b else 0)) (hb0:b=if 0<l (oth e) then 1 else 0):Shp ts os o c' l':=by
 have ho:=aZ he;have hoa:=aZ ha;have pe:place ts e=place ts (oth a):=by rw[<-hb];exact(g.behind ha).2
 have in1:=g.g.has e he;have in2:=g.g.has (oth a) hoa;rw[<-pe]at in2;refine⟨⟨λz hz=>?_,λz hz=>?_,λp hp=>?_⟩,λz hz=>?_,λk d hk=>?_⟩
 ·have:=s.pl.lo z hz;rw[hc z];by_cases q:z=oth e
  ·subst q;rw[Yb rfl];split<;>lia
  ·rw[Ya q];split<;>lia
 ·have:=s.pl.hi z hz;rw[hc z];by_cases q:z=a
  ·by_cases q2:z=oth e
   ·rw[Yb q,Yb q2];lia
   ·rw[Yb q,Ya q2];have hs:=s.pl.at_ _ in1.1;have t:=FW (f:=λe=>c (oth e)) (l:=row os (place ts e)) (x:=e) (y:=oth a) (λx hx=>by
     have:=s.pl.lo (oth x) (aZ (g.g.ends _ x hx).1);show 0<=c (oth x)
     lia) in1.2 in2.2 (λz'=>q2 (by rw[q,z',eK]))
    rw[hs,eK]at t;rw[q]
    lia
  ·rw[Ya q];split<;>lia
 ·have e1:∀z,c' (oth z)=(c (oth z)-(if z=e then 1 else 0))+(if z=oth a then 1 else 0):=λz=>by
   rw[hc (oth z)];have a1:(oth z=oth e)=(z=e):=propext ⟨gU,λh=>by rw[h]⟩;have a2:(oth z=a)=(z=oth a):=propext JG;simp only[a1,a2]
  rw[c7 λz _=>e1 z,oH,kF,mF _ (g.g.nd p),mF _ (g.g.nd p),s.pl.at_ p hp];have:(e∈row os p)=(oth a∈row os p):=propext ⟨λh=>by
   have:=(g.g.ends p e h).2;rw[<-this];exact in2.2,λh=>by
   have:=(g.g.ends p _ h).2;rw[<-this,<-pe];exact in1.2⟩
  simp only[this]
  lia
 ·have h0:=s.pos z hz;rw[hl z];by_cases q:z=oth e
  ·have q':¬z=e:=λz'=>AF e (by rw[<-q,z']);rw[Ya q',Yb q];rw[q]at h0 ⊢;rw[hb0];split<;>lia
  ·rw[Ya q,hb0];by_cases q2:z=e
   ·rw[Yb q2];split<;>lia
   ·rw[Ya q2];lia
 ·have L:=fE g hk;have k1:=zV (l:=l') L.1 hc;have k2:=rL (c:=c) L.1 hl;rw[k1,k2];have k3:=s.ld k d hk;have k4:(a∈d)=(e∈d):=propext (by rw[<-hb];exact(L.2.2.1 a ha).symm);have k5:(1-b - -b)=1:=by lia
  simp only[k4,k5]
  lia
def cB(ts:aP)(os:aN)(e:Nat):Int:=if (row os (place ts (oth e))).getD 0 0=oth e then 5-((row os (place ts (oth e))).length:Int) else 1
theorem G9{ts:aP}{os:aN}(g:Good ts os){c:Nat->Int}(h:∀e,e<2*ts.length->c e=cB ts os e):Plc ts os c:=by
 have bd:∀e,e<2*ts.length->1<=cB ts os e/\cB ts os e<=4:=λe he=>by
  unfold cB;have h4:=g.g.four (place ts (oth e));have h0:0<(row os (place ts (oth e))).length:=List.length_pos_of_mem (g.g.has (oth e) (aZ he)).2;split<;>lia
 refine⟨λe he=>by rw[h e he];exact(bd e he).1,λe he=>by rw[h e he];exact(bd e he).2,λp hp=>?_⟩;have ne:=g.g.full p hp;have nd:=g.g.nd p;have en:=g.g.ends p;have e1:∀z∈row os p,c (oth z)=if (row os p).getD 0 0=z then 5-((row os p).length:Int) else 1:=λz hz=>by
  have q:=en z hz;rw[h _ (aZ q.1)];unfold cB;rw[eK,q.2]
 rw[c7 e1];generalize row os p=r at ne nd
 match r,ne with
 |x::r,_ =>
  have nx:=(List.nodup_cons.mp nd).1;rw[bI,Yb (show(x::r).getD 0 0=x from rfl),c7 (g:=λ_=>1) λz hz=>?_,jE,Yq]
  ·lia
  ·rw[Ya];intro q;have:x=z:=q;exact nx (this▸hz)
structure tK(ts:aP)(os:aN)(nm:Nat->Nat)(o:Nat)(come:List Nat)(ways:Nat->Nat):Prop where
 nd:come.Nodup
 lt:∀k∈come,k<(lls ts os).length
 hd:come[0]?=some o
 way:∀(i k:Nat),come[i]?=some k->0<i->ways k<2*ts.length/\nm (ways k)=k/\∃j,j<i/\come[j]?=some (nm (oth (ways k)))
def Num(ts:aP)(os:aN)(nm:Nat->Nat):Prop:=∀(k:Nat) (d:List Nat) (x:Nat),(lls ts os)[k]?=some d->x∈d->nm x=k
theorem AO{ts:aP}{os:aN}{nm:Nat->Nat}(g:Good ts os)(n:Num ts os nm){x:Nat}(hx:x<2*ts.length):∃d,(lls ts os)[nm x]?=some d/\x∈d:=by
 obtain⟨k,d,h1,h2,_⟩:=sM g.maps _ _ (ZC _) (λy hy=>Zs.mp hy) x (Zs.mpr hx);rw[n k d x h1 h2];exact(xWP d h1 h2)
theorem vU{ts:aP}{os:aN}{nm:Nat->Nat}(g:Good ts os)(n:Num ts os nm){x k:Nat}{d:List Nat}(hx:x<2*ts.length)(hk:(lls ts os)[k]?=some d):x∈d↔nm x=k:=by
 constructor
 ·exact n k d x hk
 ·intro h;obtain⟨d',h1,h2⟩:=AO g n hx;rw[h,hk]at h1;cases h1;exact h2
theorem tK.push{ts:aP}{os:aN}{nm:Nat->Nat}{o:Nat}{come:List Nat}{ways ways':Nat->Nat}(g:Good ts os)(n:Num ts os nm)(c:tK ts os nm o come ways){e:Nat}(he:e<2*ts.length)(h1:nm e∉come)(h2:nm (oth e)∈come)
  (hw:∀k,ways' k=if k=nm e then e else ways k):tK ts os nm o (come++[nm e]) ways':=by
 have hl:0<come.length:=by have:=(Zj.mp c.hd).1;sleep 19
 refine⟨?_,λk hk=>?_,by rw[Zx hl];exact c.hd,λi k hi h0=>?_⟩
 ·rw[List.nodup_append];exact(xPP c.nd (!5) (λa ha b hb z=>h1 (by rw[<-(show b=nm e by simpa using hb),<-z];exact ha)))
 ·rcases Zf.mp hk with hk | hk
  ·exact c.lt k hk
  ·have:k=nm e:=by simpa using hk
   subst this;obtain⟨d,q,_⟩:=AO g n he;exact(Zj.mp q).1
 ·rcases Xk i come.length with z | z
  ·rw[Zx z]at hi;have hk:k∈come:=Zg hi;have ne:¬k=nm e:=λq=>h1 (q▸hk);rw[hw k,Ya ne];obtain⟨q1,q2,j,q3,q4⟩:=c.way i k hi h0;exact(kA q1 q2 j q3 (by rw[Zx (by lia)];exact q4))
  ·rw[Zy z]at hi;have z':i-come.length=0:=by have:=(Zj.mp hi).1;simp at this;lia
   rw[z']at hi;have:k=nm e:=by simpa using hi.symm
   subst this;rw[hw,Yb rfl];obtain⟨j,hj,ej⟩:=Yy.mp h2;exact(kA he rfl j (by lia) (by rw[Zx hj,Zz hj,ej]))
theorem BK{ts:aP}{os:aN}{nm:Nat->Nat}{o:Nat}(ho:o<(lls ts os).length)(ways:Nat->Nat):tK ts os nm o [o] ways:=by
 refine⟨by simp,λk hk=>?_,rfl,λi k hi h0=>?_⟩
 ·have:k=o:=by simpa using hk
  subst this;exact ho
 ·have:=(Zj.mp hi).1;simp at this
  lia
theorem tK.len{ts:aP}{os:aN}{nm:Nat->Nat}{o:Nat}{come:List Nat}{ways:Nat->Nat}(c:tK ts os nm o come ways):come.length<=(lls ts os).length:=fJ _ _ c.nd c.lt
theorem uW{ts:aP}{os:aN}{nm:Nat->Nat}(g:Good ts os)(cn:iN ts os)(n:Num ts os nm){o:Nat}{come:List Nat}(ho:o<(lls ts os).length)(hc:o∈come):(∀k,k<(lls ts os).length->k∈come)\/∃e,e<2*ts.length/\nm e∉come/\nm (oth e)∈come:=by
 by_cases q:∃e,e<2*ts.length/\nm e∉come/\nm (oth e)∈come
 ·exact .inr q
 ·apply Or.inl;have ex:∀k,k<(lls ts os).length->∃x,x<2*ts.length/\nm x=k:=λk hk=>by
   have h:=Zz hk;obtain⟨_,h2,_,h4⟩:=fE g h;obtain⟨x,hx⟩:=List.exists_mem_of_ne_nil _ h4;exact(xWP x (h2 x hx) (n k _ x h hx))
  obtain⟨x0,hx0,e0⟩:=ex o ho;intro k hk;obtain⟨x,hx,e1⟩:=ex k hk;have:=cn (λz=>nm z∈come) (λz hz s=>?_) (λz hz s=>?_) x0 x hx0 hx (by rw[e0];exact hc)
  ·rw[<-e1];sleep 19
  ·obtain⟨d,h1,h2⟩:=AO g n hz;have:=n _ d (behind ts os z) h1 (((fE g h1).2.2.1 z hz).mpr h2);rw[this];exact s
  ·refine ZT λw=>q (aM (oth z) (aZ hz) w (by rw[eK];exact s))
def u9(ts:aP)(os:aN)(c l:Nat->Int)(come:List Nat)(i:Nat):Prop:=∀(j k:Nat) (d:List Nat),i<=j->come[j]?=some k->(lls ts os)[k]?=some d->su d (trm c l)=4
theorem u9.step{ts:aP}{os:aN}{nm:Nat->Nat}{o:Nat}{come:List Nat}{ways:Nat->Nat}{c l l':Nat->Int}{i k:Nat}{d:List Nat}(g:Good ts os)(n:Num ts os nm)(cm:tK ts os nm o come ways)(f:u9 ts os c l come (i+1))(h0:0<i)(hi:come[i]?=some k)(hd:(lls ts os)[k]?=some d)
  (hl:∀z,l' z=l z+(if z=ways k then max (4-su d (trm c l)) 0 else 0)+(if z=oth (ways k) then max (0-(4-su d (trm c l))) 0 else 0)):u9 ts os c l' come i:=by
 intro j k' d' hj hk' hd';obtain⟨w1,w2,j0,w3,w4⟩:=cm.way i k hi h0;have hk:=vU g n w1 hd';have hko:=vU g n (aZ w1) hd';rw[rL (fE g hd').1 hl];have uniq:∀{a b x:Nat},come[a]?=some x->come[b]?=some x->a=b:=λ{a b x} h1 h2=>by
  obtain⟨ha,ea⟩:=Zj.mp h1;obtain⟨hb,eb⟩:=Zj.mp h2;exact(List.getElem_inj cm.nd).mp (ea.trans eb.symm)
 have no:oth (ways k)∉d':=λz=>by
  have q:=hko.mp z;rw[q]at w4;have:=uniq w4 hk'
  lia
 rw[Ya no];by_cases q:j=i
 ·subst q;rw[hi]at hk';cases hk';rw[hd]at hd';cases hd';rw[Yb (hk.mpr w2)]
  lia
 ·have ne:ways k∉d':=λz=>by
   have q2:=hk.mp z;rw[w2]at q2;subst q2;exact q (uniq hk' hi)
  rw[Ya ne];have:=f j k' d' (by lia) hk' hd'
  lia
theorem GO{ts:aP}{os:aN}{nm:Nat->Nat}{o:Nat}{come:List Nat}{ways:Nat->Nat}{c l:Nat->Int}(g:Good ts os)(fl:Flat ts os)(cm:tK ts os nm o come ways)(all:∀k,k<(lls ts os).length->k∈come)(ho:o<(lls ts os).length)(pl:Plc ts os c)(pos:∀e,e<2*ts.length->0<=l e)
  (f:u9 ts os c l come 1):Shp ts os o c l:=by
 refine D4 g fl pl pos ho λk d hk hne=>?_;obtain⟨i,hi,ei⟩:=Yy.mp (all k (Zj.mp hk).1);have hi':come[i]?=some k:=by rw[Zz hi,ei]
 refine f i k d ?_ hi' hk;sleep 15
 ·subst z;rw[cm.hd]at hi';cases hi';exact Yg rfl hne
 ·exact z
theorem PQ{ts:aP}{os:aN}(g:Good ts os):∃nm,Num ts os nm:=by
 have h:∀x:Nat,∃k:Nat,∀(j:Nat) (d:List Nat),(lls ts os)[j]?=some d->x∈d->j=k:=λx=>by
  by_cases hx:x<2*ts.length
  ·obtain⟨k,_,_,_,u⟩:=sM g.maps _ _ (ZC _) (λy hy=>Zs.mp hy) x (Zs.mpr hx);exact⟨k,u⟩
  ·exact⟨0,λj d hj hd=>Yg ((fE g hj).2.1 x hd) hx⟩
 exact⟨λx=>Classical.choose (h x),λk d x hk hx=>(Classical.choose_spec (h x) k d hk hx).symm⟩
end MM
theorem FO{G B:Prop}(m:B->G)(e:B):G:=m e
namespace K27
open PySem L2 PyProof.Rows
def N8:Sp:=λvs H Q _=>∃(H0:Hp) (ta oa:Addr) (pick most:Int) (rr:List Addr) (ts:MM.aP) (os:MM.aN),vs=[.ref ta,.ref oa,.int pick,.int most]/\aK H0 H/\nV H0 H ta oa rr ts os/\MM.Good ts os/\ts.length<=100/\os.length<=100/\0<=pick /\
 ∀(H':Hp) (rr':List Addr) (ts':MM.aP) (os':MM.aN),aK H0 H'->nV H0 H' ta oa rr' ts' os'->MM.Good ts' os'->ts'.length<=ts.length+1->os'.length<=os.length+1->MM.QM ts os ts' os'->Q .non H'
theorem HR(T:Txt K mg t):Ok P w base T 74 4 N8:=by
 left
 obtain⟨H0,ta,oa,pick,most,rr,ts,os,rfl,g0,hm,g,ht100,ho100,hp0,q⟩:=h;refine(xWP _ (by exists 4,lL,0,1,5,aJ,4,2,4,6,dI,aJ,5,bS,2,5,7,dI,aJ,5,bS,2,5,8,lK,0,6,9,lK,0,7,10,0,dF,bS,2,1,3,aJ,1,8,iU YO PySem.F.slot_list_insert PySem.F.type_list_insert hZ ?_ ?_,aJ,1,8,iU YO PySem.F.slot_list_index PySem.F.type_list_index kO ?_ ?_,aJ,1,8,6,10,0,8,1,1,aX,10,aJ,1,8,a8 iB rfl (T.z 4) boot_int ?_,dF,8,9,aJ,1,9,a8 iB rfl (T.z 4) boot_int ?_,dF,8,9,iU YO PySem.F.slot_list_insert PySem.F.type_list_insert hZ ?_ ?_,aJ,1,8,iU YO PySem.F.slot_list_index PySem.F.type_list_index kO ?_ ?_,aJ,1,8,6,10,iU YO PySem.F.slot_list_insert PySem.F.type_list_insert hZ ?_ ?_,aJ,1,9,iU YO PySem.F.slot_list_index PySem.F.type_list_index kO ?_ ?_,aJ,1,9,7,aX,10,0,8,9) ?_);have m:=g.maps;refine(bG ta oa ts os rfl hm.ts hm.os.os g (by lia) (λr1 rr1 H1 g1 n1=>?_));have hm1:=hm.keep g1;have lpos:=MM.yF m (by have:=g.one;lia);have rl1:(rr1.map V.ref).length=(!40).length:=by rw[Zq];exact n1.len
 obtain⟨k1,hk1,ek1⟩:=MM.mL pick (n:=(rr1.map V.ref).length) (by lia);obtain⟨x1,x11,x12,x13,x14⟩:=n1.item (p:=k1) (by lia);obtain⟨lp,ll⟩:=MM.pK m (d:=MM.row (!40) k1) (by
  unfold MM.row;have:k1<(!40).length:=by lia
  simp only[List.getD,Zz this,YR];exact Zp this)
 have lsame:∀x∈MM.row (!40) k1,∀y∈MM.row (!40) k1,y∈MM.aL (MM.behind ts os) x:=by
  have hk:k1<(!40).length:=by lia
  have hd:MM.row (!40) k1∈MM.aS (MM.behind ts os) (!2):=by
   unfold MM.row;simp only[List.getD,Zz hk,YR];exact Zp hk
  obtain⟨e,he,hde⟩:=MM.mM m _ (ZS (!2)) (ZC _) (λx hx=>Zs.mp hx) _ hd;have heN:=Zs.mp he;intro x hx y hy;rw[hde]at hx hy;exact MM.eV m (MM.fR m heN x hx) (MM.gC m heN hx) hy
 generalize MM.row (!40) k1=land at x13 lp ll lsame;have ll1:(vns land).length=land.length:=Zq _;refine(jP r1 _ rfl (.inl (SqL.of n1.at_)) (by show(0:Int)<((rr1.map V.ref).length:Nat);lia) _ _ (SqL.of n1.at_) (by show atI _ (pick%((rr1.map V.ref).length:Nat))=_;rw[ek1];exact x14) ?_);obtain⟨k2,hk2,ek2⟩:=MM.mL (pick / 8) (n:=(vns land).length) (by lia);obtain⟨k3,hk3,ek3⟩:=MM.mL (pick / 128) (n:=(vns land).length) (by lia);have e2:=ll (land.getD k2 0) (by simp only[List.getD,Zz (show k2<land.length by lia),YR];exact Zp _);have e3:=ll (land.getD k3 0) (by simp only[List.getD,Zz (show k3<land.length by lia),YR];exact Zp _);refine(jQ ⟨by decide,by decide⟩ x1 _ rfl (.inl (SqL.of x13)) (by show(0:Int)<((vns land).length:Nat);lia) _ _ (SqL.of x13) (fN (by show atI _ (pick / 8%((vns land).length:Nat))=_;rw[ek2];exact j6 (by lia) rfl) _ rfl ?_));refine(jQ ⟨by decide,by decide⟩ x1 _ rfl (.inl (SqL.of x13)) (by show(0:Int)<((vns land).length:Nat);lia) _ _ (SqL.of x13) (fN (by show atI _ (pick / 128%((vns land).length:Nat))=_;rw[ek3];exact j6 (by lia) rfl) _ rfl ?_));have e23:=lsame (land.getD k2 0) (by simp only[List.getD,Zz (show k2<land.length by lia),YR];exact Zp _) (land.getD k3 0) (by simp only[List.getD,Zz (show k3<land.length by lia),YR];exact Zp _);generalize land.getD k2 0=u1 at e2 e23;generalize land.getD k3 0=u2 at e3 e23;have o1:=g.g.has (MM.oth u1) (MM.aZ e2);have o2:=g.g.has (MM.oth u2) (MM.aZ e3);have lt1:=MM.aZ e2;have lt2:=MM.aZ e3;generalize ho1:MM.oth u1=one at o1 lt1;generalize ho2:MM.oth u2=two at o2 lt2;refine(cI ta ts one rfl hm1.ts lt1 ?_);refine(cI ta ts two rfl hm1.ts lt2 ?_);obtain⟨ha0,ha1⟩:=o1;obtain⟨hb0,hb1⟩:=o2;generalize hpa:MM.place ts one=a at ha0 ha1;generalize hpb:MM.place ts two=b at hb0 hb1;obtain⟨tr,tr1,tr2,tr3⟩:=id hm1.ts;refine(aO ta _ rfl (.inl (SqL.of tr1)) (!7) ?_);have eE:(2:Int)*((!32).length:Nat)=((2*ts.length:Nat):Int):=by rw[Zq,tr2];push_cast;rfl
 show cS 10 (V.int ((2:Int)*((!32).length:Nat))) _ _ _;rw[eE];have n2:=hm1.os;have g2:=g0.trans g1;obtain⟨xa,xa1,xa2,xa3,xa4⟩:=n2.item ha0;have hra:((vns (MM.row os a)).length:Int)=((MM.row os a).length:Nat):=by rw[Zq]
 have hro:((rr.map V.ref).length:Int)=(os.length:Nat):=by rw[Zq,n2.len]
 have nta:ta≠xa:=λz=>hm1.ar (z▸xa2);have noa:oa≠xa:=λz=>n2.nin (z▸xa2);have ia:=ZN ha1;have noneC:Q .non H1:=q H1 rr ts os g2 hm1 g (by lia) (by lia) (.inl ⟨rfl,rfl⟩);refine' FO (λels=>?_) ?_;rotate_left
 ·refine(xPP ⟨by decide,by decide⟩ (by show(0:Int)<3;decide) ?_);refine i2 (λc1=>?_) (λc1=>iFb rfl els);refine(aG oa _ rfl (.inl (SqL.of n2.at_)) ?_);refine i2 (λc2=>?_) (λc2=>iFb rfl els)
  ·refine(aW _ _ (SqL.of n2.at_) xa4 xa _ rfl (.inl (SqL.of xa3)) ?_);refine i2 (λc3=>?_) (λc3=>els)
   ·have c3':((vns (MM.row os a)).length:Int)<4:=Yf c3;rw[hra]at c3';have h3:(MM.row os a).length<4:=by lia
    refine(jP _ _ (SqL.of n2.at_) xa4 (.inl ⟨rfl,_,SqL.of xa3⟩) _ _ (SqL.of n2.at_) xa4 (lD (.inl ⟨rfl,_,SqL.of xa3⟩) _ one rfl xa3 ha1 (dX _ _ _ rfl xa3 ?_ ?_ ?_)))
    ·rw[Zq];lia
    ·rw[Zq];exact Xq (g.g.four a) (!1)
    rw[MM.lO];have n3:=n2.set (l:=aU (MM.row os a) ((MM.row os a).idxOf one) (!2)) xa1;have t3:=hm1.ts.other xa3 (Yh nta) (.lst (vns (!11)));have s3:aK H0 (upd H1 xa (.lst (vns (!11)))):=λc u h=>by rw[aH (aE h (n2.news _ xa2))];exact g2 _ _ h
    have gd:=g.newPlace (i:=(MM.row os a).idxOf one) ha0 h3;have ct:=MM.sP g e2 (by rw[ho1,hpa];exact h3);rw[ho1,hpa]at ct;have hol:(os.set a (!11)).length=os.length:=ZR;generalize upd H1 xa (.lst (vns (!11)))=H3 at n3 t3 s3;generalize os.set a (!11)=os1 at n3 gd ct hol;obtain⟨tq,tq1,tq2,tq3⟩:=id t3;refine(lD (.inl ⟨rfl,_,SqL.of tq1⟩) oa _ rfl (.inl (SqL.of n3.at_)) (!9) (λtp htp=>?_));have e0:(V.int ((rr.map V.ref).length:Nat))=vn os.length:=by rw[Zq,n2.len]
    rw[e0]at *;have g5:=aC htp (.tup [vn a,vn os.length]);refine(aM _ (g5 _ _ tq1) ?_ ?_)
    ·rw[Zq,tq2];exact Xq ht100 (!1)
    have t5:=(g5.ts t3).push (t:=(a,os.length)) (g5 _ _ tq1) aB;have n5:cE H0 (upd (upd H3 tp (.tup [vn a,vn os.length])) ta (.lst (tq.map V.ref++[.ref tp]))) oa rr os1:=n3.keep λc u hc h=>by
     rw[aH (show c≠ta by rcases hc with rfl | hc;exact Yh hm1.ao;rintro rfl;exact hm1.ar hc)];exact g5 _ _ h
    have s5:aK H0 (upd (upd H3 tp (.tup [vn a,vn os.length])) ta (.lst (tq.map V.ref++[.ref tp]))):=λc u h=>by rw[aH (aE h hm1.an)];exact g5 _ _ (s3 _ _ h)
    generalize upd (upd H3 tp (.tup [vn a,vn os.length])) ta (.lst (tq.map V.ref++[.ref tp]))=H5 at t5 n5 s5;refine(xPP (.inl ⟨rfl,_,SqL.of n5.at_⟩) (by show 1<=ZW;decide) (λnl hnl=>?_));have e1:(λi j:Int=>V.int (i+j)) ((2*ts.length:Nat):Int) 1=vn (!51):=rfl;rw[e1]at *;have g6:=aC hnl (.lst [vn (!51)]);refine(aM _ (g6 _ _ n5.at_) ?_ ?_)
    ·rw[Zq,n5.len,hol];exact Xq ho100 (!1)
    have nlr:nl∉rr:=λz=>by obtain⟨l,hl⟩:=n5.ex z;rw[hnl]at hl;cases hl
    have nlo:nl≠oa:=(aE n5.at_ hnl).symm;have n6:=n5.push (x:=nl) (l:=[2*ts.length+1]) (H2:=upd (upd H5 nl (.lst [vn (!51)])) oa (.lst (rr.map V.ref++[.ref nl]))) (s5.free hnl) nlr nlo (by rw[aB,Zt];rfl) (by rw[aH nlo];exact aB) (λc u hc h=>by rw[aH (show c≠oa from λz=>n5.nin (z▸hc))];exact g6 _ _ h);have t6:=(g6.ts t5).other (g6 _ _ n5.at_) (Yh hm1.ao) (.lst (rr.map V.ref++[.ref nl]));have s6:aK H0 (upd (upd H5 nl (.lst [vn (!51)])) oa (.lst (rr.map V.ref++[.ref nl]))):=λc u h=>by rw[aH (aE h n2.new)];exact g6 _ _ (s5 _ _ h)
    have tnl:ta≠nl:=by obtain⟨tq',z1,_⟩:=id t5;exact aE z1 hnl
    exact q _ (rr++[nl]) _ _ s6 ⟨t6,n6,hm1.an,hm1.ao,λz=>(Zf.mp z).elim hm1.ar λz=>tnl (by simpa using z)⟩ gd (by rw[Zm];exact ZC _) (by rw[Zm,hol];exact ZC _) (.inr ⟨by rw[Zm];rfl,.inl ⟨by rw[Zm,hol];rfl,ct⟩⟩)
 ·obtain⟨xb,xb1,xb2,xb3,xb4⟩:=n2.item hb0;refine(aW _ _ (SqL.of n2.at_) xa4 xa _ rfl (.inl (SqL.of xa3)) (.inr (xWP _ rfl ?_)));refine i2 (λd1=>?_) (λd1=>iFb rfl noneC);refine(aW _ _ (SqL.of n2.at_) xb4 xb _ rfl (.inl (SqL.of xb3)) (.inr (xWP _ rfl ?_)));refine i2 (λd2=>?_) (λd2=>noneC);have h12:(MM.row os a).length<4/\(MM.row (os.set a (!11)) b).length<4:=by
   have d1':((vns (MM.row os a)).length:Int)<4-(if decide (vn a=vn b)=true then 1 else 0):=Yf d1;have d2':((vns (MM.row os b)).length:Int)<4-(if decide (vn a=vn b)=true then 1 else 0):=Yf d2;rw[hra]at d1';rw[Zq]at d2';by_cases hab:a=b
   ·subst hab;rw[Yb (!5)]at d1';rw[MM.cP ha0,MM.iA]
    lia
   ·have nab:¬(decide (vn a=vn b)=true):=by
     intro z;have z':=Yf z;injection z' with z';exact hab (by lia)
    rw[Ya nab]at d1' d2';rw[MM.eT (Yh hab)]
    lia
  refine(jP _ _ (SqL.of n2.at_) xa4 (.inl ⟨rfl,_,SqL.of xa3⟩) _ _ (SqL.of n2.at_) xa4 (lD (.inl ⟨rfl,_,SqL.of xa3⟩) _ one rfl xa3 ha1 (dX _ _ _ rfl xa3 ?_ ?_ ?_)))
  ·rw[Zq];lia
  ·rw[Zq];exact Xq (g.g.four a) (!1)
  rw[MM.lO];have n3:=n2.set (l:=aU (MM.row os a) ((MM.row os a).idxOf one) (!2)) xa1;have t3:=hm1.ts.other xa3 (Yh nta) (.lst (vns (!11)));have s3:aK H0 (upd H1 xa (.lst (vns (!11)))):=λc u h=>by rw[aH (aE h (n2.news _ xa2))];exact g2 _ _ h
  have hb2:two∈MM.row (os.set a (!11)) b:=by
   by_cases hab:b=a
   ·subst hab;rw[MM.cP ha0];exact MM.h7.mpr (.inr hb1)
   ·rw[MM.eT hab];exact hb1
  have gd:=g.newTie (i:=(MM.row os a).idxOf one) (j:=(MM.row (os.set a (!11)) b).idxOf two) ha0 hb0 h12.1 h12.2;have ct:=MM.v9 g e2 e23 (a:=a) (b:=b) (by rw[ho1];exact hpa) (by rw[ho2];exact hpb) h12.1 (by rw[ho1];exact h12.2);rw[ho1,ho2]at ct;have hol:(os.set a (!11)).length=os.length:=ZR;generalize upd H1 xa (.lst (vns (!11)))=H3 at n3 t3 s3;generalize os.set a (!11)=os1 at n3 hb2 gd ct h12 hol;obtain⟨yb,yb1,yb2,yb3,yb4⟩:=n3.item (p:=b) (by lia);have ib:=ZN hb2;refine(jP _ _ (SqL.of n3.at_) yb4 (.inl ⟨rfl,_,SqL.of yb3⟩) _ _ (SqL.of n3.at_) yb4 (lD (.inl ⟨rfl,_,SqL.of yb3⟩) _ two rfl yb3 hb2 (dX _ _ _ rfl yb3 ?_ ?_ ?_)))
  ·rw[Zq];lia
  ·rw[Zq];exact Nat.lt_trans h12.2 (!1)
  have e1:(λi j:Int=>V.int (i+j)) ((2*ts.length:Nat):Int) 1=vn (!51):=rfl;rw[e1,MM.lO];have n4:=n3.set (l:=aU (MM.row os1 b) ((MM.row os1 b).idxOf two) (!51)) yb1;have t4:=t3.other yb3 (λz=>hm1.ar (z▸yb2)) (.lst (vns (aU (MM.row os1 b) ((MM.row os1 b).idxOf two) (!51))));have s4:aK H0 (upd H3 yb (.lst (vns (aU (MM.row os1 b) ((MM.row os1 b).idxOf two) (!51))))):=λc u h=>by rw[aH (aE h (n2.news _ yb2))];exact s3 _ _ h
  generalize upd H3 yb (.lst (vns (aU (MM.row os1 b) ((MM.row os1 b).idxOf two) (!51))))=H4 at n4 t4 s4;obtain⟨tq,tq1,tq2,tq3⟩:=id t4;refine(xPP (.inl ⟨rfl,_,SqL.of tq1⟩) (!9) (λtp htp=>?_));have g5:=aC htp (.tup [vn a,vn b]);refine(aM _ (g5 _ _ tq1) ?_ ?_)
  ·rw[Zq,tq2];exact Xq ht100 (!1)
  have t5:=(g5.ts t4).push (t:=(a,b)) (g5 _ _ tq1) aB;have n5:cE H0 (upd (upd H4 tp (.tup [vn a,vn b])) ta (.lst (tq.map V.ref++[.ref tp]))) oa rr (os1.set b (aU (MM.row os1 b) ((MM.row os1 b).idxOf two) (!51))):=n4.keep λc u hc h=>by
   rw[aH (show c≠ta by rcases hc with rfl | hc;exact Yh hm1.ao;rintro rfl;exact hm1.ar hc)];exact g5 _ _ h
  have s5:aK H0 (upd (upd H4 tp (.tup [vn a,vn b])) ta (.lst (tq.map V.ref++[.ref tp]))):=λc u h=>by rw[aH (aE h hm1.an)];exact g5 _ _ (s4 _ _ h)
  exact q _ rr _ _ s5 ⟨t5,n5,hm1.an,hm1.ao,hm1.ar⟩ gd (by rw[Zm];exact ZC _) (by rw[ZR];lia) (.inr ⟨by rw[Zm];rfl,.inr ⟨by rw[ZR];exact hol,ct⟩⟩)
end K27
namespace L2
open PySem PyProof.Rows
theorem gN.set{H:Hp}{a r:Addr}{ts:MM.aP}{xs:List V}{t:Nat×Nat}{j:Nat}(h:gN H a ts)(hx:H a=some (.lst xs))(hr:H r=some (.tup [vn t.1,vn t.2])):gN (upd H a (.lst (xs.set j (.ref r)))) a (ts.set j t):=by
 sleep 7;have ex:xs=tr.map V.ref:=by rw[hx]at h1;cases h1;rfl
 subst ex;refine(aM (tr.set j r) (by rw[aB,ZH]) (by rw[ZR,ZR,h2]) (λi u hu=>?_));by_cases e:j=i
 ·subst e;have hj:j<ts.length:=by
   have:=(Zj.mp hu).1;rw[ZR]at this;sleep 19
  rw[ZL hj]at hu;cases hu;exact(xWP r (ZL (by rw[h2];exact hj)) (by rw[aH (b8 hr hx (λz=>nomatch z))];exact hr))
 ·rw[ZK e]at hu;obtain⟨y,q1,q2⟩:=h3 i u hu;exact(xWP y (by rw[ZK e];exact q1) (by rw[aH (b8 q2 hx (λz=>nomatch z))];exact q2))
theorem uL{α:Type}{x:α}:∀{l:List α},l.Nodup->x∉l->∀p,(l.set p x).Nodup
 |[],_,_,_=>by simp
 |a::l,nd,h,0=>by
  rw[List.set_cons_zero,List.nodup_cons];exact⟨λz=>h (Zw _ z),(List.nodup_cons.mp nd).2⟩
 |a::l,nd,h,p+1=>by
  rw[List.set_cons_succ,List.nodup_cons];refine⟨λz=>?_,uL (List.nodup_cons.mp nd).2 (λz=>h (Zw _ z)) p⟩;rcases List.mem_or_eq_of_mem_set z with z | z
  ·exact(List.nodup_cons.mp nd).1 z
  ·subst z;exact h Zd
theorem cE.setRef{H0 H H2:Hp}{o x:Addr}{rr:List Addr}{os:MM.aN}{l:List Nat}{p:Nat}(n:cE H0 H o rr os)(hx:H0 x=none)(hxr:x∉rr)(hxo:x≠o)(at2:H2 o=some (.lst ((rr.set p x).map V.ref)))(ax:H2 x=some (.lst (vns l)))
  (g:∀b u,b∈rr->H b=some u->H2 b=some u):cE H0 H2 o (rr.set p x) (os.set p l) where
 at_:=at2
 len:=by rw[ZR,ZR];exact n.len
 row:=λi m h=>by
  by_cases e:p=i
  ·subst e;have hp:p<os.length:=by
    have:=(Zj.mp h).1;rw[ZR]at this;sleep 19
   rw[ZL hp]at h;cases h;exact(xWP x (ZL (by rw[n.len];exact hp)) ax)
  ·rw[ZK e]at h;obtain⟨y,h1,h2⟩:=n.row i m h;exact(xWP y (by rw[ZK e];exact h1) (g _ _ (Zg h1) h2))
 nd:=uL n.nd hxr p
 nin:=λz=>by
  rcases List.mem_or_eq_of_mem_set z with z | z
  ·exact n.nin z
  ·exact hxo z.symm
 new:=n.new
 news:=λy hy=>by
  rcases List.mem_or_eq_of_mem_set hy with z | z
  ·exact n.news y z
  ·subst z;exact hx
theorem JN(l:List Nat){k:Nat}(h:k<=l.length):pR (vns l) (some (k:Int)) none=vns (l.drop k):=by
 unfold pR;have e:(vns l).length=l.length:=Zq _;rw[HT.qB,HT.mY,e,Nat.min_eq_left h];have e2:(vns l).drop k=vns (l.drop k):=by unfold vns;rw[List.map_drop]
 rw[e2];exact List.take_of_length_le (by rw[Zq,Yp];exact ZC _)
theorem QH(l:List Nat){k:Nat}(h:k<=l.length):pR (vns l) none (some (k:Int))=vns (l.take k):=by
 unfold pR;have e:(vns l).length=l.length:=Zq _;rw[HT.qB,HT.mY,e,Nat.min_eq_left h,List.drop_zero,Nat.sub_zero];unfold vns;rw[List.map_take]
theorem qK{n j:Nat}(h:j<n):ixN n (j:Int)=some j:=by
 unfold ixN;rw[Yb (by lia),Yb (by lia)];simp
theorem GR(l:List Nat)(k:Nat):(l.drop k++l.take k).Perm l:=by
 have h:=List.perm_append_comm (l₁:=l.drop k) (l₂:=l.take k);rw[List.take_append_drop]at h;exact h
end L2
namespace MM
theorem kU{α:Type}{l:List α}{i j:Nat}{x d:α}(h:i≠j):(l.set i x).getD j d=l.getD j d:=by
 rw[Zv,Zv,ZK h]
theorem i8{α:Type}{l:List α}{i:Nat}{x d:α}(h:i<l.length):(l.set i x).getD i d=x:=by
 rw[Zv,ZL h];rfl
theorem Good.tie{ts:aP}{os:aN}(g:Good ts os){i:Nat}(hi:i<ts.length):(ts.getD i (0,0)).1<os.length/\(ts.getD i (0,0)).2<os.length:=by
 have h1:=(g.g.has (2*i) (by lia)).1;have h2:=(g.g.has (2*i+1) (by lia)).1;unfold place at h1 h2;rw[Yb (by lia),show 2*i / 2=i by lia]at h1;rw[Ya (by lia),show(2*i+1) / 2=i by lia]at h2;exact⟨h1,h2⟩
theorem ME(U:Nat->Nat)(fl:List Nat)(f:Nat):(ZS (2*(fl.length+1))).map (λe=>L2.vn (nmF U (λk=>(fl++[f]).getD k 0) e)) =
  (ZS (2*fl.length)).map (λe=>L2.vn (nmF U (λk=>fl.getD k 0) e))++[L2.vn (2*U fl.length+f),L2.vn (2*U fl.length+(1-f))]:=by
 have e:2*(fl.length+1)=2*fl.length+1+1:=by lia
 rw[e,ZI,ZI,Zt,Zt,Yn];have h0:(fl++[f]).getD fl.length 0=f:=by simp[List.getD]
 have e1:nmF U (λk=>(fl++[f]).getD k 0) (2*fl.length)=2*U fl.length+f:=by
  unfold nmF;rw[Yb (by lia),show 2*fl.length / 2=fl.length by lia];show 2*U fl.length+(fl++[f]).getD fl.length 0=_;rw[h0]
 have e2:nmF U (λk=>(fl++[f]).getD k 0) (2*fl.length+1)=2*U fl.length+(1-f):=by
  unfold nmF;rw[Ya (by lia),show(2*fl.length+1) / 2=fl.length by lia];show 2*U fl.length+(1-(fl++[f]).getD fl.length 0)=_;rw[h0]
 have e3:(ZS (2*fl.length)).map (λe=>L2.vn (nmF U (λk=>(fl++[f]).getD k 0) e))=(ZS (2*fl.length)).map (λe=>L2.vn (nmF U (λk=>fl.getD k 0) e)):=by
  refine Ys λx hx=>?_;have hx':=Zs.mp hx;have q:(fl++[f]).getD (x / 2) 0=fl.getD (x / 2) 0:=by
   have:x / 2<fl.length:=by lia
   simp[List.getD,Zx this]
  unfold nmF;show L2.vn (2*U (x / 2)+(if x%2=0 then (fl++[f]).getD (x / 2) 0 else 1-(fl++[f]).getD (x / 2) 0))=_;rw[q]
 rw[e3];congr 1;show[L2.vn _,L2.vn _]=_;rw[e1,e2]
end MM
namespace K27
open PySem L2 PyProof.Rows
def DX:Sp:=λvs H Q _=>∃(ta oa:Addr) (c:Int) (ts:MM.aP) (os:MM.aN),vs=[.ref ta,.ref oa,.int c]/\gN H ta ts/\nU H oa os/\MM.Good ts os/\ts.length<=400/\os.length<=400 /\
 ∀(r tA oA:Addr) (rr:List Addr) (ts':MM.aP) (os':MM.aN) (H':Hp),aK H H'->H' r=some (.tup [vn os.length,.ref tA,.ref oA])->nV H H' tA oA rr ts' os'->MM.Good ts' os'->ts'.length=ts.length->os'.length=os.length->(MM.dS ts' os'=MM.dS ts os/\(MM.iN ts os->MM.iN ts' os'))->Q (.ref r) H'
theorem xU(T:Txt K mg t):Ok P w base T 75 2 DX:=by
 refine T.okN 75 (scm:dU ["_law_ties","_law_orders","_law_cell","_law_places","_law_numbers","_law_names","_law_told","_law_k","_law_a","_law_b","_law_flip","_law_rows","_law_place_here","_law_order","_law_at"] _ _) (λvs H Q E h=>?_) ?_
 ·obtain⟨ta,oa,c,ts,os,rfl,_⟩:=h;rfl
 sleep 14;obtain⟨ta,oa,c,ts,os,rfl,ht,ho,g,ht400,ho400,q⟩:=h;refine(xWP _ (by exists 3,sG,iH,2,1,4,sG,iH,2,0,5,(fH 6 ["_law_tie"] [none]),bE ?_,0,0,cV rfl (T.z 3) ?_,0,7,8,9,10,oP,iH,2,7,dD ?_ ?_,aJ,aJ,3,8,aJ,3,9,aJ,3,9,aJ,3,8,10,eI ?_ ?_ set_list,6,aJ,4,7,5,sE,5,aX,aJ,4,7,10,aX,aJ,4,7,10,(fH 11 ["_law_order"] [none]),bE ?_,1,0,cV rfl (T.z 3) ?_,1,12,13,14,oP,iH,2,12,13,dD ?_ ?_,(fI ["_law_end","_law_names"] [none,some 5]),bE ?_,sE,nA qA (pv 13) ?_ qG,qF (pv 14),nA qA (pv 13) qG ?_,qF (pv 14),0,aJ,1,0,eI ?_ ?_ set_list,11,aJ,3,12,1,6,11) ?_);obtain⟨tr,tr1,tr2,tr3⟩:=id ht;obtain⟨rr,rr1,rr2,rr3⟩:=id ho;have trl:(!32).length=ts.length:=by rw[Zq];exact tr2
 have rrl:(rr.map V.ref).length=os.length:=by rw[Zq];exact rr2
 refine(aO c 0 rfl (!1) (!1) (λm0 hm0 _=>(bP oa _ rfl (.inl (SqL.of rr1)) m0 ((rr.map V.ref).length) rfl hm0 (by lia) (λpr ps hpr hpn hpl hpe=>?_))));have g1:=aC hpr (.lst (vns ps));refine(aO c 1 rfl (!1) (!1) (λm1 hm1 _=>(bP ta _ rfl (.inl (SqL.of (g1 _ _ tr1))) m1 ((!32).length) rfl hm1 (by lia) (λnr nu hnr hnn hnl hne=>?_))));rw[trl]at hnl hne;rw[rrl]at hpl hpe;have g2:=aC hnr (.lst (vns nu));have mP:MM.b7 (λi=>ps.getD i 0) os.length:=by have:=MM.CM hpn (by rw[hpe];exact hpl);rw[hpe]at this;sleep 19
 have mU:MM.b7 (λi=>nu.getD i 0) ts.length:=by have:=MM.CM hnn (by rw[hne];exact hnl);rw[hne]at this;sleep 19
 refine⟨!23,λna0 hna0=>?_⟩;have g3:=aC hna0 (!49);have k1:(upd (upd (upd H pr (.lst (vns ps))) nr (.lst (vns nu))) na0 (!49)) pr=some (.lst (vns ps)):=g3 _ _ (g2 _ _ aB);have k2:(upd (upd (upd H pr (.lst (vns ps))) nr (.lst (vns nu))) na0 (!49)) nr=some (.lst (vns nu)):=g3 _ _ aB;have k3:(upd (upd (upd H pr (.lst (vns ps))) nr (.lst (vns nu))) na0 (!49)) na0=some (!49):=aB;have g4:=(g1.trans g2).trans g3;generalize upd (upd (upd H pr (.lst (vns ps))) nr (.lst (vns nu))) na0 (!49)=H4 at k1 k2 k3 g4;clear g1 g2 g3 hpr hnr hna0;have atP:∀x,x<os.length->atI (vns ps) (x:Int)=some (vn (ps.getD x 0)):=λx hx=>j6 (by lia) rfl;have atU:∀x,x<ts.length->atI (vns nu) (x:Int)=some (vn (nu.getD x 0)):=λx hx=>j6 (by lia) rfl;refine⟨⟨_,SqL.of (g4 _ _ tr1)⟩,λD hD=>?_⟩;refine comp_map ts.length (λi ys H'=>gN H' D (ZG i (0,0))/\H' D=some (.lst ys)/\aK H4 H') (xPP (aM ([]) aB rfl (λi t h=>by simp at h)) aB (aC hD _)) ?_ ?_
 ·rintro i ys H' hi ⟨h1,h2,h3⟩;have hx:(!32)[i]?=some (.ref (tr[i]'(by lia))):=by rw[Zk,Zz (by lia)];rfl
  refine⟨(bM _ _ (SqL.of (h3 _ _ (g4 _ _ tr1))) hx),?_⟩;rintro x H'' ⟨rfl,hx'⟩;refine⟨(Fills.refl _).set _ rfl,?_⟩;refine⟨!9,λtp htp=>?_⟩;have g5:=aC htp (.tup [vn 0,vn 0]);have h1':=(g5.ts h1).push (t:=(0,0)) (g5 _ _ h2) aB;obtain⟨tr',e1,e2,_⟩:=id h1;have hyl:ys.length=i:=by
   rw[h2]at e1;cases e1;rw[Zq,e2,List.length_replicate]
  refine(bK (g5 _ _ h2) (by rw[hyl];exact Xz hi (YQ ht400 (!1))) ?_ aB ?_)
  ·rw[List.replicate_succ'];exact h1'
  ·exact λb o h=>by rw[aH (aE h hD)];exact g5 _ _ (h3 _ _ h)
 rintro ys H5 ⟨t5,d5,g5⟩;refine⟨(xWP _ (SqL.of (g5 _ _ (g4 _ _ tr1))) (by rw[trl];exact ZC _)),?_⟩;have naD:na0≠D:=aE k3 hD;refine(aM ta rfl ⟨_,SqL.of (g5 _ _ (g4 _ _ tr1))⟩ (dJ (xs:=tr.map V.ref) (λi σ H'=>∃(na:Addr) (fl:List Nat) (td:MM.aP) (o7 o8 o9 o10:Option V),
   σ=[some (.ref ta),some (.ref oa),some (.int c),some (.ref pr),some (.ref nr),some (.ref na),some (.ref D),o7,o8,o9,o10,none,none,none,none]/\aK H4 H'/\fl.length=i/\(∀f∈fl,f<=1)/\na≠D /\
   H' na=some (.lst (!53))/\gN H' D td/\td.length=ts.length /\
   ∀k,k<i->td.getD (nu.getD k 0) (0,0)=if fl.getD k 0=0 then (ps.getD (ts.getD k (0,0)).1 0,ps.getD (ts.getD k (0,0)).2 0) else (ps.getD (ts.getD k (0,0)).2 0,ps.getD (ts.getD k (0,0)).1 0))
  (bW na0 ([]) _ none none none none rfl g5 (eJ rfl (λf hf=>by cases hf) naD (g5 _ _ k3) t5 (!5) (λk hk=>Yg hk (Nat.not_lt_zero _)))) (λi σ H' _ h=>by obtain⟨na,fl,td,o7,o8,o9,o10,_,h1,_⟩:=h;exact SqL.of (h1 _ _ (g4 _ _ tr1))) ?_ ?_))
 ·rintro i x σ H6 Tt hx ⟨na,fl,td,o7,o8,o9,o10,rfl,s6,hfl,hf1,nD,en,td6,tdl,hv⟩ hTt;have hi:i<ts.length:=by have:=(Zj.mp hx).1;lia
  obtain⟨rt,rt1,rt2⟩:=tr3 i _ (Zz hi);have ex:x=.ref rt:=by rw[Zk,rt1]at hx;cases hx;rfl
  subst ex;have tab:=g.tie hi;have hget:ts.getD i (0,0)=ts[i]:=by simp only[List.getD,Zz hi,YR]
  rw[<-hget]at rt2;have hUi:=mU.lt i hi;have gT:=aC hTt (.tup [vn i,.ref rt]);refine(aM _ (SqT.of aB) rfl (aM _ (SqT.of (gT _ _ (s6 _ _ (g4 _ _ rt2)))) rfl ?_));refine(aO c 2 rfl (!1) (!1) (λm2 hm2 _=>(hJ m2 2 i rfl (!1) (!1) (by lia) (by lia) (λd hd0 hd1=>?_))));obtain⟨f,rfl,hf⟩:∃f:Nat,d=(f:Int)/\f<=1:=(xWP d.toNat (by lia) (by lia))
  have s7:=s6.trans gT;have td7:=gT.ts td6;have en7:=gT _ _ en;generalize upd H6 Tt (.tup [vn i,.ref rt])=H7 at s7 td7 en7;refine(bP _ _ (SqL.of (s7 _ _ k1)) (atP _ tab.1) _ _ (SqL.of (s7 _ _ k1)) (atP _ tab.2) (!9) (λp1 hp1=>?_));have gp1:=aC hp1 (.tup [vn (ps.getD (ts.getD i (0,0)).1 0),vn (ps.getD (ts.getD i (0,0)).2 0)]);refine(bP _ _ (SqL.of (gp1 _ _ (s7 _ _ k1))) (atP _ tab.2) _ _ (SqL.of (gp1 _ _ (s7 _ _ k1))) (atP _ tab.1) (!9) (λp2 hp2=>?_));have gp2:=aC hp2 (.tup [vn (ps.getD (ts.getD i (0,0)).2 0),vn (ps.getD (ts.getD i (0,0)).1 0)]);refine⟨!9,λpl hpl=>?_⟩;have gp3:=aC hpl (.lst [.ref p1,.ref p2]);have hat:atI [V.ref p1,V.ref p2] (f:Int)=some (.ref (if f=0 then p1 else p2)):=by
   have:f=0\/f=1:=by lia
   rcases this with rfl | rfl<;>rfl
  have s8:=s7.trans ((gp1.trans gp2).trans gp3);have td8:=((gp1.trans gp2).trans gp3).ts td7;have en8:=gp3 _ _ (gp2 _ _ (gp1 _ _ en7));have htu:(upd (!24) pl (.lst [.ref p1,.ref p2])) (if f=0 then p1 else p2) =
    some (.tup [vn (if f=0 then (ps.getD (ts.getD i (0,0)).1 0,ps.getD (ts.getD i (0,0)).2 0) else (ps.getD (ts.getD i (0,0)).2 0,ps.getD (ts.getD i (0,0)).1 0)).1,vn (if f=0 then (ps.getD (ts.getD i (0,0)).1 0,ps.getD (ts.getD i (0,0)).2 0) else (ps.getD (ts.getD i (0,0)).2 0,ps.getD (ts.getD i (0,0)).1 0)).2]):=by
   by_cases hz:f=0
   ·rw[Yb hz,Yb hz];exact gp3 _ _ (gp2 _ _ aB)
   ·rw[Ya hz,Ya hz];exact gp3 _ _ aB
  have epl:(upd (!24) pl (.lst [.ref p1,.ref p2])) pl=some (.lst [.ref p1,.ref p2]):=aB;generalize upd (!24) pl (.lst [.ref p1,.ref p2])=H8 at s8 td8 en8 htu epl;obtain⟨tq,tq1,tq2,_⟩:=id td8;refine(aW _ _ (SqL.of epl) hat _ _ (SqL.of (s8 _ _ k2)) (atU _ hi) (aG _ (nu.getD i 0) tq1 (qK (by rw[Zq,tq2,tdl];exact hUi)) ?_));have td9:=td8.set (j:=nu.getD i 0) tq1 htu;have s9:aK H4 (upd H8 D (.lst ((tq.map V.ref).set (nu.getD i 0) (.ref (if f=0 then p1 else p2))))):=λb u h=>by rw[aH (aE h hD)];exact s8 _ _ h
  have en9:(upd H8 D (.lst ((tq.map V.ref).set (nu.getD i 0) (.ref (if f=0 then p1 else p2))))) na=some (.lst (!53)):=by rw[aH nD];exact en8
  generalize upd H8 D (.lst ((tq.map V.ref).set (nu.getD i 0) (.ref (if f=0 then p1 else p2))))=H9 at td9 s9 en9;refine(aG _ _ (SqL.of (s9 _ _ k2)) (atU _ hi) (eQ (!7) _ _ (SqL.of (s9 _ _ k2)) (atU _ hi) (xPP (!7) (!9) (λnl hnl=>?_))));have v1:V.int (2*((nu.getD i 0:Nat):Int)+(f:Int))=vn (2*nu.getD i 0+f):=by show V.int _=V.int _;congr 1
  have v2:V.int (2*((nu.getD i 0:Nat):Int)+1-(f:Int))=vn (2*nu.getD i 0+(1-f)):=by show V.int _=V.int _;congr 1;lia
  have gn1:=aC hnl (.lst [V.int (2*((nu.getD i 0:Nat):Int)+(f:Int)),V.int (2*((nu.getD i 0:Nat):Int)+1-(f:Int))]);refine(aO _ _ (gn1 _ _ en9) aB ?_ (λnb hnb=>?_))
  ·rw[Zq,Yj];exact YQ (by show 2*i+2<=1000;lia) (!1)
  have gn2:=aC hnb (.lst ((!53)++[V.int (2*((nu.getD i 0:Nat):Int)+(f:Int)),V.int (2*((nu.getD i 0:Nat):Int)+1-(f:Int))]));obtain⟨tq',tq1',_,_⟩:=id td9;refine(bW nb (fl++[f]) _ _ _ _ _ rfl (s9.trans (gn1.trans gn2)) (eJ (by rw[Zm,hfl];rfl) ?_ ((aE (gn1 _ _ tq1') hnb).symm) ?_ ((gn1.trans gn2).ts td9) (by rw[ZR];exact tdl) ?_))
  ·intro z hz;rcases Zf.mp hz with hz | hz
   ·exact hf1 z hz
   ·have:z=f:=by simpa using hz
    lia
  ·rw[aB];show some (HO.lst ((!53)++[V.int (2*((nu.getD i 0:Nat):Int)+(f:Int)),V.int (2*((nu.getD i 0:Nat):Int)+1-(f:Int))]))=_;rw[v1,v2];subst hfl;rw[MM.ME]
  ·intro k hk;subst hfl;rcases Xk k fl.length with hk' | hk'
   ·have ne:nu.getD fl.length 0≠nu.getD k 0:=λz=>by have:=mU.inj _ _ hi (by lia) z;lia
    have e1:(fl++[f]).getD k 0=fl.getD k 0:=by simp[List.getD,Zx hk']
    have e2:∀z:Nat×Nat,(td.set (nu.getD fl.length 0) z).getD (nu.getD k 0) (0,0)=td.getD (nu.getD k 0) (0,0):=λz=>MM.kU ne;rw[e1,e2];exact hv k hk'
   ·have ek:k=fl.length:=by lia
    subst ek;have e1:(fl++[f]).getD fl.length 0=f:=by simp[List.getD]
    have e2:∀z:Nat×Nat,(td.set (nu.getD fl.length 0) z).getD (nu.getD fl.length 0) (0,0)=z:=λz=>MM.i8 (by rw[tdl];exact hUi);rw[e1,e2]
 ·rintro σ H6 ⟨na,fl,td,o7,o8,o9,o10,rfl,s6,hfl,hf1,nD,en,td6,tdl,hv⟩;rw[trl]at hfl hv en;have hF:∀k,(λk=>fl.getD k 0) k<=1:=λk=>by
   show fl.getD k 0<=1;rw[Zv];cases hk:fl[k]? with
   |none=>simp
   |some z=>exact hf1 z (Zg hk)
  have hNM:=MM.sI mU hF;generalize hnm:MM.nmF (λk=>nu.getD k 0) (λk=>fl.getD k 0)=NM at en hNM;have s0:=g4.trans s6;refine⟨⟨_,SqL.of (s0 _ _ rr1)⟩,λD2 hD2=>?_⟩;refine comp_map os.length (λi ys H'=>∃rr':List Addr,ys=rr'.map V.ref/\cE H6 H' D2 rr' (ZG i [])/\aK H6 H') (aM ([]) rfl ⟨aB,rfl,λi l h=>by simp at h,List.nodup_nil,by simp,hD2,λx hx=>by cases hx⟩ (aC hD2 _)) ?_ ?_
  ·rintro i ys H' hi ⟨rr',rfl,n',g'⟩;have hx:(rr.map V.ref)[i]?=some (.ref (rr[i]'(by lia))):=by rw[Zk,Zz (by lia)];rfl
   refine⟨(bM _ _ (SqL.of (g' _ _ (s0 _ _ rr1))) hx),?_⟩;rintro x H'' ⟨rfl,hx'⟩;refine⟨(Fills.refl _).set _ rfl,?_⟩;refine⟨!23,λnl hnl=>?_⟩;have g5:=aC hnl (!49);have nlr:nl∉rr':=λz=>by obtain⟨l,hl⟩:=n'.ex z;rw[hnl]at hl;cases hl
   have nlo:nl≠D2:=(aE n'.at_ hnl).symm;refine(zH (g5 _ _ n'.at_) ?_ (rr'++[nl]) (by rw[Zt];rfl) ?_ ?_)
   ·rw[Zq,n'.len,List.length_replicate];exact Xz hi (YQ ho400 (!1))
   ·rw[List.replicate_succ'];exact n'.push (x:=nl) (l:=[]) (g'.free hnl) nlr nlo (by rw[aB,Zt];rfl) (by rw[aH nlo];exact aB) λb u hb h=>by rw[aH (show b≠D2 from λz=>n'.nin (z▸hb))];exact g5 _ _ h
   ·exact λb o h=>by rw[aH (aE h hD2)];exact g5 _ _ (g' _ _ h)
  rintro ys H7 ⟨rr7,rfl,n7,g7⟩;refine⟨(xWP _ (SqL.of (g7 _ _ (s0 _ _ rr1))) (by rw[rrl];exact ZC _)),?_⟩;refine(aM oa rfl ⟨_,SqL.of (g7 _ _ (s0 _ _ rr1))⟩ (dJ (xs:=rr.map V.ref) (λi σ H'=>∃(rr':List Addr) (rows:MM.aN) (o12 o13 o14:Option V),
    σ=[some (.ref ta),some (.ref oa),some (.int c),some (.ref pr),some (.ref nr),some (.ref na),some (.ref D),o7,o8,o9,o10,some (.ref D2),o12,o13,o14]/\aK H6 H'/\cE H6 H' D2 rr' rows/\rows.length=os.length /\
    ∀p,p<i->∃l:List Nat,MM.row rows (ps.getD p 0)=l.map NM/\MM.Rot l (MM.row os p))
   (a7 rr7 _ none none none rfl g7 n7 (!5) (λp hp=>Yg hp (Nat.not_lt_zero _))) (λi σ H' _ h=>by obtain⟨rr',rows,o12,o13,o14,_,h1,_⟩:=h;exact SqL.of (h1 _ _ (s0 _ _ rr1))) ?_ ?_))
  ·rintro i x σ H8 Tt hx ⟨rr',rows,o12,o13,o14,rfl,s8,n8,rl8,hw⟩ hTt;have hi:i<os.length:=by have:=(Zj.mp hx).1;lia
   obtain⟨xo,xo1,xo2⟩:=rr3 i _ (Zz hi);have ex:x=.ref xo:=by rw[Zk,xo1]at hx;cases hx;rfl
   subst ex;have hrow:MM.row os i=os[i]:=by unfold MM.row;rw[Zv,Zz hi];rfl
   rw[<-hrow]at xo2;have hfull:=g.g.full i hi;have hfour:=g.g.four i;have hlt:∀e∈MM.row os i,e<2*ts.length:=λe he=>(g.g.ends i e he).1;generalize hord:MM.row os i=ord at xo2 hfull hfour hlt;have hPi:=mP.lt i hi;have gT:=aC hTt (.tup [vn i,.ref xo]);have s9:=s8.trans gT;have n9:cE H6 (upd H8 Tt (.tup [vn i,.ref xo])) D2 rr' rows:=n8.keep λb u _ h=>gT _ _ h;refine(!31);generalize upd H8 Tt (.tup [vn i,.ref xo])=H9 at s9 n9;have exo:=s9 _ _ (s0 _ _ xo2);have ordl:(vns ord).length=ord.length:=Zq _;have ordp:0<ord.length:=List.length_pos_iff.mpr hfull;refine(aO c 3 rfl (!1) (!1) (λm3 hm3 _=>(hJ m3 4 i rfl (!1) (!1) (by lia) (by lia) (λd hd0 hd1=>(aO xo _ rfl (.inl (SqL.of exo)) (by show(0:Int)<((vns ord).length:Nat);lia) ?_)))));obtain⟨k,hk,ek⟩:=MM.mL d (n:=(vns ord).length) (by lia);show cS 14 (V.int (d%((vns ord).length:Nat))) _ _ _;rw[ek];refine(xWP _ (SqL.of exo) (λs1 hs1=>?_));rw[JN ord (by lia)];have gs1:=aC hs1 (.lst (vns (ord.drop k)));refine(xWP _ (SqL.of (gs1 _ _ exo)) (λs2 hs2=>?_));rw[QH ord (by lia)];have gs2:=aC hs2 (.lst (vns (ord.take k)));refine(aO _ _ (gs2 _ _ aB) aB ?_ (λrl hrl=>?_))
   ·rw[Zq,Zq,Yp,Yw];exact YQ (by lia:_<=100) (!1)
   rw[<-jR];have gs3:=aC hrl (.lst (vns (ord.drop k++ord.take k)));have hperm:=GR ord k;have s10:=s9.trans ((gs1.trans gs2).trans gs3);have n10:cE H6 (upd (upd (upd H9 s1 (.lst (vns (ord.drop k)))) s2 (.lst (vns (ord.take k)))) rl (.lst (vns (ord.drop k++ord.take k)))) D2 rr' rows:=n9.keep λb u _ h=>gs3 _ _ (gs2 _ _ (gs1 _ _ h));have erl:(upd (upd (upd H9 s1 (.lst (vns (ord.drop k)))) s2 (.lst (vns (ord.take k)))) rl (.lst (vns (ord.drop k++ord.take k)))) rl=some (.lst (vns (ord.drop k++ord.take k))):=aB;generalize upd (upd (upd H9 s1 (.lst (vns (ord.drop k)))) s2 (.lst (vns (ord.take k)))) rl (.lst (vns (ord.drop k++ord.take k)))=H10 at s10 n10 erl;have hrot:MM.Rot (ord.drop k++ord.take k) ord:=⟨k,rfl⟩
   generalize ord.drop k++ord.take k=rot at erl hperm hrot;refine⟨⟨_,SqL.of erl⟩,λD3 hD3=>?_⟩;refine comp_map rot.length (λi ys H'=>ys=vns ((rot.take i).map NM)/\H'=upd H10 D3 (.lst ys)) ⟨rfl,rfl⟩ ?_ ?_
   ·rintro j ys H' hj ⟨rfl,rfl⟩;have gD:=aC hD3 (.lst (vns ((rot.take j).map NM)));have hx:(vns rot)[j]?=some (vn rot[j]):=by rw[Zk,Zz hj];rfl
    refine⟨(bM _ _ (SqL.of (gD _ _ erl)) hx),?_⟩;rintro x' H'' ⟨rfl,hx'⟩;have e6:=hx' _ (SqL.of (gD _ _ erl));rw[hx]at e6;cases e6;have hjl:=hlt rot[j] (hperm.mem_iff.mp (Zp hj));have hat:atI ((ZS (!2)).map λe=>vn (NM e)) ((rot[j]:Nat):Int)=some (vn (NM rot[j])):=dA (by rw[Zk,Yk hjl];rfl);have hrl5:rot.length<=4:=by rw[hperm.length_eq];exact hfour
    refine⟨(Fills.refl _).set _ rfl,?_⟩;refine(cG _ _ (SqL.of (gD _ _ (s10 _ _ en))) hat aB ?_ ?_ ?_)
    ·rw[Zq,Zq,Yw];exact Xq (by lia:_<=4) (!1)
    ·rw[List.take_add_one,Zz hj,Zt,jR];rfl
    ·rw[fB]
   ·rintro ys H' ⟨rfl,rfl⟩;rw[Yv];have gD:=aC hD3 (.lst (vns (rot.map NM)));refine⟨(xWP _ (SqL.of (gD _ _ erl)) (!54)),?_⟩;have D3r:D3∉rr':=λz=>by obtain⟨l,hl⟩:=n10.ex z;rw[hD3]at hl;cases hl
    have D3o:D3≠D2:=(aE n10.at_ hD3).symm;refine(aG _ _ (SqL.of (gD _ _ (s10 _ _ (s6 _ _ k1)))) (atP i hi) (aG _ (ps.getD i 0) (gD _ _ n10.at_) (qK (by rw[Zq,n10.len,rl8];exact hPi)) ?_));have n11:=n10.setRef (x:=D3) (l:=rot.map NM) (p:=ps.getD i 0) (H2:=upd (upd H10 D3 (.lst (vns (rot.map NM)))) D2 (.lst ((rr'.map V.ref).set (ps.getD i 0) (.ref D3)))) (s10.free hD3) D3r D3o (by rw[aB,ZH]) (by rw[aH D3o];exact aB)
     λb u hb h=>by rw[aH (show b≠D2 from λz=>n10.nin (z▸hb))];exact gD _ _ h
    refine(a7 _ _ _ _ _ rfl ?_ n11 (by rw[ZR];exact rl8) (λp hp=>?_))
    ·exact λb u h=>by rw[aH (aE h hD2)];exact gD _ _ (s10 _ _ h)
    ·rcases Xk p i with hp' | hp'
     ·have ne:ps.getD p 0≠ps.getD i 0:=λz=>by have:=mP.inj p i (by lia) hi z;lia
      rw[MM.eT ne];exact hw p hp'
     ·have ep:p=i:=by lia
      subst ep;rw[MM.cP (by rw[rl8];exact hPi),hord];exact(xWP rot rfl hrot)
  ·rintro σ H8 ⟨rr',rows,o12,o13,o14,rfl,s8,n8,rl8,hw⟩;rw[rrl]at hw;refine(aO oa _ rfl (.inl (SqL.of (s8 _ _ (s0 _ _ rr1)))) (by show 3<=ZW;decide) (λr hr'=>?_));have gr:=aC hr' (.tup [.int ((rr.map V.ref).length:Nat),.ref D,.ref D2]);obtain⟨tq,tq1,_,_⟩:=id td6;have nb:cE H (upd H8 r (.tup [.int ((rr.map V.ref).length:Nat),.ref D,.ref D2])) D2 rr' rows :=
    ⟨gr _ _ n8.at_,n8.len,(n8.keep (λb u _ h=>gr _ _ h)).row,n8.nd,n8.nin,s0.free n8.new,λx hx=>s0.free (n8.news x hx)⟩
   refine q r D D2 rr' td rows _ ((s0.trans s8).trans gr) (by rw[aB,rrl]) ⟨(s8.trans gr).ts td6,nb,g4.free hD,aE tq1 hD2,λz=>by have:=n8.news D z;rw[tq1]at this;cases this⟩ ?_ tdl rl8 ?_
   ·refine MM.m5 g mU hF mP tdl rl8 hv λp hp=>?_;obtain⟨l,h1,h2⟩:=hw p hp;rw[hnm];exact(xWP l h1 h2.perm)
   ·refine MM.tM g mU hF mP tdl rl8 hv ?_;rw[hnm];exact hw
end K27
namespace MM
theorem good2:Good [(0,1)] [[0],[1]] where
 one:=ZC _
 g:={
  ends:=λp e he=>by
   match p,he with
   |0,he =>
    have h:e=0:=by simpa[row] using he
    subst h;exact⟨by decide,rfl⟩
   |1,he =>
    have h:e=1:=by simpa[row] using he
    subst h;exact⟨by decide,rfl⟩
   |p+2,he=>simp[row]at he
  has:=λe he=>by
   have:e=0\/e=1:=by simp at he;lia
   rcases this with rfl | rfl<;>exact⟨by decide,by decide⟩
  nd:=λp=>by
   match p with
   |0=>decide
   |1=>decide
   |p+2=>simp[row]
  full:=λp hp=>by
   match p,hp with
   |0,_=>decide
   |1,_=>decide
   |p+2,hp=>exact Yg hp (by show ¬p+2<2;lia)
  four:=λp=>by
   match p with
   |0=>decide
   |1=>decide
   |p+2=>simp[row] }
theorem NU:Good [(0,0)] [[0,1]] where
 one:=ZC _
 g:={
  ends:=λp e he=>by
   match p,he with
   |0,he =>
    have h:e=0\/e=1:=by simpa[row] using he
    rcases h with rfl | rfl<;>exact⟨by decide,rfl⟩
   |p+1,he=>simp[row]at he
  has:=λe he=>by
   have:e=0\/e=1:=by simp at he;lia
   rcases this with rfl | rfl<;>exact⟨by decide,by decide⟩
  nd:=λp=>by
   match p with
   |0=>decide
   |p+1=>simp[row]
  full:=λp hp=>by
   match p,hp with
   |0,_=>decide
   |p+1,hp=>exact Yg hp (by show ¬p+1<1;lia)
  four:=λp=>by
   match p with
   |0=>decide
   |p+1=>simp[row] }
theorem R4:Flat [(0,1)] [[0],[1]]:=by
 have f0:behind [(0,1)] [[0],[1]] 0=1:=by decide
 have f1:behind [(0,1)] [[0],[1]] 1=0:=by decide
 have m:=good2.maps;have a:pT (behind [(0,1)] [[0],[1]]) (ZS 2) [0]:=by
  refine⟨by simp,by simp,λx hx=>(xWP 0 (!5) ?_),λr hr r' hr' _=>?_⟩
  ·have hx:=Zs.mp hx;rw[bH m (!1)]
   match x,hx with
   |0,_=>exact⟨0,rfl⟩
   |1,_=>exact⟨1,f0⟩
  ·rw[Zb]at hr hr';rw[hr,hr']
 have c:=gM (N:=2) m a;show 2+(aS (behind [(0,1)] [[0],[1]]) 2).length=3;rw[c];rfl
theorem R7:Flat [(0,0)] [[0,1]]:=by
 have f0:behind [(0,0)] [[0,1]] 0=0:=by decide
 have f1:behind [(0,0)] [[0,1]] 1=1:=by decide
 have m:=NU.maps;have i0:∀k,iter (behind [(0,0)] [[0,1]]) k 0=0:=λk=>by
  induction k with
  |zero=>rfl
  |succ k ih=>show behind _ _ (iter _ k 0)=0;rw[ih,f0]
 have i1:∀k,iter (behind [(0,0)] [[0,1]]) k 1=1:=λk=>by
  induction k with
  |zero=>rfl
  |succ k ih=>show behind _ _ (iter _ k 1)=1;rw[ih,f1]
 have a:pT (behind [(0,0)] [[0,1]]) (ZS 2) [0,1]:=by
  refine⟨by simp,by simp,λx hx=>(xWP x ?_ (eG m (Zs.mp hx))),λr hr r' hr' z=>?_⟩
  ·have hx:=Zs.mp hx
   match x,hx with
   |0,_=>simp
   |1,_=>simp
  ·have hr2:r=0\/r=1:=by simpa using hr
   rcases hr2 with rfl | rfl
   ·obtain⟨k,hk⟩:=(bH m (!1)).mp z;rw[i0]at hk;exact hk
   ·obtain⟨k,hk⟩:=(bH m (!1)).mp z;rw[i1]at hk;exact hk
 have c:=gM (N:=2) m a;show 1+(aS (behind [(0,0)] [[0,1]]) 2).length=3;rw[c];rfl
theorem fc2:FC [(0,1)] [[0],[1]]:=⟨R4,yQ rfl⟩
theorem fc1:FC [(0,0)] [[0,1]]:=⟨R7,yQ rfl⟩
end MM
namespace L2
open PySem PyProof.Rows
theorem nV.bse{H0 H1 H:Hp}{a o:Addr}{rr:List Addr}{ts:MM.aP}{os:MM.aN}(m:nV H1 H a o rr ts os)(g:aK H0 H1):nV H0 H a o rr ts os :=
 ⟨m.ts,⟨m.os.at_,m.os.len,m.os.row,m.os.nd,m.os.nin,g.free m.os.new,λx hx=>g.free (m.os.news x hx)⟩,g.free m.an,m.ao,m.ar⟩
end L2
namespace K27
open PySem L2 PyProof.Rows
def Q2:Sp:=λvs H Q _=>∃(sa:Addr) (ns:List Int) (steps most:Int),vs=[.ref sa,.int steps,.int most]/\SqL H sa (!39)/\0<=steps/\steps<=30 /\
 ∀(r tA oA:Addr) (rr:List Addr) (ts:MM.aP) (os:MM.aN) (H':Hp),aK H H'->H' r=some (.tup [vn os.length,.ref tA,.ref oA])->nV H H' tA oA rr ts os->MM.Good ts os->ts.length<=40->os.length<=40->(ts.length:Int)<=steps+1->MM.FC ts os->Q (.ref r) H'
theorem LZ(T:Txt K mg t):Ok P w base T 76 5 (Q2):=by
 left
 obtain⟨sa,ns,steps,most,rfl,hS,hs0,hs1,q⟩:=h;refine(xWP _ (by exists 3,iV,0,4,5,dF,iH,3,4,5,iH,3,aX,1,6,HR,4,5,iH,iV,0,aX,6,aX,6,2,xU,4,5,iV,0) ?_);refine(cI sa ns 0 rfl hS (!1) (λc=>?_));refine⟨!9,λt0 ht0=>⟨(by show 1<=ZW;decide),λta hta=>?_⟩⟩;have a1:=aC ht0 (.tup [vn 0,vn 1]);have a2:=aC hta (.lst [.ref t0]);refine⟨(by show 1<=ZW;decide),λo0 ho0=>⟨(by show 1<=ZW;decide),λo1 ho1=>⟨!9,λoa hoa=>?_⟩⟩⟩;have a3:=aC ho0 (.lst [vn 0]);have a4:=aC ho1 (.lst [vn 1]);have a5:=aC hoa (.lst [.ref o0,.ref o1]);have gA:=(((a1.trans a2).trans a3).trans a4).trans a5;have n01:o0≠o1:=aE aB ho1;have n0a:oa≠o0:=(aE (a4 _ _ aB) hoa).symm;have n1a:oa≠o1:=(aE aB hoa).symm;have mA:nV H (upd (upd (upd (upd (upd H t0 (.tup [vn 0,vn 1])) ta (.lst [.ref t0])) o0 (.lst [vn 0])) o1 (.lst [vn 1])) oa (.lst [.ref o0,.ref o1])) ta oa [o0,o1] [(0,1)] [[0],[1]]:=by
  refine⟨(aM ([t0]) (a5 _ _ (a4 _ _ (a3 _ _ aB))) rfl (λi u hu=>?_)),⟨aB,rfl,λi u hu=>?_,by simp[n01],by simp[n0a,n1a],?_,λx hx=>?_⟩,a1.free hta,aE (a4 _ _ (a3 _ _ aB)) hoa,λz=>?_⟩
  ·match i,hu with
   |0,hu=>cases hu;exact(xWP t0 rfl (a5 _ _ (a4 _ _ (a3 _ _ (a2 _ _ aB)))))
   |i+1,hu=>simp at hu
  ·match i,hu with
   |0,hu=>cases hu;exact(xWP o0 rfl (a5 _ _ (a4 _ _ aB)))
   |1,hu=>cases hu;exact(xWP o1 rfl (a5 _ _ aB))
   |i+2,hu=>simp at hu
  ·exact((a1.trans a2).trans (a3.trans a4)).free hoa
  ·have hx':x=o0\/x=o1:=by simpa using hx
   rcases hx' with rfl | rfl
   ·exact(a1.trans a2).free ho0
   ·exact((a1.trans a2).trans a3).free ho1
  ·have hz:ta=o0\/ta=o1:=by simpa using z
   rcases hz with rfl | rfl
   ·exact aE aB ho0 rfl
   ·exact aE (a3 _ _ aB) ho1 rfl
 have gdA:=MM.good2;generalize upd (upd (upd (upd (upd H t0 (.tup [vn 0,vn 1])) ta (.lst [.ref t0])) o0 (.lst [vn 0])) o1 (.lst [vn 1])) oa (.lst [.ref o0,.ref o1])=HA at gA mA;clear a1 a2 a3 a4 a5 n01 n0a n1a ht0 hta ho0 ho1 hoa;refine(aO c 0 rfl (!1) (!1) (λm0 hm0 _=>⟨(by show(0:Int)<4;decide),?_⟩));refine i2 (λcc=>?_) (λcc=>?_)
 ·refine⟨!9,λt1 ht1=>⟨(by show 1<=ZW;decide),λtb htb=>?_⟩⟩;have a1:=aC ht1 (.tup [vn 0,vn 0]);have a2:=aC htb (.lst [.ref t1]);refine⟨!9,λo2 ho2=>⟨(by show 1<=ZW;decide),λob hob=>?_⟩⟩;have a3:=aC ho2 (.lst [vn 0,vn 1]);have a4:=aC hob (.lst [.ref o2]);have gB:=gA.trans (((a1.trans a2).trans a3).trans a4);have mB:nV H (upd (upd (upd (upd HA t1 (.tup [vn 0,vn 0])) tb (.lst [.ref t1])) o2 (.lst [vn 0,vn 1])) ob (.lst [.ref o2])) tb ob [o2] [(0,0)] [[0,1]]:=by
   refine⟨(aM ([t1]) (a4 _ _ (a3 _ _ aB)) rfl (λi u hu=>?_)),⟨aB,rfl,λi u hu=>?_,by simp,by simp;exact(aE aB hob).symm,?_,λx hx=>?_⟩,gA.free (a1.free htb),aE (a3 _ _ aB) hob,λz=>?_⟩
   ·match i,hu with
    |0,hu=>cases hu;exact(xWP t1 rfl (a4 _ _ (a3 _ _ (a2 _ _ aB))))
    |i+1,hu=>simp at hu
   ·match i,hu with
    |0,hu=>cases hu;exact(xWP o2 rfl (a4 _ _ aB))
    |i+1,hu=>simp at hu
   ·exact gA.free ((a1.trans (a2.trans a3)).free hob)
   ·have hx':x=o2:=by simpa using hx
    subst hx';exact gA.free ((a1.trans a2).free ho2)
   ·have hz:tb=o2:=by simpa using z
    exact aE aB ho2 hz
  have gdB:=MM.NU;generalize upd (upd (upd (upd HA t1 (.tup [vn 0,vn 0])) tb (.lst [.ref t1])) o2 (.lst [vn 0,vn 1])) ob (.lst [.ref o2])=HB at gB mB;clear a1 a2 a3 a4 ht1 htb ho2 hob;refine(aO c 1 rfl (!1) (!1) (λm1 hm1 _=>(zD (by show(0:Int)<steps+1;lia) (m1%(steps+1)) rfl ?_ ?_ ?_)))
  ·have:=Xw m1 (show steps+1≠0 by lia);lia
  ·have:=Xx m1 (show 0<steps+1 by lia);lia
  have hn:((m1%(steps+1)).toNat:Int)<=steps:=by have:=Xx m1 (show 0<steps+1 by lia);lia
  refine cK (lo:=0) (n:=(m1%(steps+1)).toNat) (λi σ H'=>∃(rr:List Addr) (ts:MM.aP) (os:MM.aN) (o6:Option V),σ=[some (.ref sa),some (.int steps),some (.int most),some (.int c),some (.ref tb),some (.ref ob),o6]/\aK H H'/\nV H H' tb ob rr ts os/\MM.Good ts os/\ts.length<=i+1/\os.length<=i+2/\MM.FC ts os)
   (bG _ _ _ none rfl gB mB gdB (!5) ⟨ by simp,MM.fc1⟩) ?_ ?_
  ·rintro i σ H1 hi ⟨rr,ts,os,o6,rfl,g1,hm,gd,l1,l2,fl⟩;refine(wX (by show(0:Int)<6;decide) sa ns _ rfl (g1.seq hS) (by lia) (λc2=>(aO _ _ rfl (by lia) (by lia) (λm2 hm2 _=>(iC H tb ob m2 most rr ts os rfl (eJ g1 hm gd (by lia) (by lia) hm2 ?_))))));exact λH2 rr' ts' os' g' hm' gd' k1 k2 gw=>(bG rr' ts' os' _ rfl g' hm' gd' (by lia) ⟨ by lia,gw.fc fl⟩)
  ·rintro σ H1 ⟨rr,ts,os,o6,rfl,g1,hm,gd,l1,l2,fl⟩;refine(cI sa ns 1 rfl (g1.seq hS) (!1) (λc3=>(a7 tb ob c3 ts os rfl hm.ts hm.os.os gd (xPP (by lia) (by lia) ?_))));exact λr tA oA rr' ts' os' H2 g2 er hm2 gd2 k1 k2 k3=>q r tA oA rr' ts' os' H2 (g1.trans g2) (by rw[er,k2]) (hm2.bse g1) gd2 (by lia) (by lia) (by lia) ⟨by have:=fl.flat;have:=k3.1;unfold MM.Flat at *;lia,k3.2 fl.conn⟩
 ·refine(aO c 1 rfl (!1) (!1) (λm1 hm1 _=>(zD (by show(0:Int)<steps+1;lia) (m1%(steps+1)) rfl ?_ ?_ ?_)))
  ·have:=Xw m1 (show steps+1≠0 by lia);lia
  ·have:=Xx m1 (show 0<steps+1 by lia);lia
  have hn:((m1%(steps+1)).toNat:Int)<=steps:=by have:=Xx m1 (show 0<steps+1 by lia);lia
  refine cK (lo:=0) (n:=(m1%(steps+1)).toNat) (λi σ H'=>∃(rr:List Addr) (ts:MM.aP) (os:MM.aN) (o6:Option V),σ=[some (.ref sa),some (.int steps),some (.int most),some (.int c),some (.ref ta),some (.ref oa),o6]/\aK H H'/\nV H H' ta oa rr ts os/\MM.Good ts os/\ts.length<=i+1/\os.length<=i+2/\MM.FC ts os)
   (bG _ _ _ none rfl gA mA gdA (!5) ⟨ by simp,MM.fc2⟩) ?_ ?_
  ·rintro i σ H1 hi ⟨rr,ts,os,o6,rfl,g1,hm,gd,l1,l2,fl⟩;refine(wX (by show(0:Int)<6;decide) sa ns _ rfl (g1.seq hS) (by lia) (λc2=>(aO _ _ rfl (by lia) (by lia) (λm2 hm2 _=>(iC H ta oa m2 most rr ts os rfl (eJ g1 hm gd (by lia) (by lia) hm2 ?_))))));exact λH2 rr' ts' os' g' hm' gd' k1 k2 gw=>(bG rr' ts' os' _ rfl g' hm' gd' (by lia) ⟨ by lia,gw.fc fl⟩)
  ·rintro σ H1 ⟨rr,ts,os,o6,rfl,g1,hm,gd,l1,l2,fl⟩;refine(cI sa ns 1 rfl (g1.seq hS) (!1) (λc3=>(a7 ta oa c3 ts os rfl hm.ts hm.os.os gd (xPP (by lia) (by lia) ?_))));exact λr tA oA rr' ts' os' H2 g2 er hm2 gd2 k1 k2 k3=>q r tA oA rr' ts' os' H2 (g1.trans g2) (by rw[er,k2]) (hm2.bse g1) gd2 (by lia) (by lia) (by lia) ⟨by have:=fl.flat;have:=k3.1;unfold MM.Flat at *;lia,k3.2 fl.conn⟩
end K27
namespace L2
open PySem PyProof.Rows
def dB(H:Hp)(w:Addr)(n:Nat)(ts:MM.aP)(os:MM.aN):Prop:=∃tA oA:Addr,H w=some (.tup [vn n,.ref tA,.ref oA])/\gN H tA ts/\nU H oA os
theorem aK.web{H H':Hp}(g:aK H H'){w:Addr}{n:Nat}{ts:MM.aP}{os:MM.aN}(h:dB H w n ts os):dB H' w n ts os:=by
 obtain⟨tA,oA,h1,h2,h3⟩:=h;exact(aG tA oA (g _ _ h1) (g.ts h2) (g.os h3))
end L2
namespace K27
open PySem L2 PyProof.Rows
theorem kM(T:Txt K mg t):Ok P w base T 16 1 GD:=by
 left
 obtain⟨e,rfl,q⟩:=h;refine(xWP _ (by exists O4,0) ?_);have e1:Builtin.bitXor (e:Int) 1=((MM.oth e:Nat):Int):=by
  rw[PyProof.Rows.bitXor_and,PyProof.Rows.bitAnd_m1];unfold MM.oth;split<;>lia
 show Q (.int (Builtin.bitXor (e:Int) 1)) H;rw[e1];exact q
def F7:Sp:=λvs H Q _=>∃(wa:Addr) (n:Nat) (ts:MM.aP) (os:MM.aN) (e:Nat),vs=[.ref wa,vn e]/\dB H wa n ts os/\e<2*ts.length/\Q (vn (MM.place ts e)) H
theorem HQ(T:Txt K mg t):Ok P w base T 17 1 F7:=by
 left
 obtain⟨wa,n,ts,os,e,rfl,⟨tA,oA,hw,ht,ho⟩,he,q⟩:=h;refine(xWP _ (by exists mR,mR,aI,0,bS,1,1) ?_);obtain⟨xs,r,h1,h2,h3,h4⟩:=ht.item (i:=e / 2) (by lia);refine(aO _ (.ref tA) (SqT.of hw) rfl ⟨by decide,by decide⟩ (.inl (aG xs _ (SqL.of h1) (by show atI xs ((e:Int) / 2)=_;rw[show(e:Int) / 2=((e / 2:Nat):Int) by lia];exact h3) ?_)));refine⟨(by show(0:Int)<2;decide),.inr (.inl (aG _ _ (SqT.of h4) (C9 e) ?_))⟩;unfold MM.place at q;split
 ·rename_i h;rw[Yb h]at q;exact q
 ·rename_i h;rw[Ya h]at q;exact q
def OD:Sp:=λvs H Q _=>∃(wa:Addr) (n:Nat) (ts:MM.aP) (os:MM.aN) (e:Nat),vs=[.ref wa,vn e]/\dB H wa n ts os/\e<2*ts.length/\Q (vn (MM.place ts (!46))) H
theorem vT(T:Txt K mg t):Ok P w base T 18 2 OD:=by
 left
 obtain⟨wa,n,ts,os,e,rfl,hw,he,q⟩:=h;refine(xWP _ (by exists HQ,0,kM,1) ?_);exact(qT e rfl wa n ts os (!46) rfl hw ⟨ MM.aZ he,q⟩)
def GL:Sp:=λvs H Q _=>∃(wa:Addr) (n:Nat) (ts:MM.aP) (os:MM.aN) (e:Nat),vs=[.ref wa,vn e]/\dB H wa n ts os/\MM.Good ts os/\e<2*ts.length/\Q (vn (MM.behind ts os e)) H
theorem uK(T:Txt K mg t):Ok P w base T 19 3 GL:=by
 left
 obtain⟨wa,n,ts,os,e,rfl,hw,g,he,q⟩:=h;refine(xWP _ (by exists 2,mR,aI,0,vT,0,1,aJ,2,iU YO PySem.F.slot_list_index PySem.F.type_list_index kO ?_ ?_,2,kM,1) ?_);obtain⟨tA,oA,hw1,ht,ho⟩:=id hw;have hp:=g.g.has (!46) (MM.aZ he);obtain⟨xs,r,h1,h2,h3,h4⟩:=ho.item hp.1;refine(aG _ (.ref oA) (SqT.of hw1) rfl (gZ wa n ts os e rfl hw he (.inl (aG xs _ (SqL.of h1) h3 ?_))));exact(tU (.inl ⟨rfl,_,SqL.of h4⟩) e rfl _ _ rfl h4 hp.2 (aG _ _ (SqL.of h4) (C8 hp.2) q))
def zX:Sp:=λvs H Q _=>∃(wa:Addr) (n:Nat) (ts:MM.aP) (os:MM.aN) (e:Nat),vs=[.ref wa,vn e]/\dB H wa n ts os/\MM.Good ts os/\ts.length<=500/\e<2*ts.length/\∀r,H r=none->Q (.ref r) (upd H r (.lst (vns (MM.aL (MM.behind ts os) e))))
theorem xW(T:Txt K mg t):Ok P w base T 21 4 zX:=by
 left
 obtain⟨wa,n,ts,os,e,rfl,hw,g,h500,he,q⟩:=h;refine(xWP _ (by exists 2,1,3,uK,0,1,fX,3,1,2,3,3,uK,0,3,2) ?_);have m:=g.maps;obtain⟨rd,rdN⟩:=MM.cZ m he;refine⟨(by show 1<=ZW;decide),λla hla=>?_⟩;have g1:=aC hla (.lst [vn e]);refine(a7 wa n ts os e rfl (g1.web hw) g he ?_);generalize hf:MM.behind ts os=f at m rd rdN q;refine⟨λk σ H4=>∃j,k=MM.per f e-j/\0<j/\j<=MM.per f e/\σ=[some (.ref wa),some (vn e),some (.ref la),some (vn (MM.iter f j e))]/\H4=upd H la (.lst (vns (MM.path f e j))),(bO _ 1 rfl Nat.one_pos rd.1 rfl rfl),?_⟩;rintro k σ H4 ⟨j,rfl,hj0,hj,rfl,rfl⟩;by_cases hc:MM.iter f j e=e
 ·refine iFb (by rw[hc];simp) ?_;have ej:j=MM.per f e:=by
   rcases Xk j (MM.per f e) with z | z
   ·exact Yg hc (rd.2.2 j hj0 z)
   ·lia
  subst ej;exact(q la hla)
 ·refine iTb (!41) ?_;have hjp:=MM.rS rd hj0 hj hc;refine(xWP _ (λσ' H' h=>h) ?_);refine(j9 (.inl ⟨rfl,_,SqL.of aB⟩) _ aB ?_ ?_)
  ·rw[Zq,MM.kL];exact Xq (by lia:j<=1000) (!1)
  have e7:vns (MM.path f e j)++[vn (MM.iter f j e)]=vns (MM.path f e (j+1)):=by rw[MM.oO,jR];rfl
  rw[e7,fB];refine(a7 wa n ts os (MM.iter f j e) rfl ((aC hla _).web hw) g (MM.cF m he j) ?_);rw[hf];exact(FB (MM.per f e-(j+1)) (by lia) (j+1) rfl (by lia) (by lia) rfl rfl)
end K27
namespace MM
theorem yK{p:Nat->Bool}{N i:Nat}(hi:i<N)(h0:∀j,j<i->p j=false)(h1:p i=true):∃r,(ZS N).filter p=i::r:=by
 have e:N=(i+1)+(N-(i+1)):=by omega
 rw[e,List.range_add,ZI,List.filter_append,List.filter_append];have e1:(ZS i).filter p=[]:=by
  rw[List.filter_eq_nil_iff];intro a ha;rw[h0 a (Zs.mp ha)];exact YT
 rw[e1,List.nil_append,List.filter_cons,Yb h1];exact⟨_,rfl⟩
end MM
namespace K27
open PySem L2 PyProof.Rows
def KU:Sp:=λvs H Q _=>∃(wa:Addr) (n:Nat) (ts:MM.aP) (os:MM.aN),vs=[.ref wa]/\dB H wa n ts os/\MM.Good ts os/\ts.length<=500 /\
 ∀(r:Addr) (rr:List Addr) (H':Hp),aK H H'->cE H H' r rr (!40)->Q (.ref r) H'
theorem kN(T:Txt K mg t):Ok P w base T 20 5 KU:=by
 refine T.okN 20 (scm:dU ["web","told","seen","first","land","end"] _ _) (λvs H Q E h=>?_) ?_
 ·obtain⟨wa,n,ts,os,rfl,_⟩:=h;rfl
 sleep 14;obtain⟨wa,n,ts,os,rfl,hw,g,h500,q⟩:=h;refine(xWP _ (by exists 1,(fH 2 ["end"] [none]),aI,0,0,aI,0,3,bT ?_ (λ_=>rfl),aJ,2,3,4,xW,0,3,bE ?_,4,5,dD ?_ ?_,eI ?_ ?_ set_list,2,5,1,4,1) ?_);have m:=g.maps;obtain⟨tA,oA,hw1,ht,ho⟩:=id hw;obtain⟨tr,tr1,tr2,tr3⟩:=id ht;have eN:(2:Int)*((!32).length:Nat)=((2*ts.length:Nat):Int):=by rw[Zq,tr2];push_cast;rfl
 refine⟨!23,λD1 hD1=>?_⟩;have g1:=aC hD1 (!49);refine(bP _ (.ref tA) (SqT.of (g1 _ _ hw1)) rfl tA _ rfl (.inl (SqL.of (g1 _ _ tr1))) (!7) (cC _ rfl ?_ ?_ (λD2 hD2=>?_)))
 ·show -(2 ^ 62)<=(2:Int)*((!32).length:Nat);lia
 ·show(2:Int)*((!32).length:Nat)<2 ^ 62;rw[eN];lia
 have eN2:((2:Int)*((!32).length:Nat)).toNat=2*ts.length:=by rw[eN];exact Int.toNat_natCast _
 generalize hf:MM.behind ts os=f at m q;generalize hN:2*ts.length=N at m q eN eN2;refine comp_map N (λi ys H'=>ys=(ZG i false).map V.bl/\H'=upd (upd H D1 (!49)) D2 (.lst ys)) ⟨rfl,rfl⟩ ?_ ?_
 ·rintro i ys H' hi ⟨rfl,rfl⟩;refine⟨(by show i<((2:Int)*((!32).length:Nat)).toNat;lia),?_⟩;rintro x H'' ⟨rfl,rfl⟩;refine(bK (!13) aB ?_ ?_ ?_)
  ·rw[Zq,List.length_replicate];exact Xz hi (YQ (by lia:N<=1000) (!1))
  ·rw[List.replicate_succ',Zt];rfl
  ·rw[fB]
 rintro ys H2 ⟨rfl,rfl⟩;refine⟨(by show((2:Int)*((!32).length:Nat)).toNat<=N;lia),?_⟩;have g2':=aC hD2 (.lst ((ZG N false).map V.bl));have g2:=g1.trans g2';have nD:D1≠D2:=aE aB hD2;have n0:cE H (upd (upd H D1 (!49)) D2 (.lst ((ZG N false).map V.bl))) D1 [] []:=⟨g2' _ _ aB,rfl,λi l h=>by simp at h,List.nodup_nil,by simp,hD1,λx hx=>by cases hx⟩
 have e0:(upd (upd H D1 (!49)) D2 (.lst ((ZG N false).map V.bl))) D2=some (.lst ((ZG N false).map V.bl)):=aB;have hD2H:H D2=none:=g1.free hD2;generalize upd (upd H D1 (!49)) D2 (.lst ((ZG N false).map V.bl))=H2 at g2 n0 e0;clear g2' hD2 g1;refine(bP _ (.ref tA) (SqT.of (g2 _ _ hw1)) rfl tA _ rfl (.inl (SqL.of (g2 _ _ tr1))) (!7) (cC _ rfl ?_ ?_ ?_))
 ·show -(2 ^ 62)<=(2:Int)*((!32).length:Nat);lia
 ·show(2:Int)*((!32).length:Nat)<2 ^ 62;rw[eN];lia
 refine cK (lo:=0) (n:=((2:Int)*((!32).length:Nat)).toNat) (λi σ H'=>∃(rr:List Addr) (done:MM.aN) (sn:List Bool) (o3 o4 o5:Option V),σ=[some (.ref wa),some (.ref D1),some (.ref D2),o3,o4,o5]/\aK H H'/\cE H H' D1 rr done/\D2∉rr /\
   H' D2=some (.lst (sn.map V.bl))/\sn.length=N/\done++MM.lf f ((ZS N).filter λx=>!sn.getD x false)=MM.aS f N/\∀j,j<i->sn.getD j false=true)
  (cR ([]) ([]) (ZG N false) none none none rfl g2 n0 (bK (!5) e0 (!5) ?_ (λj hj=>Yg hj (Nat.not_lt_zero _)))) ?_ ?_
 ·have e:(ZS N).filter (λx=>!(ZG N false).getD x false)=ZS N:=by
   rw[List.filter_eq_self];intro a ha;have:=Zs.mp ha;simp[Zv,List.getElem?_replicate,this]
  rw[e];rfl
 ·rintro i σ H3 hi ⟨rr,done,sn,o3,o4,o5,rfl,g3,n3,dr,es,sl,eq,hs⟩;rw[eN2]at hi;have hi0:(0:Int)+(i:Int)=(i:Int):=Int.zero_add _;rw[hi0];have hat:atI (sn.map V.bl) (i:Int)=some (.bl (sn.getD i false)):=dA (by rw[Zk,Zv,Zz (show i<sn.length by lia)];rfl);refine(iP _ _ (SqL.of es) hat _ rfl ?_);cases hb:sn.getD i false with
  |true =>
   refine iFb rfl ?_;refine(cR rr done sn _ _ _ rfl g3 n3 (bK dr es sl eq (λj hj=>?_)));rcases Xk j i with z | z
   ·exact hs j z
   ·have:j=i:=by lia
    subst this;exact hb
  |false =>
   refine iTb rfl ?_;refine(a7 wa n ts os i rfl (g3.web hw) g h500 ⟨ by lia,λla hla=>?_⟩);rw[hf];have gl:=aC hla (.lst (vns (MM.aL f i)));have lanD1:la≠D1:=(aE n3.at_ hla).symm;have lanD2:la≠D2:=(aE es hla).symm;have lar:la∉rr:=λz=>by obtain⟨l,hl⟩:=n3.ex z;rw[hla]at hl;cases hl
   have hll:=MM.fR m hi;have lan:=MM.mQ m hi;have lal:=(MM.sR m hi).2;have selfl:=MM.eG m hi;refine⟨⟨_,SqL.of aB⟩,eY (xs:=vns (MM.aL f i)) (λj σ H'=>∃(sn':List Bool) (o5:Option V),σ=[some (.ref wa),some (.ref D1),some (.ref D2),some (vn i),some (.ref la),o5]/\H'=upd (upd H3 la (.lst (vns (MM.aL f i)))) D2 (.lst (sn'.map V.bl))/\sn'.length=N /\
     ∀x,sn'.getD x false=(sn.getD x false||decide (x∈(MM.aL f i).take j)))
    (aO sn _ rfl ?_ sl (λx=>by simp)) (λj σ H' _ h=>by obtain⟨sn',o,_,rfl,_⟩:=h;exact SqL.of (by rw[aH lanD2];exact aB)) ?_ ?_⟩
   ·funext b
    by_cases hb':b=D2
    ·subst hb';rw[aB];exact gl _ _ es
    ·rw[aH hb']
   ·rintro j x σ H' hx ⟨sn',o,rfl,rfl,sl',hsn⟩;obtain⟨hj,ej⟩:=Zj.mp hx;rw[Zq]at hj;have ex:x=vn (MM.aL f i)[j]:=by rw[<-ej];simp
    subst ex;have hxN:=hll _ (Zp hj);refine(bP _ ((MM.aL f i)[j]) aB (qK (!26)) (sn'.set (MM.aL f i)[j] true) _ rfl ?_ (by rw[ZR];exact sl') (λy=>?_))
    ·rw[fB,ZH]
    ·have hmem:y∈(MM.aL f i).take (j+1)↔y∈(MM.aL f i).take j\/y=(MM.aL f i)[j]:=by
      rw[List.take_add_one,Zz hj,Zf];simp
     by_cases hy:(MM.aL f i)[j]=y
     ·subst hy;rw[MM.i8 (by lia)];simp[hmem]
     ·rw[MM.kU hy,hsn y];have:(y∈(MM.aL f i).take (j+1))=(y∈(MM.aL f i).take j):=by
       rw[eq_iff_iff,hmem];constructor
       ·rintro(z | z)
        ·exact z
        ·exact Yg z.symm hy
       ·exact .inl
      simp only[this]
   ·rintro σ H' ⟨sn',o,rfl,rfl,sl',hsn⟩;rw[Zq,Yv]at hsn;have n4:cE H (upd (upd H3 la (.lst (vns (MM.aL f i)))) D2 (.lst (sn'.map V.bl))) D1 rr done:=n3.keep λb u hb h=>by
     rw[aH (show b≠D2 by rcases hb with rfl | hb;exact nD;rintro rfl;exact dr hb)];exact gl _ _ h
    have g4:aK H (upd (upd H3 la (.lst (vns (MM.aL f i)))) D2 (.lst (sn'.map V.bl))):=λb u h=>by rw[aH (aE h hD2H)];exact gl _ _ (g3 _ _ h)
    have la4:(upd (upd H3 la (.lst (vns (MM.aL f i)))) D2 (.lst (sn'.map V.bl))) la=some (.lst (vns (MM.aL f i))):=by rw[aH lanD2];exact aB
    have es4:(upd (upd H3 la (.lst (vns (MM.aL f i)))) D2 (.lst (sn'.map V.bl))) D2=some (.lst (sn'.map V.bl)):=aB;generalize upd (upd H3 la (.lst (vns (MM.aL f i)))) D2 (.lst (sn'.map V.bl))=H4 at n4 g4 la4 es4;have hdl:done.length<=N:=by
     have h1:=MM.sN m _ (ZS N) (ZC _) (λx hx=>Zs.mp hx);have h2:=congrArg List.length eq;rw[Zm]at h2;unfold MM.aS at h2;rw[Yj]at h1
     lia
    refine(j9 (.inl ⟨rfl,_,SqL.of n4.at_⟩) _ n4.at_ ?_ ?_)
    ·rw[Zq,n4.len];exact Xq (by lia:done.length<=1000) (!1)
    have n5:=n4.push (x:=la) (l:=MM.aL f i) (H2:=upd H4 D1 (.lst (rr.map V.ref++[.ref la]))) (g3.free hla) lar lanD1 (by rw[aB,Zt];rfl) (by rw[aH lanD1];exact la4) λb u hb h=>by rw[aH (show b≠D1 from λz=>n4.nin (z▸hb))];exact h
    refine(cR (rr++[la]) (done++[MM.aL f i]) sn' _ _ _ rfl ?_ n5 (bK ?_ ?_ sl' ?_ (λj hj=>?_)))
    ·exact λb u h=>by rw[aH (aE h hD1)];exact g4 _ _ h
    ·intro z;rcases Zf.mp z with z | z
     ·exact dr z
     ·have:D2=la:=by simpa using z
      exact lanD2 this.symm
    ·rw[aH (Yh nD)];exact es4
    ·obtain⟨r,hr'⟩:=MM.yK (p:=λx=>!sn.getD x false) hi (λj hj=>by rw[hs j hj];rfl) (by rw[hb];rfl);have e2:(ZS N).filter (λx=>!sn'.getD x false)=(i::r).filter λx=>decide (x∉MM.aL f i):=by
      rw[<-hr',List.filter_filter];refine List.filter_congr λx _=>?_;rw[hsn x];by_cases z:x∈MM.aL f i<;>simp[z]
     rw[hr',MM.j3 m (λx hx=>by rw[<-hr']at hx;exact Zs.mp (Yz.mp hx).1)]at eq;rw[Yn,e2];exact eq
    ·rw[hsn j];rcases Xk j i with z | z
     ·rw[hs j z];rfl
     ·have:j=i:=by lia
      subst this;simp[selfl]
 ·rintro σ H3 ⟨rr,done,sn,o3,o4,o5,rfl,g3,n3,dr,es,sl,eq,hs⟩;rw[eN2]at hs;have e:(ZS N).filter (λx=>!sn.getD x false)=[]:=by
   rw[List.filter_eq_nil_iff];intro a ha;rw[hs a (Zs.mp ha)];exact YT
  rw[e,MM.IQ,List.append_nil]at eq;exact(q D1 rr H3 g3 (eq▸n3))
end K27
namespace MM
theorem eU{f:Nat->Nat}{N:Nat}(m:b7 f N){x:Nat}(hx:x<N):∃(k:Nat) (d:List Nat),(aS f N)[k]?=some d/\x∈d/\∀(j:Nat) (d':List Nat),(aS f N)[j]?=some d'->x∈d'->j=k :=
 sM m _ _ (ZC _) (λy hy=>Zs.mp hy) x (Zs.mpr hx)
end MM
namespace K27
open PySem L2 PyProof.Rows
def DY:Sp:=λvs H Q _=>∃(wa:Addr) (n:Nat) (ts:MM.aP) (os:MM.aN),vs=[.ref wa]/\dB H wa n ts os/\MM.Good ts os/\ts.length<=500 /\
 ∀(r:Addr) (nm:List Nat) (H':Hp),aK H H'->H r=none->H' r=some (.lst (vns nm))->nm.length=2*ts.length->(∀(k:Nat) (d:List Nat) (x:Nat),(!40)[k]?=some d->x∈d->nm.getD x 0=k)->Q (.ref r) H'
theorem sF(T:Txt K mg t):Ok P w base T 22 6 DY:=by
 refine T.okN 22 (scm:dU ["web","numbers","number","land","end"] _ _) (λvs H Q E h=>?_) ?_
 ·obtain⟨wa,n,ts,os,rfl,_⟩:=h;rfl
 sleep 14;obtain⟨wa,n,ts,os,rfl,hw,g,h500,q⟩:=h;refine(xWP _ (by exists (fH 1 ["end"] [none]),aI,0,0,cV rfl (T.z 3) ?_,kN,0,2,3,bE ?_,3,4,dD ?_ ?_,2,eI ?_ ?_ set_list,1,4,1) ?_);have m:=g.maps;obtain⟨tA,oA,hw1,ht,ho⟩:=id hw;obtain⟨tr,tr1,tr2,tr3⟩:=id ht;have eN:(2:Int)*((!32).length:Nat)=((2*ts.length:Nat):Int):=by rw[Zq,tr2];push_cast;rfl
 refine(bP _ (.ref tA) (SqT.of hw1) rfl tA _ rfl (.inl (SqL.of tr1)) (!7) (cC _ rfl ?_ ?_ (λD hD=>?_)))
 ·show -(2 ^ 62)<=(2:Int)*((!32).length:Nat);lia
 ·show(2:Int)*((!32).length:Nat)<2 ^ 62;rw[eN];lia
 have eN2:((2:Int)*((!32).length:Nat)).toNat=2*ts.length:=by rw[eN];exact Int.toNat_natCast _
 generalize hf:MM.behind ts os=f at m q;generalize hN:2*ts.length=N at m q eN eN2;refine comp_map N (λi ys H'=>ys=vns (ZG i 0)/\H'=upd H D (.lst ys)) ⟨rfl,rfl⟩ ?_ ?_
 ·rintro i ys H' hi ⟨rfl,rfl⟩;refine⟨(by show i<((2:Int)*((!32).length:Nat)).toNat;lia),?_⟩;rintro x H'' ⟨rfl,rfl⟩;refine(bK (!13) aB ?_ ?_ ?_)
  ·rw[Zq,List.length_replicate];exact Xz hi (YQ (by lia:N<=1000) (!1))
  ·rw[List.replicate_succ',jR];rfl
  ·rw[fB]
 rintro ys H2 ⟨rfl,rfl⟩;refine⟨(by show((2:Int)*((!32).length:Nat)).toNat<=N;lia),?_⟩;have g2:=aC hD (.lst (vns (ZG N 0)));have e2:(upd H D (.lst (vns (ZG N 0)))) D=some (.lst (vns (ZG N 0))):=aB;generalize upd H D (.lst (vns (ZG N 0)))=H2 at g2 e2;refine(aV wa n ts os rfl (g2.web hw) g h500 (λr rr H3 g3 n3=>(aM r rfl ⟨_,SqL.of n3.at_⟩ ?_)));rw[hf,hN]at n3;have rl:(rr.map V.ref).length=(MM.aS f N).length:=by rw[Zq];exact n3.len
 have rD:r≠D:=λz=>by have:=n3.new;rw[z,e2]at this;cases this
 have rrD:D∉rr:=λz=>by have:=n3.news D z;rw[e2]at this;cases this
 have hlk:∀i,i<(MM.aS f N).length->∃d x,(MM.aS f N)[i]?=some d/\rr[i]?=some x/\H3 x=some (.lst (vns d))/\(∀y∈d,y<N):=λi hi=>by
  obtain⟨x,h1,h2⟩:=n3.row i _ (Zz hi);exact(aO _ x (Zz hi) h1 h2 ((MM.pK m (Zp hi)).2))
 refine dJ (xs:=rr.map V.ref) (λi σ H'=>∃(nm:List Nat) (o2 o3 o4:Option V),σ=[some (.ref wa),some (.ref D),o2,o3,o4]/\(∀b u,b≠D->H3 b=some u->H' b=some u)/\H' D=some (.lst (vns nm))/\nm.length=N /\
   ∀(k:Nat) (d:List Nat) (x:Nat),k<i->(MM.aS f N)[k]?=some d->x∈d->nm.getD x 0=k)
  (aV _ none none none rfl (λb u _ h=>h) (g3 _ _ e2) (!5) (λk d x hk=>Yg hk (Nat.not_lt_zero _))) (λi σ H' _ h=>by obtain⟨nm,o2,o3,o4,_,h1,_⟩:=h;exact SqL.of (h1 _ _ rD n3.at_)) ?_ ?_
 ·rintro i x σ H4 Tt hx ⟨nm,o2,o3,o4,rfl,b4,e4,l4,hk4⟩ hTt;have hi:i<(MM.aS f N).length:=by have:=(Zj.mp hx).1;lia
  obtain⟨d,xa,hd1,hx1,hx2,hdl⟩:=hlk i hi;have ex:x=.ref xa:=by rw[Zk,hx1]at hx;cases hx;rfl
  subst ex;have gT:=aC hTt (.tup [vn i,.ref xa]);have xaD:xa≠D:=λz=>rrD (z▸Zg hx1);refine(!31);have b5:∀b u,b≠D->H3 b=some u->(upd H4 Tt (.tup [vn i,.ref xa])) b=some u:=λb u hb h=>gT _ _ (b4 b u hb h);have e5:=gT _ _ e4;generalize upd H4 Tt (.tup [vn i,.ref xa])=H5 at b5 e5;refine⟨⟨_,SqL.of (b5 _ _ xaD hx2)⟩,eY (xs:=vns d) (λj σ H'=>∃(nm':List Nat) (o4:Option V),σ=[some (.ref wa),some (.ref D),some (vn i),some (.ref xa),o4]/\H'=upd H5 D (.lst (vns nm'))/\nm'.length=N/\∀y,nm'.getD y 0=if y∈d.take j then i else nm.getD y 0)
   (aO nm _ rfl ?_ l4 (λy=>by simp)) (λj σ H' _ h=>by obtain⟨nm',o,_,rfl,_⟩:=h;exact SqL.of (by rw[aH xaD];exact b5 _ _ xaD hx2)) ?_ ?_⟩
  ·funext b
   by_cases hb':b=D
   ·subst hb';rw[aB];exact e5
   ·rw[aH hb']
  ·rintro j y σ H' hy ⟨nm',o,rfl,rfl,l',hnm⟩;obtain⟨hj,ej⟩:=Zj.mp hy;rw[Zq]at hj;have ex:y=vn d[j]:=by rw[<-ej];simp
   subst ex;have hyN:=hdl _ (Zp hj);refine(bP _ (d[j]) aB (qK (!26)) (nm'.set d[j] i) _ rfl ?_ (by rw[ZR];exact l') (λz=>?_))
   ·rw[fB];unfold vns;rw[ZH]
   ·have hmem:z∈d.take (j+1)↔z∈d.take j\/z=d[j]:=by rw[List.take_add_one,Zz hj,Zf];simp
    by_cases hz:d[j]=z
    ·subst hz;rw[MM.i8 (by lia),Yb (hmem.mpr (.inr rfl))]
    ·rw[MM.kU hz,hnm z];by_cases hz2:z∈d.take j
     ·rw[Yb hz2,Yb (hmem.mpr (.inl hz2))]
     ·rw[Ya hz2,Ya (λc=>(hmem.mp c).elim hz2 λc=>hz c.symm)]
  ·rintro σ H' ⟨nm',o,rfl,rfl,l',hnm⟩;rw[Zq,Yv]at hnm;refine(aV nm' _ _ _ rfl (λb u hb h=>by rw[aH hb];exact b5 b u hb h) aB l' (λk d' x hk hkd hx=>?_));rw[hnm x];rcases Xk k i with z | z
   ·have hxd:x∉d:=λc=>by
     obtain⟨k0,d0,h1,h2,h3⟩:=MM.eU m (hdl x c);have:=h3 k d' hkd hx;have:=h3 i d hd1 c
     lia
    rw[Ya hxd];exact hk4 k d' x z hkd hx
   ·have:k=i:=by lia
    subst this;rw[hd1]at hkd;cases hkd;rw[Yb hx]
 ·rintro σ H4 ⟨nm,o2,o3,o4,rfl,b4,e4,l4,hk4⟩;rw[rl]at hk4;refine(q D nm H4 (λb u h=>b4 b u (aE h hD) (g3 _ _ (g2 _ _ h))) hD e4 l4 λk d x hkd hx=>hk4 k d x ?_ hkd hx);exact(Zj.mp hkd).1
end K27
namespace L2
open PySem PyProof.Rows
def dT(ts:MM.aP):List PyData:=ts.map λt=>.tuple [.int (t.1:Int),.int (t.2:Int)]
def dN(l:List Nat):List PyData:=l.map λn:Nat=>PyData.int (n:Int)
def dO(os:MM.aN):List PyData:=os.map λl=>.list (dN l)
theorem BB{H:Hp}:∀(xs:List V) (ds:List PyData),xs.length=ds.length->(∀(i:Nat) x d,xs[i]?=some x->ds[i]?=some d->Bd H x d)->Bds H xs ds
 |[],[],_,_=>.nil
 |[],_::_,h,_=>by cases h
 |_::_,[],h,_=>by cases h
 |x::xs,d::ds,h,f=>.cons (f 0 x d rfl rfl) (BB xs ds (by simpa using h) λi x' d' h1 h2=>f (i+1) x' d' h1 h2)
theorem M3{H:Hp}{a:Addr}{ts:MM.aP}(h:gN H a ts):Bd H (.ref a) (.list (dT ts)):=by
 sleep 7;refine .lst (SqL.of h1) (BB _ _ (by unfold dT;rw[Zq,Zq,h2]) λi x d hx hd=>?_);unfold dT at hd;rw[Zk]at hx hd;cases ht:ts[i]? with
 |none=>rw[ht]at hd;cases hd
 |some u =>
  rw[ht]at hd;cases hd;obtain⟨r,q1,q2⟩:=h3 i u ht;rw[q1]at hx;cases hx;exact .tup (SqT.of q2) (.cons (.int _) (.cons (.int _) .nil))
theorem M4{H:Hp}{a:Addr}{os:MM.aN}(h:nU H a os):Bd H (.ref a) (.list (dO os)):=by
 sleep 7;refine .lst (SqL.of h1) (BB _ _ (by unfold dO;rw[Zq,Zq,h2]) λi x d hx hd=>?_);unfold dO at hd;rw[Zk]at hx hd;cases ht:os[i]? with
 |none=>rw[ht]at hd;cases hd
 |some u =>
  rw[ht]at hd;cases hd;obtain⟨r,q1,q2⟩:=h3 i u ht;rw[q1]at hx;cases hx;exact .lst (SqL.of q2) (qN u)
theorem JM(l:List Nat):PyData.canLayAll0 (dN l)=true/\PyData.depthAll (dN l)<=2:=gX 2 λd hd=>by
 obtain⟨n,_,rfl⟩:=Zh.mp hd;exact⟨rfl,by simp[PyData.depth]⟩
theorem QF(ts:MM.aP):PyData.canLayAll0 (dT ts)=true/\PyData.depthAll (dT ts)<=3:=gX 3 λd hd=>by
 obtain⟨n,_,rfl⟩:=Zh.mp hd;exact⟨rfl,by simp[PyData.depth,PyData.depthAll]⟩
theorem QG(os:MM.aN):PyData.canLayAll0 (dO os)=true/\PyData.depthAll (dO os)<=3:=gX 3 λd hd=>by
 obtain⟨n,_,rfl⟩:=Zh.mp hd;exact⟨(JM n).1,by rw[PyData.depth];have:=(JM n).2;lia⟩
def dW(n:Nat)(ts:MM.aP)(os:MM.aN):PyData:=.tuple [.int (n:Int),.list (dT ts),.list (dO os)]
theorem QJ{H:Hp}{w:Addr}{n:Nat}{ts:MM.aP}{os:MM.aN}(h:dB H w n ts os):Bd H (.ref w) (dW n ts os):=by
 obtain⟨tA,oA,h1,h2,h3⟩:=h;exact .tup (SqT.of h1) (.cons (.int _) (.cons (M3 h2) (.cons (M4 h3) .nil)))
end L2
namespace MM
end MM
namespace K27
open PySem L2 PyProof.Rows
noncomputable def flB(n:Nat)(ts:MM.aP)(os:MM.aN):Bool:=decide (V.int ((n:Int)+((MM.dS ts os:Nat):Int))=V.int ((ts.length:Nat)+2))
theorem JA{ts:MM.aP}{os:MM.aN}(f:MM.Flat ts os):flB os.length ts os=true:=by
 unfold flB;unfold MM.Flat at f;refine Ye ?_;congr 1
 lia
def OE:Sp:=λvs H Q _=>∃(wa:Addr) (n:Nat) (ts:MM.aP) (os:MM.aN),vs=[.ref wa]/\dB H wa n ts os/\MM.Good ts os/\ts.length<=500/\∀(H':Hp),aK H H'->Q (.bl (flB n ts os)) H'
theorem MA(T:Txt K mg t):Ok P w base T 23 6 OE:=by
 left
 obtain⟨wa,n,ts,os,rfl,hw,g,h500,q⟩:=h;obtain⟨tA,oA,h1,h2,h3⟩:=id hw;obtain⟨tr,t1,t2,t3⟩:=id h2;refine(xWP _ (by exists dF,aX,mR,0,kN,0,aX,mR,0) ?_);refine(.inr (.inl (aG _ _ (SqT.of h1) rfl ?_)));refine(aV wa n ts os rfl hw g h500 (λr rr H' g1 n1=>(aG r _ rfl (.inl (SqL.of n1.at_)) ?_)));refine(.inr (.inl (aG _ _ (SqT.of (g1 _ _ h1)) rfl ?_)));refine(aG tA _ rfl (.inl (SqL.of (g1 _ _ t1))) ?_);have:=q H' g1;unfold flB MM.dS at this;rw[<-n1.len,<-t2]at this;show Q (.bl (decide (V.int _=V.int _))) H';simpa only[Zq] using this
end K27
namespace AW
open MM
def cT(ts:aP):Ts:=ts.map λt=>((t.1:Int),(t.2:Int))
def cO(os:aN):Os:=os.map λo=>o.map λn:Nat=>(n:Int)
theorem oY(ts:aP):(cT ts).length=ts.length:=Zq _
theorem JU(os:aN):(cO os).length=os.length:=Zq _
theorem NN{ts:aP}{e:Nat}(h:e<2*ts.length):plc (cT ts) e=(place ts e:Int):=by
 have hi:e / 2<ts.length:=by lia
 unfold plc place cT;rw[Zk,Zz hi,Zv,Zz hi];simp only[Option.map_some,YR];split<;>rfl
theorem TY{ts:aP}{os:aN}(g:Good ts os):InW os.length (cT ts):=λt ht=>by
 obtain⟨u,hu,rfl⟩:=Zh.mp ht;obtain⟨i,hi,rfl⟩:=Yy.mp hu;have a:=(g.g.has (2*i) (by lia)).1;have b:=(g.g.has (2*i+1) (by lia)).1;have e1:place ts (2*i)=ts[i].1:=by
  unfold place;rw[Yb (by lia),show 2*i / 2=i by lia,Zv,Zz hi];rfl
 have e2:place ts (2*i+1)=ts[i].2:=by
  unfold place;rw[Ya (by lia),show(2*i+1) / 2=i by lia,Zv,Zz hi];rfl
 rw[e1]at a;rw[e2]at b;exact(xPP ⟨by show(0:Int)<=(ts[i].1:Int);lia,by show(ts[i].1:Int)<_;lia⟩ (by show(0:Int)<=(ts[i].2:Int);lia) (by show(ts[i].2:Int)<_;lia))
theorem cast_inj:∀a b:Nat,(a:Int)=(b:Int)->a=b:=λa b h=>by lia
theorem R8{ts:aP}{os:aN}(g:Good ts os):Fit (cT ts) (cO os):=λi o ho=>by
 unfold cO at ho;rw[Zk]at ho;obtain⟨l,hl,rfl⟩:=Xv.mp ho;have er:row os i=l:=by unfold row;rw[Zv,hl];rfl
 refine⟨?_,HG (oR cast_inj (er▸g.g.nd i)) (vV _ _) λa=>?_⟩
 ·have:=g.g.four i;rw[er]at this;rw[Zq];sleep 19
 rw[AS,oY,Zh];constructor
 ·rintro⟨e,he,rfl⟩;have:=g.g.ends i e (er.symm▸he);exact⟨⟨by lia,by lia⟩,by rw[Int.toNat_natCast,NN this.1,this.2]⟩
 ·rintro⟨⟨h0,h1⟩,h2⟩;obtain⟨e,rfl⟩:=Xy h0;have he:e<2*ts.length:=by lia
  rw[Int.toNat_natCast,NN he]at h2;have hp:place ts e=i:=by lia
  have:=(g.g.has e he).2;rw[hp,er]at this;exact(xWP e this rfl)
theorem uH{ts:aP}{e:Nat}(h:e<2*ts.length):∃t∈cT ts,(t.1=(place ts e:Int)/\t.2=(place ts (oth e):Int))\/(t.2=(place ts e:Int)/\t.1=(place ts (oth e):Int)):=by
 have hi:e / 2<ts.length:=by lia
 refine(xWP ((ts[e / 2].1:Int),(ts[e / 2].2:Int)) (Zh.mpr (xWP (ts[e / 2]) (Zp hi) rfl)) ?_);unfold place;rw[jH,nE,Zv,Zz hi];by_cases c:e%2=0
 ·apply Or.inl;rw[Yb c,Ya (by lia)];exact⟨rfl,rfl⟩
 ·right;rw[Ya c,Yb (by lia)];exact⟨rfl,rfl⟩
theorem KD{ts:aP}{os:aN}(g:Good ts os)(c:iN ts os):DA os.length (cT ts):=by
 have at_:∀p,p<os.length->∃e,e<2*ts.length/\place ts e=p:=λp hp=>by
  cases hr:row os p with
  |nil=>exact Yg hr (g.g.full p hp)
  |cons e l=>exact⟨e,g.g.ends p e (by rw[hr];exact Zd)⟩
 have key:=c (λe=>Rch (cT ts) (place ts e:Int)) (λe he h=>by
  have hb:=(g.behind he).2;show Rch _ ((place ts (behind ts os e):Nat):Int);rw[hb];obtain⟨t,ht,h1 | h1⟩:=uH he
  ·exact h1.2▸Rch.fwd ht (h1.1.symm▸h)
  ·exact h1.2▸Rch.bwd ht (h1.1.symm▸h)) (λe he h=>by
  obtain⟨t,ht,h1 | h1⟩:=uH he
  ·exact h1.2▸Rch.fwd ht (h1.1.symm▸h)
  ·exact h1.2▸Rch.bwd ht (h1.1.symm▸h))
 intro p h0 h1;obtain⟨q,rfl⟩:=Xy h0;obtain⟨e,he,rfl⟩:=at_ q (by lia);obtain⟨z,hz,ez⟩:=at_ 0 (by lia);exact key z e hz he (by show Rch _ ((place ts z:Nat):Int);rw[ez];exact .zero)
theorem RT{ts:aP}{os:aN}(g:Good ts os)(c:iN ts os)(h1:os.length<=200)(h2:ts.length<=400):DF os.length (cT ts) (cO os):=by
 have o1:1<=os.length:=by have:=(g.g.has 0 (by have:=g.one;lia)).1;lia
 exact(bK (xPP ⟨by lia,by lia⟩ (by rw[oY];exact g.one) (by rw[oY];exact h2)) (TY g) (by rw[JU]) (R8 g) (KD g c))
end AW
namespace K27
open PySem L2 PyProof.Rows
def mn(i j:Int):Int:=if j<i then j else i
def few(ls:List Int)(j:Nat):Int:=at0 ls j-mn (at0 ls j) (at0 ls (MM.oth j))
def mV(ls:List Int)(n:Nat):List V:=(ZS n).map λj=>.int (few ls j)
theorem yL(ls:List Int)(n:Nat):mV ls (n+1)=mV ls n++[.int (few ls n)]:=by
 unfold mV;rw[ZI,Zt];rfl
theorem A4(ls:List Int)(n:Nat):(mV ls n).length=n:=by unfold mV;simp
def KQ:Sp:=λvs H Q _=>∃(p c l:Addr) (n:Nat) (cs ls:List Int),vs=[.ref p]/\SqT H p [.ref c,.ref l]/\SqL H c (cs.map V.int)/\SqL H l (ls.map V.int)/\ls.length=2*n/\n<=1000 /\
 ∀(r a b:Addr) (H':Hp),aK H H'->H a=none->H b=none->a≠b->H' r=some (.tup [.ref a,.ref b])->H' a=some (!28)->H' b=some (.lst (mV ls (2*n)))->Q (.ref r) H'
theorem HL(T:Txt K mg t)(G_other_end:Ok P w base T 16 1 GD):Ok P w base T 55 2 (KQ):=by
 left
 obtain⟨p,c,l,n,cs,ls,rfl,hT,hC,hS,hl,hn,q⟩:=h;have nd1:(["end","left","lefts"]:List Str).Nodup:=by decide
 refine(xWP _ (by exists 1,aI,0,(fH 2 ["end","left","lefts"] [none,none,some 1]),cV rfl (T.z 3) ?_,1,0,1,1,bC (uX rfl) rfl (T.z 9) boot_min ?_,1,aJ,2,cX G_other_end hr (T.f 16) bR ?_,0,a8 bL rfl (T.z 7) boot_list ?_,aI,0,2) ?_);refine(aG _ (.ref l) hT rfl ?_);refine(aM l rfl ⟨_,hS⟩ (λD hD=>?_));refine comp_map (2*n) (λi ys H'=>ys=mV ls i/\H' D=some (.lst ys)/\aK H H') (xPP rfl aB (aC hD _)) ?_ ?_
 ·rintro i ys H' hi ⟨rfl,hD',g1⟩;have hS1:=g1.seq hS;refine⟨(bM _ _ hS1 (bX (by lia))),?_⟩;rintro x H'' ⟨T',x',rfl,hT',rfl,hx⟩;have ex:=hx _ hS1;rw[bX (by lia)]at ex;cases ex;have g2:=aC hT' (.tup [.int i,.int (at0 ls i)]);have hS2:=g2.seq hS1;refine(!29);refine(y9 i rfl _ _ hS2 (aQ (j:=MM.oth i) (by rw[hl];exact MM.aZ hi) rfl) _ _ rfl (bK (g2 _ _ hD') ?_ ?_ aB ?_))
  ·rw[A4];exact Xz hi (YQ (by lia:2*n<=2000) (!1))
  ·rw[yL];rfl
  ·exact λb o h=>by rw[aH (aE h hD)];exact g2 _ _ (g1 _ _ h)
 ·rintro ys H' ⟨rfl,hD',g1⟩;refine⟨(xWP _ (g1.seq hS) (!26)),?_⟩;refine(aW _ (.ref c) (aK.tup g1 hT) rfl c _ rfl (.inl (g1.seq hC)) (λa ha=>?_));refine⟨!9,λr hr'=>?_⟩;have g2:=aC ha (!28);have g3:=aC hr' (.tup [.ref a,.ref D]);exact q r a D _ (g1.trans (g2.trans g3)) (g1.free ha) hD (aE hD' ha).symm aB (g3 _ _ aB) (g3 _ _ (g2 _ _ hD'))
def sum2(ls:List Int)(k:Nat):Int:=at0 ls (2*k)+at0 ls (2*k+1)
def mE(ls:List Int)(n:Nat):List V:=(ZS n).map λj=>.int (sum2 ls j)
theorem mD(ls:List Int)(n:Nat):(mE ls n).length=n:=by unfold mE;simp
theorem DV{ls:List Int}{n i:Nat}{x:V}(h:(mE ls n)[i]?=some x):i<n/\x=.int (sum2 ls i):=by
 unfold mE at h;rw[Zk]at h;obtain⟨j,hj,rfl⟩:=Xv.mp h;obtain⟨hi,rfl⟩:=Zj.mp hj;simp at hi ⊢;exact hi
theorem lN{ls:List Int}{i:Nat}{x:V}(h:(ls.map V.int)[i]?=some x):i<ls.length/\x=.int (at0 ls i):=by
 have hi:i<ls.length:=by
  have:=(Zj.mp h).1;simpa using this
 rw[bX hi]at h;exact⟨hi,(Option.some.inj h).symm⟩
theorem zM{ls:List (!18)}{i:Nat}{x:V}(h:(vos ls)[i]?=some x):i<ls.length/\x=vo (ov ls i):=by
 have hi:i<ls.length:=by
  have:=(Zj.mp h).1;simpa using this
 rw[u5 hi]at h;exact⟨hi,(Option.some.inj h).symm⟩
structure jM(H:Hp)(p wa ba sa:Addr)(ws:List Int)(bs ss:List (!18)):Prop where
 tp:H p=some (.tup [.ref wa,.ref ba,.ref sa])
 w:H wa=some (.lst (ws.map V.int))
 b:H ba=some (.lst (vos bs))
 s:H sa=some (.lst (vos ss))
structure nS(H:Hp)(p ca la:Addr)(cs ls:List Int):Prop where
 tp:H p=some (.tup [.ref ca,.ref la])
 c:H ca=some (!28)
 l:H la=some (!42)
theorem jM.mono{H H':Hp}{p wa ba sa:Addr}{ws:List Int}{bs ss:List (!18)}(h:jM H p wa ba sa ws bs ss)(g:aK H H'):jM H' p wa ba sa ws bs ss:=⟨g _ _ h.tp,g _ _ h.w,g _ _ h.b,g _ _ h.s⟩
theorem nS.mono{H H':Hp}{p ca la:Addr}{cs ls:List Int}(h:nS H p ca la cs ls)(g:aK H H'):nS H' p ca la cs ls:=⟨g _ _ h.tp,g _ _ h.c,g _ _ h.l⟩
structure Fit(k:Nat)(ws:List Int)(bs ss:List (!18))(cs ls:List Int):Prop where
 w:ws.length=k
 b:bs.length=k
 s:ss.length=2*k
 c:cs.length=2*k
 l:ls.length=2*k
 n:k<=100
 wb:∀x∈ws,0<=x/\x<=1000
def ID(bs:List (!18))(ls:List Int)(k:Nat):Prop:=∀b,ov bs k=some b->sum2 ls k<=b
def CK(ss:List (!18))(cs:List Int)(k:Nat):Prop:=∀c,ov ss k=some c->at0 cs k=c
def pE(bs ss:List (!18))(cs ls:List Int)(n:Nat):Prop:=(∀k,k<n->ID bs ls k)/\∀k,k<2*n->CK ss cs k
noncomputable def j4(bs ss:List (!18))(cs ls:List Int)(n:Nat):Bool:=@decide (pE bs ss cs ls n) (Classical.propDecidable _)
theorem nI{bs ss:List (!18)}{cs ls:List Int}{n:Nat}(h:pE bs ss cs ls n):j4 bs ss cs ls n=true:=by unfold j4;simp[h]
theorem kS{bs ss:List (!18)}{cs ls:List Int}{n:Nat}(h:¬pE bs ss cs ls n):j4 bs ss cs ls n=false:=by unfold j4;simp[h]
def uU(ws ls:List Int)(n:Nat):List Int:=(ZS n).map λk=>sum2 ls k*at0 ws k
def costOf(ws ls:List Int)(n:Nat):Int:=(uU ws ls n).sum
theorem C6(ws ls:List Int)(n:Nat):(ZS n).map (λk=>V.int (sum2 ls k*at0 ws k))=(uU ws ls n).map V.int:=by unfold uU;rw[Ym];rfl
theorem JP(ws ls:List Int)(n:Nat):(ZS n).map (λk=>V.int (at0 ws k*sum2 ls k))=(uU ws ls n).map V.int:=by
 rw[<-C6];congr 1;funext k;rw[Int.mul_comm]
end K27
namespace L2
open PySem PyProof.Rows NM
theorem lE{H:Hp}{wa:Addr}{ws:List Way}{rs:List Addr}(e1:H wa=some (.lst (rs.map V.ref)))(e2:rs.length=ws.length)(e3:∀(i:Nat) w,ws[i]?=some w->∃r,rs[i]?=some r/\H r=some (.tup (wv w))){r:Addr}{w:Way}(er:H r=some (.tup (wv w))) :
  e9 (upd H wa (.lst (rs.map V.ref++[.ref r]))) wa (ws++[w]):=by
 refine(aM (rs++[r]) (by rw[aB,Zt];rfl) (by simp[e2]) (λj x hx=>?_));by_cases hj:j<ws.length
 ·rw[Zx hj]at hx;obtain⟨r',q1,q2⟩:=e3 j x hx;exact(xWP r' (by rw[Zx (by lia)];exact q1) (by rw[aH (b8 q2 e1 (λz=>nomatch z))];exact q2))
 ·have hj2:j=ws.length:=by
   have:=(Zj.mp hx).1;simp at this;lia
  subst hj2;simp at hx;subst hx;exact(xWP r (by rw[<-e2];simp) (by rw[aH (b8 er e1 (λz=>nomatch z))];exact er))
theorem FK{H:Hp}{ws1 ws2:List Way}{rs1 rs2:List Addr}(e2:rs1.length=ws1.length)(e3:∀(i:Nat) w,ws1[i]?=some w->∃r,rs1[i]?=some r/\H r=some (.tup (wv w)))
  (f2:rs2.length=ws2.length) (f3:∀(i:Nat) w,ws2[i]?=some w->∃r,rs2[i]?=some r/\H r=some (.tup (wv w))) {p:Addr}(hp:H p=none) :
  e9 (upd H p (.lst (rs1.map V.ref++rs2.map V.ref))) p (ws1++ws2):=by
 have g:=aC hp (.lst (rs1.map V.ref++rs2.map V.ref));refine(aM (rs1++rs2) (by rw[aB,Zt]) (by simp[e2,f2]) (λj x hx=>?_));by_cases hj:j<ws1.length
 ·rw[Zx hj]at hx;obtain⟨r',q1,q2⟩:=e3 j x hx;exact(xWP r' (by rw[Zx (by lia)];exact q1) (g _ _ q2))
 ·rw[Zy (by lia)]at hx;obtain⟨r',q1,q2⟩:=f3 _ x hx;exact(xWP r' (by rw[Zy (by lia),e2];exact q1) (g _ _ q2))
theorem dB.mono{H H':Hp}{w:Addr}{n:Nat}{ts:MM.aP}{os:MM.aN}(h:dB H w n ts os)(g:aK H H'):dB H' w n ts os:=g.web h
end L2
namespace K27
open PySem L2 PyProof.Rows NM
noncomputable abbrev LL(ts:MM.aP)(os:MM.aN):List (List Nat):=MM.aS (MM.behind ts os) (!2)
structure dZ(ts:MM.aP)(os:MM.aN)(nm:List Nat):Prop where
 len:nm.length=2*ts.length
 at_:∀(k:Nat) (d:List Nat) (x:Nat),(!19)[k]?=some d->x∈d->nm.getD x 0=k
theorem dZ.uniq{ts:MM.aP}{os:MM.aN}{nm nm':List Nat}(g:MM.Good ts os)(h:dZ ts os nm)(h':dZ ts os nm'):nm=nm':=by
 have h1:=h.len;have h2:=h'.len;apply Yt;intro i;by_cases hi:i<2*ts.length
 ·obtain⟨k,d,q1,q2,_⟩:=MM.eU g.maps hi;have e1:=h.at_ k d i q1 q2;have e2:=h'.at_ k d i q1 q2;have a1:i<nm.length:=by lia
  have a2:i<nm'.length:=by lia
  simp only[List.getD,Zz a1,Zz a2,YR]at e1 e2;rw[Zz a1,Zz a2,e1,e2]
 ·rw[Zr (by lia),Zr (by lia)]
def cL(n:Nat)(ts:MM.aP)(nm:List Nat)(ss:List (!18))(e:Nat):Way:=⟨MM.place ts (!46),n+nm.getD e 0,(ov ss e).getD 1,some ((ov ss e).getD 4),0⟩
def jJ(n:Nat)(nm:List Nat)(ws:List Int)(bs:List (!18))(e:Nat):Way:=⟨n+nm.getD e 0,n+nm.getD (!46) 0,0,ov bs (e / 2),at0 ws (e / 2)⟩
def aY(n:Nat)(ts:MM.aP)(nm:List Nat)(ws:List Int)(bs ss:List (!18)):List Way:=(ZS (!2)).map (cL n ts nm ss)++(ZS (!2)).map (jJ n nm ws bs)
def gP(ll:List (List Nat))(outer k:Nat):Int:=(if k=outer then -4 else 4)-2*((ll.getD k []).length:Int)
def aT(n:Nat)(ll:List (List Nat))(outer:Nat):List Int:=ZG n 4++(ZS ll.length).map (gP ll outer)
theorem iE{α:Type}(f:Nat->α)(i:Nat):(ZS (i+1)).map f=(ZS i).map f++[f i]:=by rw[ZI,Zt];rfl
def GJ:Sp:=λvs H Q _=>∃(wa sa:Addr) (n:Nat) (ts:MM.aP) (os:MM.aN) (ss:List (!18)),vs=[.ref wa,.ref sa]/\dB H wa n ts os/\MM.Good ts os/\ts.length<=40/\H sa=some (.lst (vos ss))/\ss.length=2*ts.length /\
 ∀(r:Addr) (nm:List Nat) (H':Hp),aK H H'->H r=none->dZ ts os nm->e9 H' r ((ZS (!2)).map (cL n ts nm ss))->Q (.ref r) H'
theorem EL(T:Txt K mg t):Ok P w base T 60 7 GJ:=by
 left
 obtain⟨wa,sa,n,ts,os,ss,rfl,hWeb,g,h40,hS,hsl,q⟩:=h;refine(xWP _ (by exists 2,cV rfl (T.z 3) ?_,sF,0,3,4,5,kK ?_ b0 ?_,jX,aJ,1,3,aJ,1,3,6,kK ?_ ?_ ?_,jX,aJ,1,3,nB (T.g 0),aJ,1,3,2,vT,0,3,aX,aI,0,4,5,6,2) ?_);refine⟨!23,λwl hwl=>?_⟩;have g0:=aC hwl (!49);refine(aV wa n ts os rfl (hWeb.mono g0) g (by lia) (λr nm H1 g1 hr0 er hnl hnm=>?_));have num:dZ ts os nm:=⟨hnl,hnm⟩
 have nrl:r≠wl:=(aE aB hr0).symm;have w1:H1 wl=some (!49):=g1 _ _ aB;refine(aM r rfl ⟨_,SqL.of er⟩ (dJ (xs:=vns nm)
  (λi σ H'=>e9 H' wl ((ZS i).map (cL n ts nm ss))/\aK H H'/\H' r=some (.lst (vns nm))/\∃o3 o4 o5 o6:Option V,σ=[some (.ref wa),some (.ref sa),some (.ref wl),o3,o4,o5,o6])
  (bN (aM ([]) w1 rfl (λi w h=>by simp at h)) (g0.trans g1) er (iO _ _ _ _ rfl)) (λi σ H' _ h=>SqL.of h.2.2.1) ?_ ?_))
 ·rintro i x σ H2 Tp hx ⟨⟨rs,e1,e2,e3⟩,g2,er2,o3,o4,o5,o6,rfl⟩ hTp;obtain⟨hi,rfl⟩:=zN hx;have hi':i<2*ts.length:=by lia
  have g3:=aC hTp (.tup [vn i,vn (nm.getD i 0)]);have g23:=g2.trans g3;have e1':=g3 _ _ e1;have eS:=g23 _ _ hS;have hWeb3:=hWeb.mono g23;obtain⟨tA,oA,hw,_,_⟩:=id hWeb3;refine(!31);have fin:∀(lo hi:Int),lo=(ov ss i).getD 1->hi=(ov ss i).getD 4->∀(p:Addr),(upd H2 Tp (.tup [vn i,vn (nm.getD i 0)])) p=none ->
    e9 (upd (upd (upd H2 Tp (.tup [vn i,vn (nm.getD i 0)])) p (!8)) wl (.lst (rs.map V.ref++[.ref p]))) wl ((ZS (i+1)).map (cL n ts nm ss)) /\
    aK H (upd (upd (upd H2 Tp (.tup [vn i,vn (nm.getD i 0)])) p (!8)) wl (.lst (rs.map V.ref++[.ref p]))) /\
    (upd (upd (upd H2 Tp (.tup [vn i,vn (nm.getD i 0)])) p (!8)) wl (.lst (rs.map V.ref++[.ref p]))) r=some (.lst (vns nm)):=by
   intro lo hi hlo hhi p hp;have g4:=aC hp (!8);refine(xPP ?_ (λb o h=>by rw[aH (aE h hwl)];exact g4 _ _ (g23 _ _ h)) (by rw[aH nrl];exact g4 _ _ (g3 _ _ er2)));rw[iE];refine lE (g4 _ _ e1') e2 (λj w hj=>by obtain⟨r',q1,q2⟩:=e3 j w hj;exact(xWP r' q1 (g4 _ _ (g3 _ _ q2)))) ?_;rw[aB];unfold wv cL;rw[<-hlo,<-hhi];simp only[vo,vn,Int.natCast_add]
  rcases ho:ov ss i with _ | c
  ·have eC:atI (vos ss) ((i:Nat):Int)=some .non:=by rw[pA (j:=i) (by lia) rfl,ho];rfl
   refine(aO _ _ (SqL.of eS) eC rfl (iTb (by rfl) ?_));refine(aO _ _ (SqL.of eS) eC rfl (iTb (by rfl) ?_));refine(qW (.inl ⟨rfl,_,SqL.of e1'⟩) wa n ts os i rfl hWeb3 hi' (aG _ _ (SqT.of hw) rfl ⟨ (by show 5<=ZW;decide),λp hp=>?_⟩));obtain⟨f1,f2,f3⟩:=fin 1 4 (by rw[ho];rfl) (by rw[ho];rfl) p hp;exact(pX _ (aC hp _ _ _ e1') (by rw[Zq,e2];simp;exact Xz hi' (YQ (by lia:2*ts.length<=80) (!1))) f1 f2 f3 (iO _ _ _ _ rfl))
  ·have eC:atI (vos ss) ((i:Nat):Int)=some (.int c):=by rw[pA (j:=i) (by lia) rfl,ho];rfl
   refine(aO _ _ (SqL.of eS) eC rfl (iFb (by rfl) (aG _ _ (SqL.of eS) eC ?_)));refine(aO _ _ (SqL.of eS) eC rfl (iFb (by rfl) (aG _ _ (SqL.of eS) eC ?_)));refine(qW (.inl ⟨rfl,_,SqL.of e1'⟩) wa n ts os i rfl hWeb3 hi' (aG _ _ (SqT.of hw) rfl ⟨ (by show 5<=ZW;decide),λp hp=>?_⟩));obtain⟨f1,f2,f3⟩:=fin c c (by rw[ho];rfl) (by rw[ho];rfl) p hp;exact(pX _ (aC hp _ _ _ e1') (by rw[Zq,e2];simp;exact Xz hi' (YQ (by lia:2*ts.length<=80) (!1))) f1 f2 f3 (iO _ _ _ _ rfl))
 ·rintro σ H2 ⟨hw2,g2,er2,o3,o4,o5,o6,rfl⟩;rw[Zq,hnl]at hw2;exact(q wl nm H2 g2 hwl num hw2)
def OB:Sp:=λvs H Q _=>∃(wa p wA bA sA:Addr) (n:Nat) (ts:MM.aP) (os:MM.aN) (ws:List Int) (bs ss:List (!18)),vs=[.ref wa,.ref p]/\dB H wa n ts os/\MM.Good ts os/\ts.length<=40/\jM H p wA bA sA ws bs ss/\ws.length=ts.length/\bs.length=ts.length /\
 ∀(r:Addr) (nm:List Nat) (H':Hp),aK H H'->H r=none->dZ ts os nm->e9 H' r ((ZS (!2)).map (jJ n nm ws bs))->Q (.ref r) H'
theorem L4(T:Txt K mg t):Ok P w base T 61 7 OB:=by
 left
 obtain⟨wa,p,wA,bA,sA,n,ts,os,ws,bs,ss,rfl,hWeb,g,h40,hW,hwl',hbl,q⟩:=h;refine(xWP _ (by exists 2,aI,1,3,aI,1,4,sF,0,5,cV rfl (T.z 3) ?_,4,6,7,8,aJ,4,kM,6,5,aX,aI,0,7,aX,aI,0,8,aJ,3,bS,6,aJ,2,bS,6,5) ?_);refine(aG _ _ (SqT.of hW.tp) rfl ?_);refine(aG _ _ (SqT.of hW.tp) rfl ?_);refine(aV wa n ts os rfl hWeb g (by lia) (λr nm H1 g1 hr0 er hnl hnm=>?_));have num:dZ ts os nm:=⟨hnl,hnm⟩
 refine⟨!23,λwl hwl=>?_⟩;have g0:=g1.trans (aC hwl (!49));have er1:=aC hwl (!49) _ _ er;have nrl:r≠wl:=aE er hwl;have hwl0:H wl=none:=g1.free hwl;refine(aM r rfl ⟨_,SqL.of er1⟩ (dJ (xs:=vns nm)
  (λi σ H'=>e9 H' wl ((ZS i).map (jJ n nm ws bs))/\aK H H'/\H' r=some (.lst (vns nm))/\∃o6 o7 o8:Option V,σ=[some (.ref wa),some (.ref p),some (.ref wA),some (.ref bA),some (.ref r),some (.ref wl),o6,o7,o8])
  (bN (aM ([]) aB rfl (λi w h=>by simp at h)) g0 er1 (i6 _ _ _ rfl)) (λi σ H' _ h=>SqL.of h.2.2.1) ?_ ?_))
 ·rintro i x σ H2 Tp hx ⟨⟨rs,e1,e2,e3⟩,g2,er2,o6,o7,o8,rfl⟩ hTp;obtain⟨hi,rfl⟩:=zN hx;have hi':i<2*ts.length:=by lia
  have ho':MM.oth i<2*ts.length:=MM.aZ hi';have g3:=aC hTp (.tup [vn i,vn (nm.getD i 0)]);have g23:=g2.trans g3;have e1':=g3 _ _ e1;have er3:=g3 _ _ er2;have hW3:=hW.mono g23;obtain⟨tA,oA,hw,_,_⟩:=id (hWeb.mono g23);have ei2:((i:Nat):Int) / 2=((i / 2:Nat):Int):=by lia
  refine(!31);refine(iQ i rfl _ _ (SqL.of er3) (j6 (j:=MM.oth i) (by lia) rfl) ?_);refine(eQ (.inl ⟨rfl,_,SqL.of e1'⟩) _ _ (SqT.of hw) rfl (aG _ _ (SqT.of hw) rfl (jQ ⟨by decide,by decide⟩ _ _ (SqL.of hW3.b) (pA (j:=i / 2) (by lia) ei2) ⟨by decide,by decide⟩ _ _ (SqL.of hW3.w) (xPP (aQ (j:=i / 2) (by lia) ei2) (by show 5<=ZW;decide) (λpp hpp=>?_)))));have g4:=aC hpp (.tup [.int ((n:Int)+((nm.getD i 0:Nat):Int)),.int ((n:Int)+((nm.getD (MM.oth i) 0:Nat):Int)),.int 0,vo (ov bs (i / 2)),.int (at0 ws (i / 2))]);refine(pX _ (g4 _ _ e1') (by rw[Zq,e2];simp;exact Xz hi' (YQ (by lia:2*ts.length<=80) (!1))) ?_ (λb o h=>by rw[aH (aE h hwl0)];exact g4 _ _ (g23 _ _ h)) (by rw[aH nrl];exact g4 _ _ er3) (i6 _ _ _ rfl));rw[iE];refine lE (g4 _ _ e1') e2 (λj w hj=>by obtain⟨r',q1,q2⟩:=e3 j w hj;exact(xWP r' q1 (g4 _ _ (g3 _ _ q2)))) ?_;rw[aB];unfold wv jJ;simp only[vn,Int.natCast_add]
 ·rintro σ H2 ⟨hw2,g2,er2,o6,o7,o8,rfl⟩;rw[Zq,hnl]at hw2;exact(q wl nm H2 g2 hwl0 num hw2)
def F3:Sp:=λvs H Q _=>∃(k o:Nat),vs=[vn k,vn o]/\Q (.int (if k=o then -4 else 4)) H
theorem uJ(T:Txt K mg t):Ok P w base T 52 1 F3:=by
 left
 obtain⟨k,o,rfl,q⟩:=h;refine(xWP _ (by exists kK ?_ ?_ ?_,dF,0,1,nB (T.g 0),nB (T.g 0)) ?_);refine(i2 (λc=>?_) (λc=>?_))
 ·have:k=o:=by
   have c':V.int (k:Int)=V.int (o:Int):=Yf c;have:=V.int.inj c'
   lia
  rw[Yb this]at q;exact(q)
 ·have:¬k=o:=λz=>c (by subst z;exact Ye rfl);rw[Ya this]at q;exact q
def KS:Sp:=λvs H Q _=>∃(wa p wA bA sA:Addr) (n o:Nat) (ts:MM.aP) (os:MM.aN) (ws:List Int) (bs ss:List (!18)),vs=[.ref wa,vn o,.ref p]/\dB H wa n ts os/\MM.Good ts os/\ts.length<=40/\n<=40/\o<(!19).length/\jM H p wA bA sA ws bs ss/\ws.length=ts.length/\bs.length=ts.length/\ss.length=2*ts.length /\
 ∀(r na wl:Addr) (nm:List Nat) (H':Hp),aK H H'->H na=none->H wl=none->na≠wl->dZ ts os nm->iM H' r na wl (aT n (!19) o) (aY n ts nm ws bs ss)->Q (.ref r) H'
theorem xT(T:Txt K mg t):Ok P w base T 59 8 KS:=by
 left
 obtain⟨wa,p,wA,bA,sA,n,o,ts,os,ws,bs,ss,rfl,hWeb,g,h40,hn40,ho,hW,hwl',hbl,hsl,q⟩:=h;have hLN:(!19).length<=2*ts.length:=by
  have:=MM.sN g.maps _ (ZS (!2)) (ZC _) (λz hz=>Zs.mp hz);rw[Yj]at this;sleep 19
 refine(xWP _ (by exists (fH 3 ["place"] [none]),aI,0,0,nB (T.g 0),cV rfl (T.z 3) ?_,kN,0,4,5,3,uJ,4,1,5,3,sE,EL,0,aI,2,L4,0,2) ?_);obtain⟨tA,oA,hw,_,_⟩:=id hWeb;refine(jB _ _ (SqT.of hw) rfl _ rfl (by lia) (by lia) (λna hna=>?_));refine bJ ((n:Int)).toNat (λ_=>.int 4) hna (by lia) (λi H' hi _=>hi) (λH' _=>ZC _) ?_ ?_
 ·rintro i H' x H'' k hi g2 ⟨rfl,rfl⟩ hk;exact(!33)
 intro H1 g1 ena;rw[show(ZS ((n:Int)).toNat).map (λ_=>V.int 4)=(ZG n (4:Int)).map V.int by
  have:((n:Int)).toNat=n:=by lia
  rw[this];apply Yt;intro i;by_cases h:i<n
  ·simp[h]
  ·simp[h]]at ena
 dsimp only[cS];refine(aV wa n ts os rfl (hWeb.mono g1) g (by lia) (λr rr H2 g2 nos=>?_));have g12:=g1.trans g2;have ena2:=g2 _ _ ena;have nrr:na≠r:=λz=>by have:=nos.new;rw[<-z,ena]at this;cases this
 have nrx:∀x∈rr,x≠na:=λx hx z=>by have:=nos.news x hx;rw[z,ena]at this;cases this
 refine(aM r rfl ⟨_,SqL.of nos.at_⟩ (dJ (xs:=rr.map V.ref)
  (λi σ H'=>aK H H'/\H' r=some (.lst (rr.map V.ref))/\(∀(j:Nat) l,(!19)[j]?=some l->∃x,rr[j]?=some x/\H' x=some (.lst (vns l)))/\H' na=some (.lst ((ZG n (4:Int)++(ZS i).map (gP (!19) o)).map V.int))/\∃o4 o5:Option V,σ=[some (.ref wa),some (vn o),some (.ref p),some (.ref na),o4,o5])
  (bK g12 nos.at_ nos.row (by simpa using ena2) (!44)) (λi σ H' _ h=>SqL.of h.2.1) ?_ ?_))
 ·rintro i x σ H3 Tp hx ⟨g3,er3,hrow,en3,o4,o5,rfl⟩ hTp;obtain⟨y,hy,rfl⟩:=gR hx;have hil:i<(!19).length:=by rw[<-nos.len];exact(Zj.mp hy).1
  obtain⟨y',hy',ey⟩:=hrow i _ (Zz hil);rw[hy]at hy';cases hy';have g4:=aC hTp (.tup [vn i,.ref y]);have en4:=g4 _ _ en3;have ey4:=g4 _ _ ey;refine(!31);refine(zC (.inl ⟨rfl,_,SqL.of en4⟩) i o rfl y _ rfl (.inl (SqL.of ey4)) (!7) (aM _ en4 ?_ ?_))
  ·simp;exact Xz (by lia:n+i<200) (!1)
  refine(bK (λb o' h=>by rw[aH (aE h hna)];exact g4 _ _ (g3 _ _ h)) (by rw[aH nrr.symm];exact g4 _ _ er3) (λj l hl=>?_) ?_ (!44))
  ·obtain⟨x,q1,q2⟩:=hrow j l hl;exact(xWP x q1 (by rw[aH (nrx x (Zg q1))];exact g4 _ _ q2))
  ·rw[aB,iE,<-Yn,Zt (l₂:=[gP (!19) o i])];have e:gP (!19) o i=(if i=o then -4 else 4)-2*(((vns (!19)[i]).length:Nat):Int):=by
    unfold gP;simp[List.getD,hil]
   rw[e];rfl
 rintro σ H3 ⟨g3,er3,hrow,en3,o4,o5,rfl⟩;rw[Zq,nos.len]at en3;have hW3:=hW.mono g3;refine(aG _ _ (SqT.of hW3.tp) rfl (cR wa sA n ts os ss rfl (hWeb.mono g3) g (bN h40 hW3.s hsl (λc1 nm H4 g4 hc1 num hc=>?_))));have g34:=g3.trans g4;refine(aR wa p wA bA sA n ts os ws (dM bs ss rfl (hWeb.mono g34) g h40 (hW.mono g34) hwl' hbl (λc2 nm' H5 g5 hc2 num' hl=>?_)));have enm:=dZ.uniq g num num';subst enm;obtain⟨rs1,a1,a2,a3⟩:=hc.mono g5;obtain⟨rs2,b1,b2,b3⟩:=hl;refine(aO _ _ a1 b1 (by rw[Zq,Zq,a2,b2];simp;exact YQ (by lia:2*ts.length+2*ts.length<=200) (!1)) (λwl hwl=>?_));have g6:=aC hwl (.lst (rs1.map V.ref++rs2.map V.ref));have g35:=g4.trans g5;refine⟨!9,λr' hr'=>?_⟩;have g7:=aC hr' (.tup [.ref na,.ref wl]);have en6:=g6 _ _ (g35 _ _ en3);refine q r' na wl nm _ (((g3.trans g35).trans g6).trans g7) hna ((g3.trans g35).free hwl) (aE (g35 _ _ en3) hwl) num ⟨aB,g7 _ _ en6,e9.mono (FK a2 a3 b2 b3 hwl) g7⟩
end K27
namespace L2
open PySem PySem.Spec PyProof.Rows
theorem QS{H:Hp}{a:Addr}{tn:MM.aP}(h:TsI H a (AW.cT tn)):gN H a tn:=by
 sleep 7;refine(aM tr h1 (by rw[h2,AW.oY]) (λi t e=>h3 i ((t.1:Int),(t.2:Int)) ?_));unfold AW.cT;rw[Zk,e];rfl
theorem RN{H:Hp}{a:Addr}{on:MM.aN}(h:OsI H a (AW.cO on)):nU H a on:=by
 sleep 7;refine(aM tr h1 (by rw[h2,AW.JU]) (λi l e=>?_));obtain⟨r,r1,r2⟩:=h3 i (l.map λn:Nat=>(n:Int)) (by unfold AW.cO;rw[Zk,e];rfl);exact(xWP r r1 (by rw[r2,Ym];rfl))
theorem zL{H:Hp}{w:Addr}{tn:MM.aP}{on:MM.aN}(h:yZ H w on.length (AW.cT tn) (AW.cO on)):dB H w on.length tn on:=let⟨tA,oA,h1,h2,h3⟩:=h;(aG tA oA h1 (QS h2) (RN h3))
end L2
namespace K27
open PySem L2 PyProof.Rows
theorem chO{σ:L2.St}{H:Hp}{Q:VK}{x:Int}{tb tc:TE}(hb:∀R:VK,R (.int x) H->tb σ H R)(h1:¬0<=x->Q (.bl false) H)(h2:0<=x->tc σ H λv H'=>rI0 (λi j=>V.bl (decide (i<j))) (.int x) v H' Q) :
  rJ (rI0 λi j=>V.bl (decide (i<=j))) (rI0 λi j=>V.bl (decide (i<j))) (tC (V.int 0)) tb tc σ H Q:=by
 refine hb _ (i2 (λh=>h2 (Yf h)) λh=>h1 λz=>h (Ye z))
structure Mp(H:Hp)(wa:Addr)(tn:MM.aP)(on:MM.aN):Prop where
 w:yZ H wa on.length (AW.cT tn) (AW.cO on)
 m:AW.DF on.length (AW.cT tn) (AW.cO on)
 g:MM.Good tn on
theorem Mp.same{H H':Hp}{wa:Addr}{tn:MM.aP}{on:MM.aN}(h:Mp H wa tn on)(g:aK H H'):Mp H' wa tn on:=⟨h.w.same g,h.m,h.g⟩
theorem Mp.few{H:Hp}{wa:Addr}{tn:MM.aP}{on:MM.aN}(h:Mp H wa tn on):tn.length<=400:=by have:=h.m.1.2.2;rw[AW.oY]at this;sleep 19
def Q6:Sp:=λvs H Q _=>∃(wa:Addr) (tn:MM.aP) (on:MM.aN),vs=[.ref wa]/\Mp H wa tn on/\MM.Flat tn on/\∀H',aK H H'->Q .non H'
theorem PP(T:Txt K mg t):Ok P w base T 24 7 Q6:=by
 left
 obtain⟨wa,tn,on,rfl,hM,hF,q⟩:=h;have h4:=hM.few;refine(xWP _ (b9 (qD (cX (IB T) hr (T.f 11) bR (c8 (pv 0) fP)))
  (dR (jG (jU (bT (cX (MA T) hr (T.f 23) bR (c8 (pv 0) fP)) (λ_=>rfl))) fZ fF))) ?_)
 refine(gI wa _ _ _ rfl hM.w hM.m (λH1 g1=>?_));refine(aV wa _ tn on rfl (zL (hM.w.same g1)) hM.g (by lia) (λH2 g2=>(xWP _ rfl (iFb (by rw[JA hF];rfl) (q _ (g1.trans g2))))))
noncomputable abbrev nL(tn:MM.aP)(on:MM.aN):Nat:=(MM.aS (MM.behind tn on) (2*tn.length)).length
def Q5:Sp:=λvs H Q _=>∃(wa:Addr) (o:Int) (tn:MM.aP) (on:MM.aN),vs=[.ref wa,.int o]/\Mp H wa tn on/\MM.Flat tn on/\0<=o/\o<nL tn on/\∀H',aK H H'->Q .non H'
theorem PM(T:Txt K mg t):Ok P w base T 25 8 Q5:=by
 left
 obtain⟨wa,o,tn,on,rfl,hM,hF,h0,h1,q⟩:=h;have h4:=hM.few;refine(xWP _ (b9 (qD (cX (PP T) hr (T.f 24) bR (c8 (pv 0) fP)))
  (dR (jG (jU (kI lU lT b0 (pv 1) (bC fU rfl (T.z 6) PySem.boot_len (c8 (cX (kN T) hr (T.f 20) bR (c8 (pv 0) fP)) fP)))) fZ fF))) ?_)
 refine(cI wa tn on rfl hM hF (λH1 g1=>?_));dsimp only[FT,DR,KM,KJ,xC];refine chO (x:=o) ?h1 ?h2 ?h3
 case h1=>exact λR h=>(h)
 case h2=>exact λz=>Yg h0 z
 intro _;refine(aV wa _ tn on rfl (zL (hM.w.same g1)) hM.g (by lia) (λr rr H2 g2 n2=>(aG r _ rfl (.inl (SqL.of n2.at_)) ?_)));have hl:(((rr.map V.ref).length:Nat):Int)=(nL tn on:Int):=by rw[Zq,n2.len]
 exact iFb (by rw[hl,Ye h1];rfl) (q _ (g1.trans g2))
end K27
namespace L2
open PySem PySem.Spec PyProof.Rows
theorem E4(xs:List V)(k:Nat):pR xs (some (k:Int)) none=xs.drop k:=by
 unfold pR;rw[HT.mY,HT.qB];by_cases h:k<=xs.length
 ·rw[Nat.min_eq_left h,List.take_of_length_le (by rw[Yp];lia)]
 ·rw[Nat.min_eq_right (by lia),List.drop_of_length_le (ZC _),List.drop_of_length_le (by lia),List.take_nil]
theorem MY(xs:List V)(k:Nat):pR xs none (some (k:Int))=xs.take k:=by
 unfold pR;rw[HT.mY,HT.qB,List.drop_zero,Nat.sub_zero];by_cases h:k<=xs.length
 ·rw[Nat.min_eq_left h]
 ·rw[Nat.min_eq_right (by lia),List.take_of_length_le (ZC _),List.take_of_length_le (by lia)]
end L2
namespace K27
open PySem L2 PyProof.Rows NM
theorem K7(n:Nat):(ZG n (4:Int)).sum=4*n:=by
 induction n with
 |zero=>rfl
 |succ n ih=>rw[List.replicate_succ,List.sum_cons,ih];lia
theorem BQ(f g:Nat->Int):∀l:List Nat,(l.map λk=>f k-2*g k).sum=(l.map f).sum-2*(l.map g).sum
 |[]=>rfl
 |k::l=>by
  rw[ZJ,List.sum_cons,BQ f g l,ZJ,List.sum_cons,ZJ,List.sum_cons];lia
theorem BR(o:Nat):∀n:Nat,((ZS n).map λk=>if k=o then (-4:Int) else 4).sum=if o<n then 4*(n:Int)-8 else 4*n
 |0=>rfl
 |n+1=>by
  rw[ZI,Zt,List.sum_append,BR o n,ZJ,List.map_nil,List.sum_cons,List.sum_nil];by_cases h:n=o
  ·subst h;rw[Yb rfl,Ya (by lia),Yb (by lia)];lia
  ·rw[Ya h];by_cases h2:o<n
   ·rw[Yb h2,Yb (by lia)];lia
   ·rw[Ya h2,Ya (by lia)];lia
theorem xD:∀l:List Nat,(l.map λn:Nat=>(n:Int)).sum=((l.sum:Nat):Int)
 |[]=>rfl
 |a::l=>by rw[ZJ,List.sum_cons,List.sum_cons,xD l];lia
theorem CO:∀ll:List (List Nat),(ll.map List.length).sum=ll.flatten.length
 |[]=>rfl
 |l::ll=>by rw[ZJ,List.sum_cons,CO ll,List.flatten_cons,Zm]
theorem one_le{a:Nat}:∀{l:List Nat},a∈l->a<=l.sum
 |b::l,h=>by
  rw[List.sum_cons];rcases Zn.mp h with rfl | h
  ·lia
  ·have:=one_le h;lia
theorem J1{tn:MM.aP}{on:MM.aN}(g:MM.Good tn on):((LL tn on).map List.length).sum=2*tn.length:=by
 rw[CO,(MM.sQ g.maps).length_eq,Yj]
theorem EO{tn:MM.aP}{on:MM.aN}(g:MM.Good tn on)(f:MM.Flat tn on){o:Nat}(ho:o<(LL tn on).length):(!21).sum=0:=by
 unfold aT;rw[List.sum_append,K7];have e:(ZS (LL tn on).length).map (gP (LL tn on) o)=(ZS (LL tn on).length).map λk=>(if k=o then (-4:Int) else 4)-2*(((LL tn on).getD k []).length:Int):=rfl;have e2:(ZS (LL tn on).length).map (λk=>(((LL tn on).getD k []).length:Int))=((LL tn on).map List.length).map λn:Nat=>(n:Int):=by
  rw[Ym];refine List.ext_getElem (!5) λi h1 h2=>?_;have hi:i<(LL tn on).length:=by simpa using h1
  simp[Zv,Zz hi]
 rw[e,BQ (λk=>if k=o then (-4:Int) else 4) (λk=>(((LL tn on).getD k []).length:Int)),BR,Yb ho,e2,xD,J1 g];have:on.length+(LL tn on).length=tn.length+2:=f
 lia
structure pS(ws:List Int)(bs ss:List (!18)):Prop where
 w:∀x∈ws,0<=x/\x<=1000
 b:∀x,some x∈bs->0<=x/\x<=1000
 s:∀x,some x∈ss->1<=x/\x<=4
theorem oQ{tn:MM.aP}{on:MM.aN}{nm:List Nat}(g:MM.Good tn on)(h:dZ tn on nm){e:Nat}(he:e<2*tn.length):nm.getD e 0<(LL tn on).length:=by
 obtain⟨k,d,q1,q2,_⟩:=MM.eU g.maps he;rw[h.at_ k d e q1 q2];exact(Zj.mp q1).1
theorem tG{ws:List Int}{i:Nat}(h:i<ws.length):at0 ws i∈ws:=by unfold at0;rw[Zv,Zz h];exact Zp h
theorem sD{l:List (!18)}{i:Nat}{x:Int}(h:ov l i=some x):some x∈l:=by
 unfold ov at h;rw[Zv]at h;cases hh:l[i]? with
 |none=>rw[hh]at h;cases h
 |some y=>rw[hh]at h;exact h▸Zg hh
theorem sJ{tn:MM.aP}{on:MM.aN}{nm:List Nat}{ws:List Int}{bs ss:List (!18)}{o:Nat}(g:MM.Good tn on)(f:MM.Flat tn on)(t40:tn.length<=40)(ho:o<(LL tn on).length)(hn:dZ tn on nm)(hl:ws.length=tn.length)(hw:pS ws bs ss) :
  pN (!21) (!20)/\(!21).length=tn.length+2/\(!20).length=4*tn.length:=by
 have fl:on.length+(LL tn on).length=tn.length+2:=f;have nl:(!21).length=on.length+(LL tn on).length:=by unfold aT;simp
 have wl:(!20).length=4*tn.length:=by unfold aY;simp;lia
 have o1:1<=on.length:=by have:=(g.g.has 0 (by have:=g.one;lia)).1;lia
 refine(xPP ⟨by lia,by lia,by lia,EO g f ho,λx hx=>?_,λwy hwy=>?_⟩ (by lia) wl)
 ·unfold aT at hx;rcases Zf.mp hx with z | z
  ·rw[List.eq_of_mem_replicate z];lia
  ·obtain⟨k,hk,rfl⟩:=Zh.mp z;have hk:=Zs.mp hk;have:((LL tn on).getD k []).length<=2*tn.length:=by
    rw[<-J1 g,Zv,Zz hk];exact one_le (Yr (Zp hk))
   unfold gP;split<;>lia
 ·unfold aY at hwy;rcases Zf.mp hwy with z | z
  ·obtain⟨e,he,rfl⟩:=Zh.mp z;have he:=Zs.mp he;have h1:=(g.g.has (!46) (MM.aZ he)).1;have h2:=oQ g hn he;cases hs:ov ss e with
   |none=>unfold cL;rw[hs];exact⟨by show MM.place tn (!46)<_;lia,by show on.length+nm.getD e 0<_;lia,by show(-1000:Int)<=1/\(1:Int)<=1000;lia,λh hh=>by cases hh;show(1:Int)<=4/\(4:Int)<=1000;lia,by show(-1000:Int)<=0/\(0:Int)<=1000;lia⟩
   |some x =>
    have:=hw.s x (sD hs);unfold cL;rw[hs];exact⟨by show MM.place tn (!46)<_;lia,by show on.length+nm.getD e 0<_;lia,by show(-1000:Int)<=x/\x<=1000;lia,λh hh=>by cases hh;show x<=x/\x<=1000;lia,by show(-1000:Int)<=0/\(0:Int)<=1000;lia⟩
  ·obtain⟨e,he,rfl⟩:=Zh.mp z;have he:=Zs.mp he;have h1:=oQ g hn he;have h2:=oQ g hn (MM.aZ he);have h3:=hw.w _ (tG (ws:=ws) (i:=e / 2) (by lia));refine⟨by show on.length+nm.getD e 0<_;lia,by show on.length+nm.getD (!46) 0<_;lia,by show(-1000:Int)<=0/\(0:Int)<=1000;lia,λh hh=>?_,by show(-1000:Int)<=at0 ws (e / 2)/\at0 ws (e / 2)<=1000;lia⟩;have:=hw.b h (sD hh);sleep 19
theorem SD{n:Nat}{tn:MM.aP}{nm:List Nat}{ws:List Int}{bs ss:List (!18)}(hl:ws.length=tn.length)(hw:pS ws bs ss):∀w∈aY n tn nm ws bs ss,0<=w.c:=λw h=>by
 unfold aY at h;rcases Zf.mp h with z | z
 ·obtain⟨e,he,rfl⟩:=Zh.mp z;exact Int.le_refl 0
 ·obtain⟨e,he,rfl⟩:=Zh.mp z;have he:=Zs.mp he;exact(hw.w _ (tG (ws:=ws) (i:=e / 2) (by lia))).1
theorem PN(T:Txt K mg t):Ok P w base T 46 5 rN:=by
 exact xY T (xX T) (AH T (HS T (qI T))) (EK T (L5 T (qI T) (HM T) (IA T)) (HN T (qI T) (AN T) (CI T) (PH T)) (HP T) (LW T (AN T)) (LV T (AN T) (CI T)))
end K27
namespace FL
theorem zY(N:Nat)(f:Nat->Int):∀M,sm (N+M) f=sm N f+sm M λk=>f (N+k)
 |0=>by rw[pZ,Nat.add_zero];lia
 |M+1=>by rw[show N+(M+1)=N+M+1 from rfl,cJ,zY N f M,cJ];lia
end FL
namespace MM
theorem BU(p:Nat->Prop)[DecidablePred p](f:Nat->Int):∀l:List Nat,su l (λx=>if p x then f x else 0)=su (l.filter λx=>decide (p x)) f
 |[]=>rfl
 |x::l=>by
  rw[bI,BU p f l,List.filter_cons];by_cases h:p x
  ·rw[Yb h,Yb (by simpa using h),bI]
  ·rw[Ya h,Ya (by simpa using h)];lia
theorem pY{N:Nat}{d:List Nat}(p:Nat->Prop)[DecidablePred p](f:Nat->Int)(nd:d.Nodup)(h:∀x,x∈d↔x<N/\p x):su (ZS N) (λx=>if p x then f x else 0)=su d f:=by
 rw[BU];refine lH (qH (List.nodup_range.filter _) nd λx=>?_);rw[Yz,Zs,h,decide_eq_true_iff]
theorem FY(T:Nat)(f:Nat->Int):su (ZS (2*T)) f=su (ZS (2*T)) λe=>f (oth e):=by
 rw[<-lH (xQ T),zU]
end MM
namespace K27
open PySem L2 PyProof.Rows NM FL
theorem NX{a b:List Int}{k:Nat}(h:k<a.length):at0 (a++b) k=at0 a k:=by unfold at0;rw[Zv,Zv,Zx h]
theorem JY{a b:List Int}{k:Nat}:at0 (a++b) (a.length+k)=at0 b k:=by unfold at0;rw[Zv,Zv,Zy (by lia),Nat.add_sub_cancel_left]
section
variable{n:Nat}{ts:MM.aP}{os:MM.aN}{nm:List Nat}{ws:List Int}{bs ss:List (!18)}{cs ls:List Int}{o:Nat}
theorem vE{e:Nat}(h:e<2*ts.length):(aY n ts nm ws bs ss)[e]?=some (cL n ts nm ss e):=by
 unfold aY;rw[Zx (by simpa using h),Zk,Yk h];rfl
theorem vD{e:Nat}(h:e<2*ts.length):(aY n ts nm ws bs ss)[2*ts.length+e]?=some (jJ n nm ws bs e):=by
 unfold aY;rw[Zy (!5),Zq,Yj,Nat.add_sub_cancel_left,Zk,Yk h];rfl
theorem kC:(aY n ts nm ws bs ss).length=2*ts.length+2*ts.length:=by unfold aY;simp
theorem p7(hc:cs.length=2*ts.length)(f:Way->Nat)(v:Nat) :
  sm (2*ts.length+2*ts.length) (λk=>if (((aY n ts nm ws bs ss)[k]?.map f).getD 0)=v then at0 (cs++ls) k else 0)=MM.su (ZS (!2)) (λe=>if f (cL n ts nm ss e)=v then at0 cs e else 0)+MM.su (ZS (!2)) (λe=>if f (jJ n nm ws bs e)=v then at0 ls e else 0):=by
 rw[zY];have e1:=bY (m:=2*ts.length) (f:=λk=>if (((aY n ts nm ws bs ss)[k]?.map f).getD 0)=v then at0 (cs++ls) k else 0) (g:=λe=>if f (cL n ts nm ss e)=v then at0 cs e else 0) λk hk=>by rw[vE hk,NX (by lia)];rfl
 have e2:=bY (m:=2*ts.length) (f:=λk=>if (((aY n ts nm ws bs ss)[2*ts.length+k]?.map f).getD 0)=v then at0 (cs++ls) (2*ts.length+k) else 0) (g:=λe=>if f (jJ n nm ws bs e)=v then at0 ls e else 0) λk hk=>by rw[vD hk,<-hc,JY];rfl
 rw[e1,e2];rfl
theorem vI{N:Nat}{f:Nat->Int}(h:∀e,f e=0):MM.su (ZS N) f=0:=by
 rw[MM.c7 (g:=λ_=>0) λx _=>h x,MM.jE];lia
theorem rV(g:MM.Good ts os)(hc:cs.length=2*ts.length){p:Nat}(hp:p<os.length) :
  rs (2*ts.length+2*ts.length) (aF (!43)) (bF (!43)) (at0 (!37)) (at0 (cs++ls)) p=4-MM.su (MM.row os p) λe=>at0 cs (!46):=by
 unfold rs;have ea:=p7 (n:=os.length) (ts:=ts) (nm:=nm) (ws:=ws) (bs:=bs) (ss:=ss) (ls:=ls) hc (·.a) p;have eb:=p7 (n:=os.length) (ts:=ts) (nm:=nm) (ws:=ws) (bs:=bs) (ss:=ss) (ls:=ls) hc (·.b) p;have z1:MM.su (ZS (!2)) (λe=>if (jJ os.length nm ws bs e).a=p then at0 ls e else 0)=0:=vI λe=>Ya (show ¬os.length+nm.getD e 0=p by lia);have z2:MM.su (ZS (!2)) (λe=>if (jJ os.length nm ws bs e).b=p then at0 ls e else 0)=0:=vI λe=>Ya (show ¬os.length+nm.getD (!46) 0=p by lia);have z3:MM.su (ZS (!2)) (λe=>if (cL os.length ts nm ss e).b=p then at0 cs e else 0)=0:=vI λe=>Ya (show ¬os.length+nm.getD e 0=p by lia);have nd:at0 (!37) p=4:=by
  unfold aT;rw[NX (by simpa using hp)];unfold at0;rw[Zv,List.getElem?_replicate,Yb hp];rfl
 have z4:MM.su (ZS (!2)) (λe=>if (cL os.length ts nm ss e).a=p then at0 cs e else 0)=MM.su (MM.row os p) λe=>at0 cs (!46):=by
  rw[MM.FY];refine(MM.c7 λe _=>?_).trans (MM.pY (λe=>MM.place ts e=p) (λe=>at0 cs (!46)) (g.g.nd p) λx=>⟨λh=>g.g.ends p x h,λh=>?_⟩)
  ·show(if MM.place ts (MM.oth (!46))=p then at0 cs (!46) else 0)=_;rw[MM.eK]
  ·have:=(g.g.has x h.1).2
   rwa [h.2]at this
 unfold aF bF;rw[ea,eb,z1,z2,z3,z4,nd]
 lia
theorem uE(g:MM.Good ts os)(hn:dZ ts os nm)(hc:cs.length=2*ts.length){k:Nat}{d:List Nat}(hk:(!19)[k]?=some d) :
  rs (2*ts.length+2*ts.length) (aF (!43)) (bF (!43)) (at0 (!37)) (at0 (cs++ls)) (os.length+k)=(if k=o then -4 else 4)-MM.su d (MM.trm (at0 cs) (at0 ls)):=by
 unfold rs;have ea:=p7 (n:=os.length) (ts:=ts) (nm:=nm) (ws:=ws) (bs:=bs) (ss:=ss) (ls:=ls) hc (·.a) (os.length+k);have eb:=p7 (n:=os.length) (ts:=ts) (nm:=nm) (ws:=ws) (bs:=bs) (ss:=ss) (ls:=ls) hc (·.b) (os.length+k);have land:=MM.fE g hk;have num:MM.Num ts os λx=>nm.getD x 0:=λk d x h1 h2=>hn.at_ k d x h1 h2;have mem:∀x,x∈d↔x<2*ts.length/\os.length+nm.getD x 0=os.length+k:=λx=>⟨λh=>⟨land.2.1 x h,by rw[hn.at_ k d x hk h]⟩,λh=>(MM.vU g num h.1 hk).mpr (by have:=h.2;lia)⟩
 have kl:=(Zj.mp hk).1;have nd:at0 (!37) (os.length+k)=(if k=o then -4 else 4)-2*(d.length:Int):=by
  unfold aT;have:=JY (a:=ZG os.length (4:Int)) (b:=(ZS (!19).length).map (gP (!19) o)) (k:=k);rw[List.length_replicate]at this;rw[this];unfold at0;rw[Zv,Zk,Yk kl];show gP (!19) o k=_;unfold gP;rw[Zv,hk];rfl
 have z1:MM.su (ZS (!2)) (λe=>if (cL os.length ts nm ss e).a=os.length+k then at0 cs e else 0)=0:=by
  refine(MM.c7 (g:=λ_=>0) λe he=>Ya (show ¬MM.place ts (!46)=os.length+k by have:=(g.g.has (!46) (MM.aZ (Zs.mp he))).1;lia)).trans (by rw[MM.jE];lia)
 have z2:MM.su (ZS (!2)) (λe=>if (jJ os.length nm ws bs e).a=os.length+k then at0 ls e else 0)=MM.su d λe=>at0 ls e:=MM.pY (λe=>os.length+nm.getD e 0=os.length+k) (λe=>at0 ls e) land.1 mem;have z3:MM.su (ZS (!2)) (λe=>if (cL os.length ts nm ss e).b=os.length+k then at0 cs e else 0)=MM.su d λe=>at0 cs e:=MM.pY (λe=>os.length+nm.getD e 0=os.length+k) (λe=>at0 cs e) land.1 mem;have z4:MM.su (ZS (!2)) (λe=>if (jJ os.length nm ws bs e).b=os.length+k then at0 ls e else 0)=MM.su d λe=>at0 ls (!46):=by
  rw[MM.FY];refine(MM.c7 λe _=>?_).trans (MM.pY (λe=>os.length+nm.getD e 0=os.length+k) (λe=>at0 ls (!46)) land.1 mem);show(if os.length+nm.getD (MM.oth (!46)) 0=os.length+k then at0 ls (!46) else 0)=_;rw[MM.eK]
 have tr:MM.su d (MM.trm (at0 cs) (at0 ls))=2*(d.length:Int)-MM.su d (λe=>at0 cs e)+MM.su d (λe=>at0 ls e)-MM.su d λe=>at0 ls (!46):=by
  rw[<-MM.jE 2 d,<-MM.kF,<-MM.oH,<-MM.kF];rfl
 unfold aF bF;rw[ea,eb,z1,z2,z3,z4,nd,tr]
 lia
def BG(bs ss:List (!18))(cs ls:List Int)(N:Nat):Prop:=∀e,e<N->(∀b,ov bs (e / 2)=some b->at0 ls e<=b)/\∀s,ov ss e=some s->at0 cs e=s
theorem oV(g:MM.Good ts os)(hn:dZ ts os nm)(hs:∀x,some x∈ss->1<=x/\x<=4)(hc:cs.length=2*ts.length)(hl:ls.length=2*ts.length) :
  pO (!37) (!43) (cs++ls)↔MM.Shp ts os o (at0 cs) (at0 ls)/\BG bs ss cs ls (!2):=by
 have nl:(!37).length=os.length+(!19).length:=by unfold aT;simp
 have hab:∀w∈aY os.length ts nm ws bs ss,w.a<(!37).length/\w.b<(!37).length:=λw hw=>by
  rw[nl];unfold aY at hw;rcases Zf.mp hw with z | z
  ·obtain⟨e,he,rfl⟩:=Zh.mp z;have he:=Zs.mp he;have h1:=(g.g.has (!46) (MM.aZ he)).1;have h2:=oQ g hn he;exact⟨by show MM.place ts (!46)<_;lia,by show os.length+nm.getD e 0<_;lia⟩
  ·obtain⟨e,he,rfl⟩:=Zh.mp z;have he:=Zs.mp he;have h1:=oQ g hn he;have h2:=oQ g hn (MM.aZ he);exact⟨by show os.length+nm.getD e 0<_;lia,by show os.length+nm.getD (!46) 0<_;lia⟩
 have gl:(cs++ls).length=(!43).length:=by rw[Zm,kC,hc,hl]
 have gc:∀{e},e<2*ts.length->(cs++ls)[e]?=some (at0 cs e):=λ{e} he=>by
  rw[Zx (by lia)];unfold at0;rw[Zv,Zz (by lia)];rfl
 have gg:∀{e},e<2*ts.length->(cs++ls)[2*ts.length+e]?=some (at0 ls e):=λ{e} he=>by
  rw[Zy (by lia),hc,Nat.add_sub_cancel_left];unfold at0;rw[Zv,Zz (by lia)];rfl
 have rsl:∀v,at0 (left (!43) (cs++ls) (!37)) v=rs (2*ts.length+2*ts.length) (aF (!43)) (bF (!43)) (at0 (!37)) (at0 (cs++ls)) v:=λv=>by
  rw[vZ gl hab v,kC]
 have sv:∀{e s},ov ss e=some s->1<=s/\s<=4:=λh=>hs _ (sD h);constructor
 ·intro G;have ic:∀{e},e<2*ts.length->(ov ss e).getD 1<=at0 cs e/\at0 cs e<=(ov ss e).getD 4:=λ{e} he=>let h:=G.inb e _ _ (vE he) (gc he);⟨h.1,h.2 _ rfl⟩;have il:∀{e},e<2*ts.length->0<=at0 ls e/\∀b,ov bs (e / 2)=some b->at0 ls e<=b:=λ{e} he=>G.inb _ _ _ (vD he) (gg he);refine⟨⟨⟨λe he=>?_,λe he=>?_,λp hp=>?_⟩,λe he=>(il he).1,λk d hk=>?_⟩,λe he=>⟨(il he).2,λs h=>?_⟩⟩
  ·have:=ic he;cases h:ov ss e with
   |none=>rw[h]at this;exact this.1
   |some s=>rw[h]at this;have h1:=sv h;have h2:s<=at0 cs e:=this.1;lia
  ·have:=ic he;cases h:ov ss e with
   |none=>rw[h]at this;exact this.2
   |some s=>rw[h]at this;have h1:=sv h;have h2:at0 cs e<=s:=this.2;lia
  ·have:=G.zero p (by lia);rw[rsl,rV g hc hp]at this
   lia
  ·have:=G.zero (os.length+k) (by rw[nl];have:k<(!19).length:=(Zj.mp hk).1;lia);rw[rsl,uE g hn hc hk]at this
   lia
  ·have:=ic he;rw[h]at this;have h1:s<=at0 cs e:=this.1;have h2:at0 cs e<=s:=this.2
   lia
 ·rintro⟨S,F⟩;refine⟨gl,λi w x hw hx=>?_,λv hv=>?_⟩
  ·have hi:=(Zj.mp hw).1;rw[kC]at hi;by_cases h:i<2*ts.length
   ·rw[vE h]at hw;rw[gc h]at hx;cases hw;cases hx;have h1:=S.pl.lo i h;have h2:=S.pl.hi i h;cases z:ov ss i with
    |none=>exact⟨by show(ov ss i).getD 1<=_;rw[z];exact h1,λh e=>by cases e;show _<=(ov ss i).getD 4;rw[z];exact h2⟩
    |some s =>
     have:=(F i h).2 s z;exact⟨by show(ov ss i).getD 1<=_;rw[z];show s<=_;lia,λh e=>by cases e;show _<=(ov ss i).getD 4;rw[z];show _<=s;lia⟩
   ·obtain⟨e,rfl⟩:∃e,i=2*ts.length+e:=⟨i-2*ts.length,by lia⟩
    have he:e<2*ts.length:=by lia
    rw[vD he]at hw;rw[gg he]at hx;cases hw;cases hx;exact⟨S.pos e he,(F e he).1⟩
  ·rw[rsl];by_cases h:v<os.length
   ·rw[rV g hc h,S.pl.at_ v h];rfl
   ·obtain⟨k,rfl⟩:∃k,v=os.length+k:=⟨v-os.length,by lia⟩
    have kl:k<(!19).length:=by lia
    rw[uE g hn hc (Zz kl),S.ld k _ (Zz kl)];lia
theorem xE(f:Nat->Int):∀T,MM.su (ZS (2*T)) f=MM.su (ZS T) λk=>f (2*k)+f (2*k+1)
 |0=>rfl
 |T+1=>by
  rw[show 2*(T+1)=2*T+1+1 from rfl,ZI,ZI,ZI,MM.oG,MM.oG,xE f T,MM.oG,MM.bI,MM.kG,MM.bI,MM.kG,MM.bI,MM.kG];lia
theorem tD(hc:cs.length=2*ts.length)(hl:ls.length=2*ts.length):lS (aY n ts nm ws bs ss) (cs++ls)=costOf ws ls ts.length:=by
 rw[wM ⟨0,0,0,none,0⟩ _ _ (by rw[Zm,kC,hc,hl]),kC];have e:=zY (!2) (λk=>((aY n ts nm ws bs ss).getD k ⟨0,0,0,none,0⟩).c*at0 (cs++ls) k) (!2);have e1:=bY (m:=2*ts.length) (f:=λk=>((aY n ts nm ws bs ss).getD k ⟨0,0,0,none,0⟩).c*at0 (cs++ls) k) (g:=λ_=>0) λk hk=>by rw[Zv,vE hk];exact Int.zero_mul _
 have e2:=bY (m:=2*ts.length) (f:=λk=>((aY n ts nm ws bs ss).getD (2*ts.length+k) ⟨0,0,0,none,0⟩).c*at0 (cs++ls) (2*ts.length+k)) (g:=λk=>at0 ws (k / 2)*at0 ls k) λk hk=>by rw[Zv,vD hk,<-hc,JY];rfl
 rw[e1,e2,rP]at e;refine e.trans ?_;rw[Int.zero_add];refine(xE (λk=>at0 ws (k / 2)*at0 ls k) ts.length).trans ?_;unfold costOf uU MM.su;congr 1;refine Ys λk _=>?_;unfold sum2;rw[show 2*k / 2=k by lia,show(2*k+1) / 2=k by lia,<-Int.mul_add,Int.mul_comm]
theorem yH{T:Nat}(hp:∀e,e<2*T->0<=at0 ls e)(h:BG bs ss cs ls (2*T)):pE bs ss cs ((ZS (2*T)).map (few ls)) T:=by
 have at_:∀{e},e<2*T->at0 ((ZS (2*T)).map (few ls)) e=few ls e:=λ{e} he=>by
  unfold at0;rw[Zv,Zk,Yk he];rfl
 refine⟨λk hk b hb=>?_,λk hk c=>(h k hk).2 c⟩;have b1:=(h (2*k) (by lia)).1 b (by rw[show 2*k / 2=k by lia];exact hb);have b2:=(h (2*k+1) (by lia)).1 b (by rw[show(2*k+1) / 2=k by lia];exact hb);have p1:=hp (2*k) (by lia);have p2:=hp (2*k+1) (by lia);unfold sum2;rw[at_ (by lia),at_ (by lia)];unfold few;have o1:MM.oth (2*k)=2*k+1:=by unfold MM.oth;rw[Yb (by lia)]
 have o2:MM.oth (2*k+1)=2*k:=by unfold MM.oth;rw[Ya (by lia)];lia
 rw[o1,o2];unfold mn;split<;>split<;>lia
end
end K27
namespace K27
open PySem L2 PyProof.Rows NM
theorem MS{ls:List Int}{T k:Nat}(h:k<T)(hp:∀e,e<2*T->0<=at0 ls e):sum2 ((ZS (2*T)).map (few ls)) k<=sum2 ls k:=by
 have at_:∀{e},e<2*T->at0 ((ZS (2*T)).map (few ls)) e=few ls e:=λ{e} he=>by
  unfold at0;rw[Zv,Zk,Yk he];rfl
 have p1:=hp (2*k) (by lia);have p2:=hp (2*k+1) (by lia);unfold sum2;rw[at_ (by lia),at_ (by lia)];unfold few;have o1:MM.oth (2*k)=2*k+1:=by unfold MM.oth;rw[Yb (by lia)]
 have o2:MM.oth (2*k+1)=2*k:=by unfold MM.oth;rw[Ya (by lia)];lia
 rw[o1,o2];unfold mn;split<;>split<;>lia
theorem FV:∀{l:List Nat}{f g:Nat->Int},(∀k∈l,f k<=g k)->(l.map f).sum<=(l.map g).sum
 |[],_,_,_=>Int.le_refl _
 |k::l,f,g,h=>by
  rw[ZJ,ZJ,List.sum_cons,List.sum_cons];have:=h k Zd;have:=FV (l:=l) λx hx=>h x (Zw _ hx)
  lia
theorem JO{ws ls:List Int}{T:Nat}(hw:∀x∈ws,0<=x/\x<=1000)(lw:ws.length=T)(hp:∀e,e<2*T->0<=at0 ls e):costOf ws ((ZS (2*T)).map (few ls)) T<=costOf ws ls T:=by
 unfold costOf uU;exact FV λk hk=>Int.mul_le_mul_of_nonneg_right (MS (Zs.mp hk) hp) (hw _ (tG (by have:=Zs.mp hk;lia))).1
theorem qM{ls:List Int}{T:Nat}(hl:ls.length=2*T)(e:Nat):at0 ((ZS (2*T)).map (few ls)) e=few ls e:=by
 by_cases h:e<2*T
 ·unfold at0;rw[Zv,Zk,Yk h];rfl
 ·have z:∀k,2*T<=k->at0 ls k=0:=λk hk=>by unfold at0;rw[Zv,Zr (by lia)];rfl
  have o:2*T<=MM.oth e:=by unfold MM.oth;split<;>lia
  unfold few;rw[z e (by lia),z _ o];unfold at0;rw[Zv,Zr (!41)];rfl
theorem JB{ls:List Int}{T:Nat}(hp:∀e,e<2*T->0<=at0 ls e){e:Nat}(h:e<2*T):0<=few ls e/\few ls e<=at0 ls e:=by
 have p1:=hp e h;have p2:=hp _ (MM.aZ h);unfold few mn;split<;>lia
theorem MU(ls:List Int)(e:Nat):few ls e-few ls (!46)=at0 ls e-at0 ls (!46):=by
 unfold few;rw[MM.eK];unfold mn;split<;>split<;>lia
theorem C0{ts:MM.aP}{os:MM.aN}{o:Nat}{cs ls:List Int}(hl:ls.length=2*ts.length)(S:MM.Shp ts os o (at0 cs) (at0 ls)):MM.Shp ts os o (at0 cs) (at0 ((ZS (!2)).map (few ls))):=by
 refine⟨S.pl,λe he=>?_,λk d hd=>?_⟩
 ·rw[qM hl];exact(JB S.pos he).1
 ·rw[<-S.ld k d hd];refine MM.c7 λe _=>?_;unfold MM.trm;rw[qM hl,qM hl];have:=MU ls e
  lia
theorem MT{bs ss:List (!18)}{cs ls:List Int}{T:Nat}(hl:ls.length=2*T)(hp:∀e,e<2*T->0<=at0 ls e)(F:BG bs ss cs ls (2*T)):BG bs ss cs ((ZS (2*T)).map (few ls)) (2*T):=λe he =>
 ⟨λb hb=>by rw[qM hl];exact Int.le_trans (JB hp he).2 ((F e he).1 b hb),(F e he).2⟩
theorem zZ{tn:MM.aP}{on:MM.aN}{nm:List Nat}{ws:List Int}{bs ss:List (!18)}{o:Nat}{ps cs ls:List Int}(g:MM.Good tn on)(hn:dZ tn on nm)(hok:pS ws bs ss)(lw:ws.length=tn.length)
  (N:pN (!21) (!20)) (hc:cs.length=2*tn.length) (hl:ls.length=2*tn.length)
  (S:MM.Shp tn on o (at0 cs) (at0 ls)) (F:BG bs ss cs ls (2*tn.length))
  (B:bnd (due ps) (!20) (dot ps (!21) (!21).length)=some (lS (!20) (cs++ls))) :
  costOf ws ((ZS (2*tn.length)).map (few ls)) tn.length=lS (!20) (cs++ls):=by
 have lf:((ZS (2*tn.length)).map (few ls)).length=2*tn.length:=by simp
 have G2:=(oV (ws:=ws) (o:=o) g hn hok.s hc lf).mpr ⟨C0 hl S,MT hl S.pos F⟩;have B2:bnd (least ps) (!20) (dot ps (!21) (!21).length)=some (lS (!20) (cs++ls)):=by
  rw[<-B];exact oZ _ _ λw hw=>uP ps w λh hh=>((N.w w hw).hi h hh).1
 have h1:=MD (λw hw=>⟨(N.w w hw).a,(N.w w hw).b⟩) G2 B2;rw[tD hc lf]at h1;rw[tD hc hl]at h1 ⊢;have h2:=JO hok.w lw S.pos
 lia
def Tl(tn:MM.aP)(on:MM.aN)(o:Nat)(ws:List Int)(bs ss:List (!18))(a:Fd):Prop:=∃nm,dZ tn on nm/\Cp (!21) (!20) a
def S7:Sp:=λvs H Q _=>∃(wa p wA bA sA:Addr) (o:Nat) (tn:MM.aP) (on:MM.aN) (ws:List Int) (bs ss:List (!18)),vs=[.ref wa,vn o,.ref p]/\Mp H wa tn on/\MM.Flat tn on/\tn.length<=40/\on.length<=40/\o<nL tn on/\jM H p wA bA sA ws bs ss/\ws.length=tn.length/\bs.length=tn.length/\ss.length=2*tn.length/\pS ws bs ss /\
 (∀(r la:Addr) (lot:List Int) (H':Hp),H la=none->aK H H'->H' r=some (.tup [.str "none",.ref la])->H' la=some (.lst (lot.map V.int))->lot.length<60 ->
  (∃nm,dZ tn on nm/\BF (!21) lot (!20))->Tl tn on o ws bs ss (.lot lot)->Q (.ref r) H') /\
 (∀(r v a b ra:Addr) (cs ls ps gs:List Int) (nm:List Nat) (H':Hp),(H a=none/\H b=none/\H ra=none/\a≠b/\a≠ra/\b≠ra)->aK H H'->H' r=some (.tup [.str "shape",.ref v,.ref ra])->H' v=some (.tup [.ref a,.ref b]) ->
  H' a=some (!28)->H' b=some (.lst (((ZS (2*tn.length)).map (few ls)).map V.int))->H' ra=some (!12)->cs.length=2*tn.length->ls.length=2*tn.length->ps.length=tn.length+2 ->
  dZ tn on nm->MM.Shp tn on o (at0 cs) (at0 ls)->BG bs ss cs ls (2*tn.length) ->
  bnd (due ps) (!20) (dot ps (!21) (!21).length)=some (costOf ws ((ZS (2*tn.length)).map (few ls)) tn.length) ->
  gs=cs++ls->Tl tn on o ws bs ss (.going gs ps)->Q (.ref r) H')
theorem RP(T:Txt K mg t):Ok P w base T 62 9 S7:=by
 have G_shortened:=HL (P:=P) (w:=w) (base:=base) T (kM T)
 left
 obtain⟨wa,p,wA,bA,sA,o,tn,on,ws,bs,ss,rfl,hM,hF,t40,o40,ho,hW,l1,l2,l3,hok,qn,q⟩:=h;refine(xWP _ (by exists PM,0,1,3,PN,xT,0,1,2,dF,aI,3,3,4,aI,0,5,cX G_shortened hr (T.f 55) bR ?_,nA qA ?_ qG ?_,aI,3,qF (pv 4),nA qA ?_ ?_ qG,aI,3,qF (pv 4),5,aI,3) ?_);refine(bG wa o tn on rfl hM hF (by lia) (by lia) (λH1 g1=>?_));have hM1:=hM.same g1;dsimp only;refine SN (λσ' H'=>∃r:Addr,σ'=[some (.ref wa),some (vn o),some (.ref p),some (.ref r),none,none]/\aK H H'/\((∃la lot,H la=none/\H' r=some (.tup [.str "none",.ref la])/\H' la=some (.lst (lot.map V.int))/\lot.length<60/\(∃nm,dZ tn on nm/\BF (!21) lot (!20))/\Tl tn on o ws bs ss (.lot lot)) \/
  ∃(z:Str) (ga ra:Addr) (gs ps:List Int) (nm:List Nat),H' r=some (.tup [.str z,.ref ga,.ref ra])/\decide (V.str z=V.str (Str.ofString "none"))=false/\H ra=none/\H' ga=some (.lst (gs.map V.int))/\H' ra=some (!12)/\ps.length=tn.length+2/\gs.length=4*tn.length/\dZ tn on nm/\pN (!21) (!20)/\pO (!21) (!20) gs /\
   bnd (due ps) (!20) (dot ps (!21) (!21).length)=some (lS (!20) gs)/\Tl tn on o ws bs ss (.going gs ps))) (λN n1=>?_) ?_
 ·refine(aR wa p wA bA sA on.length o tn on (fG ws bs ss rfl (zL hM1.w) hM.g t40 o40 ho (bK (hW.mono g1) l1 l2 l3 (λrn na wl nm H2 g2 _ _ _ hnum hN=>?_))));obtain⟨nok,nlen,wlen⟩:=sJ hM.g hF t40 ho hnum l1 hok (bs:=bs) (ss:=ss);have g02:=g1.trans g2;refine(a7 rn na wl _ _ rfl hN nok (SD l1 hok) (xPP (by lia) (λr la lot H3 fl g3 f0 f1 hl hL cp=>?_) (λr ga pb gs ps H3 fl g3 f0 f1 f2 pl G hb cp=>?_)))
  ·exact n1 _ _ (aM r rfl (g02.trans g3) (.inl (cG la lot (g02.free fl) f0 f1 hl (xWP nm hnum hL) (xWP nm hnum cp))))
  ·exact n1 _ _ (aM r rfl (g02.trans g3) (.inr (cR _ ga pb gs ps nm f0 (by decide +kernel) (g02.free fl.2.1) (jD f1 f2 (by rw[pl,nlen]) (by rw[G.len,wlen]) hnum nok G hb (xWP nm hnum cp)))))
 rintro σ H3 ⟨r,rfl,g3,⟨la,lot,fl,f0,f4,f5,f6,f7⟩ | ⟨z,ga,ra,gs,ps,nm,f0,fz,fra,f1,f2,pl,hg,hnum,nok,G,B,tl⟩⟩
 ·exact(aG _ _ (SqT.of f0) rfl (iTb (by rfl) (qn _ _ _ _ fl g3 f0 f4 f5 f6 f7)))
 obtain⟨tA,oA,e1,⟨tr,e2,e3,e4⟩,_⟩:=(hM.same g3).w;refine(aG _ _ (SqT.of f0) rfl (iFb fz ?_));refine(bP _ _ (SqT.of e1) rfl tA _ rfl (.inl (SqL.of e2)) (!7) ?_);have em:2*(((!32).length:Nat):Int)=((2*tn.length:Nat):Int):=by rw[Zq,e3,AW.oY];lia
 show cS 4 (V.int (2*(((!32).length:Nat):Int))) _ _ _;rw[em];dsimp only[cS];refine(aG _ _ (SqT.of f0) rfl (xWP _ (SqL.of f1) (λc hc=>?_)));rw[MY];have k4:=aC hc (.lst ((gs.map V.int).take (2*tn.length)));refine(aG _ _ (SqT.of (k4 _ _ f0)) rfl (xWP _ (SqL.of (k4 _ _ f1)) (λd hd=>?_)));rw[E4];have k5:=aC hd (.lst ((gs.map V.int).drop (2*tn.length)));refine⟨!9,λu hu=>?_⟩;have k6:=aC hu (.tup [.ref c,.ref d]);refine(cR u c d tn.length (gs.take (2*tn.length)) (gs.drop (2*tn.length)) rfl (SqT.of aB) (SqL.of (k6 _ _ (k5 _ _ (by rw[aB,List.map_take])))) (bN (SqL.of (k6 _ _ (by rw[aB,List.map_drop]))) (by rw[Yp];lia) (by lia) (λv a b H4 g4 na nb nab v1 v2 v3=>?_)));have g46:=k4.trans (k5.trans (k6.trans g4));have k46:=k4.trans (k5.trans k6);have lc2:(gs.take (2*tn.length)).length=2*tn.length:=by rw[Yw];lia
 have ll2:(gs.drop (2*tn.length)).length=2*tn.length:=by rw[Yp];lia
 have eg:gs=gs.take (2*tn.length)++gs.drop (2*tn.length):=(List.take_append_drop (2*tn.length) gs).symm;rw[eg]at G B;obtain⟨S2,F2⟩:=(oV hM.g hnum hok.s lc2 ll2).mp G;have hsc:=zZ hM.g hnum hok l1 nok lc2 ll2 S2 F2 B;rw[<-hsc]at B;have fra3:∀x,(upd (upd (upd H3 c (.lst ((gs.map V.int).take (2*tn.length)))) d (.lst ((gs.map V.int).drop (2*tn.length)))) u (.tup [.ref c,.ref d])) x=none->x≠ra:=λx hx z=>by subst z;rw[k46 _ _ f2]at hx;cases hx
 refine(aO _ _ (SqT.of (g46 _ _ f0)) rfl (by show 3<=ZW;decide) (λy hy=>?_));have k7:=aC hy (.tup [.str "shape",.ref v,.ref ra]);exact q _ v a b ra _ _ ps gs nm _ (cN ((g3.trans k46).free na) ((g3.trans k46).free nb) fra nab (fra3 a na) (fra3 b nb)) (g3.trans (g46.trans k7)) aB (k7 _ _ v1) (k7 _ _ v2) (by rw[Ym];exact k7 _ _ v3) (k7 _ _ (g46 _ _ f2)) lc2 ll2 pl hnum S2 F2 B eg tl
end K27
namespace L2
open PySem PyProof.Rows
end L2
namespace K27
open PySem L2 PyProof.Rows NM
theorem DE{ts:MM.aP}{os:MM.aN}(g:MM.Good ts os){k:Nat}{d:List Nat}(h:(!19)[k]?=some d):d.length<=2*ts.length/\∀x∈d,x<2*ts.length:=by
 obtain⟨e,he,rfl⟩:=MM.mM g.maps _ (ZS (!2)) (ZC _) (λz hz=>Zs.mp hz) d (Zg h);exact⟨(MM.sR g.maps (Zs.mp he)).2,MM.fR g.maps (Zs.mp he)⟩
theorem NA{ts:MM.aP}{os:MM.aN}(g:MM.Good ts os){k k':Nat}{d d':List Nat}{x:Nat}(h:(!19)[k]?=some d)(hx:x∈d)(h':(!19)[k']?=some d')(hx':x∈d'):k=k':=by
 obtain⟨j,_,_,_,u⟩:=MM.eU g.maps ((DE g h).2 x hx);rw[u k d h hx,u k' d' h' hx']
theorem PR{ts:MM.aP}{os:MM.aN}(g:MM.Good ts os):∃nm,dZ ts os nm:=by
 have h:∀x:Nat,∃k:Nat,∀(j:Nat) (d:List Nat),(!19)[j]?=some d->x∈d->j=k:=λx=>by
  by_cases hx:x<2*ts.length
  ·obtain⟨k,_,_,_,u⟩:=MM.eU g.maps hx;exact⟨k,u⟩
  ·exact⟨0,λj d hj hd=>Yg ((DE g hj).2 x hd) hx⟩
 refine⟨(ZS (!2)).map λx=>Classical.choose (h x),by simp,λk d x hk hx=>?_⟩;have hlt:=(DE g hk).2 x hx;rw[Zv,Zk,Yk hlt];exact(Classical.choose_spec (h x) k d hk hx).symm
def iJ(ll:List (List Nat))(k:Nat):Int:=4-2*((ll.getD k []).length:Int)
theorem IF(n:Nat)(ll:List (List Nat))(o:Nat)(ho:o<ll.length):(ZG n 4++(ZS ll.length).map (iJ ll)).set (n+o) (at0 (ZG n 4++(ZS ll.length).map (iJ ll)) (n+o)-8)=aT n ll o:=by
 have ha:at0 (ZG n 4++(ZS ll.length).map (iJ ll)) (n+o)=iJ ll o:=by
  unfold at0;rw[Zv,Zy (!5),List.length_replicate,Nat.add_sub_cancel_left,Zk,Yk ho];rfl
 rw[ha];unfold aT;apply Yt;intro i;rw[List.getElem?_set];by_cases h1:n+o=i
 ·subst h1;rw[Yb rfl,Yb (!41),Zy (!5),List.length_replicate,Nat.add_sub_cancel_left,Zk,Yk ho];unfold gP iJ;simp
  lia
 ·rw[Ya h1];by_cases h2:i<n
  ·rw[Zx (by simpa using h2),Zx (by simpa using h2)]
  ·rw[Zy (!41),Zy (!41),List.length_replicate,Zk,Zk];by_cases h3:i-n<ll.length
   ·rw[Yk h3];unfold gP iJ;rw[Option.map_some,Option.map_some,Ya (by lia)]
   ·rw[Zr (!41)];rfl
def GG:Sp:=λvs H Q _=>∃(wa p wA bA sA:Addr) (n o:Nat) (ts:MM.aP) (os:MM.aN) (ws:List Int) (bs ss:List (!18)),vs=[.ref wa,vn o,.ref p]/\dB H wa n ts os/\MM.Good ts os/\ts.length<=40/\n<=40/\o<(!19).length/\jM H p wA bA sA ws bs ss/\ws.length=ts.length/\bs.length=ts.length/\ss.length=2*ts.length /\
 ∀(r na wl:Addr) (nm:List Nat) (H':Hp),aK H H'->dZ ts os nm->iM H' r na wl (aT n (!19) o) (aY n ts nm ws bs ss)->Q (.ref r) H'
theorem EH(T:Txt K mg t):Ok P w base T 84 4 GG:=by
 left
 obtain⟨wa,p,wA,bA,sA,n,o,ts,os,ws,bs,ss,rfl,hWeb,g,h40,hn40,ho,hW,hwl',hbl,hsl,q⟩:=h;have hu:=Xq (Nat.add_le_add_left (by decide:1<=64) _) hr.units;have hLN:(!19).length<=2*ts.length:=by
  have:=MM.sN g.maps _ (ZS (!2)) (ZC _) (λz hz=>Zs.mp hz);rw[Yj]at this;sleep 19
 obtain⟨nm,num⟩:=PR g;refine(xWP _ (by exists dD ?_ ?_,0,3,4,5,6,lL,4,5,7,nC,cV rfl (T.z 3) ?_,6,8,9,bE ?_,9,10,qE hu (pv 7) (pv 10) ?_ rfl,aX,3,8,11,sE,(fI ["_law_place_here"] [none]),3,0,(fI ["_law_land"] [none]),bE ?_,6,0,0,dD ?_ ?_,aJ,11,aX,3,1,eI ?_ ?_ set_list,11,aX,3,1,12,4,10,13,aJ,aI,2,10,14,aJ,13,a8 iB rfl (T.z 4) boot_int ?_,jX,13,15,aJ,13,a8 iB rfl (T.z 4) boot_int ?_,jX,13,12,lK,4,dI,10,jV hu (pv 7) (pv 10) (λ_ _=>rfl),14,15,4,10,12,jV hu (pv 7) (pv 10) (λ_ _=>rfl),jV hu (pv 7) ?_ (λ_ _=>rfl),dI,10,aJ,aI,2,bS,10,aJ,aI,2,bS,10,11,12) ?_);sleep 17;refine(aM _ (SqT.of hw) rfl ?_);refine(bG tA oA ts os rfl hts hos g (by lia) (λr rr H1 g1 nos=>?_));intro d hd;have g1d:=aC hd (.dK []);refine(aM r rfl ⟨_,SqL.of (g1d _ _ nos.at_)⟩ (dJ (xs:=rr.map V.ref)
  (λi σ H'=>aK H1 H'/\(∃kvs,H' d=some (.dK kvs)/\kvs.length<=100*i/\∀(k:Nat) l x,k<i->(!19)[k]?=some l->x∈l->fA kvs (Sum.inl ((x:Nat):Int))=some (.int ((n:Int)+(k:Int)))) /\
   ∃o8 o9 o10:Option V,σ=[some (.ref wa),some (vn o),some (.ref p),some (vn n),some (.ref tA),some (.ref oA),some (.ref r),some (.ref d),o8,o9,o10,none,none,none,none,none])
  (xPP g1d (aM ([]) aB (ZC _) (λk l x hk=>Yg hk (by lia))) (i6 _ _ _ rfl)) (λi σ H' _ h=>SqL.of (h.1 _ _ nos.at_)) ?_ ?_))
 ·rintro i x σ H2 Tp hx ⟨g2,⟨kvs,ed,hkl,hkv⟩,o8,o9,o10,rfl⟩ hTp;obtain⟨y,hy,rfl⟩:=gR hx;have hil:i<(!19).length:=by rw[<-nos.len];exact(Zj.mp hy).1
  have hli:=Zz hil;obtain⟨y',hy',ey⟩:=nos.row i _ hli;rw[hy]at hy';cases hy';generalize (!19)[i]=l at hli ey;have hll:=DE g hli;have g3:=aC hTp (.tup [vn i,.ref y]);have g23:=g2.trans g3;refine(!31);refine⟨⟨_,SqL.of (g23 _ _ ey)⟩,eY (xs:=vns l)
   (λj σ H'=>aK H1 H'/\(∃kvs,H' d=some (.dK kvs)/\kvs.length<=100*i+j/\(∀(k:Nat) l x,k<i->(!19)[k]?=some l->x∈l->fA kvs (Sum.inl ((x:Nat):Int))=some (.int ((n:Int)+(k:Int))))/\∀x∈l.take j,fA kvs (Sum.inl ((x:Nat):Int))=some (.int ((n:Int)+(i:Int)))) /\
    ∃o10:Option V,σ=[some (.ref wa),some (vn o),some (.ref p),some (vn n),some (.ref tA),some (.ref oA),some (.ref r),some (.ref d),some (vn i),some (.ref y),o10,none,none,none,none,none])
   (xPP g23 (cC kvs (g3 _ _ ed) (by lia) hkv (λx hx=>by simp at hx)) ⟨ _,rfl⟩) (λj σ H' _ h=>SqL.of (h.1 _ _ ey)) ?_ ?_⟩
  ·rintro j x σ H3 hx ⟨g4,⟨kvs,ed,hkl,hkv,hkt⟩,o10,rfl⟩;obtain⟨hj,rfl⟩:=zN hx;have hmem:l.getD j 0∈l:=by simp[List.getD,hj]
   refine(xWP _ (BJ.k (k:=Sum.inl ((l.getD j 0:Nat):Int)) ed (Xq hkl (Xz (by lia:100*i+j<10000) (!1)))) ?_);refine(xPP (λb o' h=>by rw[aH (aE h hd)];exact g4 _ _ h) (cC _ aB (YQ (GZ _ _ _) (by lia)) (λk l' x' hk hl' hx'=>?_) (λx' hx'=>?_)) ⟨ _,rfl⟩)
   ·rw[rH,Ya]
    ·exact hkv k l' x' hk hl' hx'
    ·intro z;have e:x'=l.getD j 0:=by have:=Sum.inl.inj z;lia
     rw[e]at hx';have:=NA g hl' hx' hli hmem
     lia
   ·rw[rH];by_cases e:x'=l.getD j 0
    ·rw[Yb (by rw[e])]
    ·rw[Ya (λz=>e (by have:=Sum.inl.inj z;lia))];rw[List.take_succ,Zz hj]at hx';rcases Zf.mp hx' with h | h
     ·exact hkt x' h
     ·exfalso;apply e;simp at h;simp[List.getD,hj,h]
  ·rintro σ H3 ⟨g4,⟨kvs,ed,hkl,hkv,hkt⟩,o10,rfl⟩;rw[Zq]at hkl hkt;rw[Yv]at hkt;refine(xPP g4 (aM kvs ed (by lia) (λk l' x' hk hl' hx'=>?_)) (i6 _ _ _ rfl));by_cases e:k=i
   ·subst e;rw[hli]at hl';cases hl';exact hkt x' hx'
   ·exact hkv k l' x' (by lia) hl' hx'
 rintro σ H2 ⟨g2,⟨kvs,ed,hkl,hkv⟩,o8,o9,o10,rfl⟩;rw[Zq,nos.len]at hkv;have hby:∀x,x<2*ts.length->fA kvs (Sum.inl ((x:Nat):Int))=some (.int ((n:Int)+((nm.getD x 0:Nat):Int))):=λx hx=>by
  obtain⟨k,l,h1,h2,_⟩:=MM.eU g.maps hx;rw[num.at_ k l x h1 h2];exact hkv k l x (Zj.mp h1).1 h1 h2
 have g02:=g1.trans g2;refine(cC _ rfl (by lia) (by lia) (λD1 hD1=>?_));refine bJ ((n:Int)).toNat (λ_=>.int 4) hD1 (by lia) (λi H' hi _=>hi) (λH' _=>ZC _) ?_ ?_
 ·rintro i H' x H'' k hi g' ⟨rfl,rfl⟩ hk;exact(!33)
 intro H3 g3 eD1;rw[show(ZS ((n:Int)).toNat).map (λ_=>V.int 4)=(ZG n (4:Int)).map V.int by
  have:((n:Int)).toNat=n:=by lia
  rw[this];apply Yt;intro i;by_cases h:i<n
  ·simp[h]
  ·simp[h]]at eD1
 have g13:=g2.trans g3;refine⟨⟨_,SqL.of (g13 _ _ nos.at_)⟩,λD2 hD2=>?_⟩;have lrr:∀{i:Nat},i<(!19).length->∃y,(rr.map V.ref)[i]?=some (.ref y)/\H1 y=some (.lst (vns ((!19).getD i []))):=λ{i} hi=>by
  obtain⟨y,q1,q2⟩:=nos.row i _ (Zz hi);refine(xWP y (by rw[Zk,q1];rfl) ?_);simp only[List.getD,Zz hi,YR];exact q2
 refine bJ (!19).length (λk=>.int (iJ (!19) k)) hD2 (by lia) (λi H' hi g'=>by obtain⟨y,q1,_⟩:=lrr hi;exact(bM _ _ (SqL.of (g' _ _ (g13 _ _ nos.at_))) q1)) (λH' g'=>(xWP _ (SqL.of (g' _ _ (g13 _ _ nos.at_))) (by rw[Zq,nos.len];exact ZC _))) ?_ ?_
 ·rintro i H' x H'' k hi g' ⟨rfl,hx⟩ hk;obtain⟨y,q1,q2⟩:=lrr hi;have ex:=hx _ (SqL.of (g' _ _ (g13 _ _ nos.at_)));rw[q1]at ex;cases ex;refine(lD (!13) y _ rfl (.inl (SqL.of (g' _ _ (g13 _ _ q2)))) (!7) ?_);have:=hk _ (aK.refl H'');unfold iJ at this;rw[Zq];sleep 19
 intro H4 g4 eD2;rw[show(ZS (!19).length).map (λk=>V.int (iJ (!19) k))=((ZS (!19).length).map (iJ (!19))).map V.int by rw[Ym];rfl]at eD2;refine(aO _ _ (g4 _ _ eD1) eD2 (by simp;exact YQ (by lia:n+(!19).length<=200) (!1)) (λna hna=>?_));rw[<-Zt];have g5:=aC hna (.lst ((ZG n (4:Int)++(ZS (!19).length).map (iJ (!19))).map V.int));have e5:(upd H4 na (.lst ((ZG n (4:Int)++(ZS (!19).length).map (iJ (!19))).map V.int))) na=some (.lst ((ZG n (4:Int)++(ZS (!19).length).map (iJ (!19))).map V.int)):=aB;have hle:(ZG n (4:Int)++(ZS (!19).length).map (iJ (!19))).length=n+(!19).length:=by simp
 have eno:(n:Int)+(o:Int)=((n+o:Nat):Int):=(Int.natCast_add n o).symm;generalize hL0:ZG n (4:Int)++(ZS (!19).length).map (iJ (!19))=L0 at g5 e5 hle;have g25:=(g3.trans g4).trans g5;have hna2:H2 na=none:=(g3.trans g4).free hna;generalize upd H4 na (.lst (L0.map V.int))=H5 at g5 e5 g25;refine(aG _ _ (SqL.of e5) (aQ (j:=n+o) (by lia) eno) (aG _ (n+o) e5 (dE (!26) eno) ?_));have e6:(L0.map V.int).set (n+o) (V.int (at0 L0 (n+o)-8))=(aT n (!19) o).map V.int:=by
  rw[<-IF n (!19) o ho,hL0,ZH]
 rw[e6];have g6:aK H2 (upd H5 na (.lst ((aT n (!19) o).map V.int))):=λb o' h=>by rw[aH (aE h hna2)];exact g25 _ _ h
 have e7:(upd H5 na (.lst ((aT n (!19) o).map V.int))) na=some (.lst ((aT n (!19) o).map V.int)):=aB;generalize upd H5 na (.lst ((aT n (!19) o).map V.int))=H6 at g6 e7;refine⟨!23,λwl hwl=>?_⟩;have g7:=aC hwl (!49);have g06:=g02.trans g6;have ed6:=g6 _ _ ed;have htl:∀{H':Hp},aK H H'->∃tr:List V,H' tA=some (.lst tr)/\tr.length=ts.length:=λgg=>by
  obtain⟨tr,q1,q2,_⟩:=hts;exact(xWP _ (gg _ _ q1) (by rw[Zq];exact q2))
 obtain⟨tr7,t1,t2⟩:=htl (g06.trans g7);have fin1:∀{i:Nat}{H':Hp}{rs:List Addr}(lo hi:Int),lo=(ov ss i).getD 1->hi=(ov ss i).getD 4->H' wl=some (.lst (rs.map V.ref))->rs.length=((ZS i).map (cL n ts nm ss)).length->(∀(j:Nat) w,((ZS i).map (cL n ts nm ss))[j]?=some w->∃r,rs[j]?=some r/\H' r=some (.tup (wv w)))->aK H6 H'->∀(pp:Addr),H' pp=none ->
   e9 (upd (upd H' pp (!8)) wl (.lst (rs.map V.ref++[.ref pp]))) wl ((ZS (i+1)).map (cL n ts nm ss)) /\
   aK H6 (upd (upd H' pp (!8)) wl (.lst (rs.map V.ref++[.ref pp]))):=by
  intro i H' rs lo hi hlo hhi e1 e2 e3 g8 pp hpp;have g9:=aC hpp (!8);refine⟨?_,λb o h=>by rw[aH (aE h hwl)];exact g9 _ _ (g8 _ _ h)⟩;rw[iE];refine lE (g9 _ _ e1) e2 (λj w hj=>by obtain⟨r',q1,q2⟩:=e3 j w hj;exact(xWP r' q1 (g9 _ _ q2))) ?_;rw[aB];unfold wv cL;rw[<-hlo,<-hhi];simp only[vo,vn,Int.natCast_add]
 refine(qR tA _ rfl (.inl (SqL.of t1)) (!7) _ rfl (by lia) (by lia) (cK (lo:=0) (n:=(2*((tr7.length:Nat):Int)).toNat)
  (λi σ H'=>e9 H' wl ((ZS i).map (cL n ts nm ss))/\aK H6 H'/\∃o10 o13 o14 o15:Option V,σ=[some (.ref wa),some (vn o),some (.ref p),some (vn n),some (.ref tA),some (.ref oA),some (.ref r),some (.ref d),o8,o9,o10,some (.ref na),some (.ref wl),o13,o14,o15])
  (xPP (aM ([]) aB rfl (λi w h=>by simp at h)) g7 (iO _ _ _ _ rfl)) ?_ ?_))
 ·rintro i σ H7 hi ⟨⟨rs,e1,e2,e3⟩,g8,o10,o13,o14,o15,rfl⟩;have hi':i<2*ts.length:=by lia
  have ho':MM.oth i<2*ts.length:=MM.aZ hi';show cS 10 (V.int (0+(i:Int))) _ _ _;rw[Int.zero_add];have g08:=g06.trans g8;have hW8:=hW.mono g08;have hget:∀{H':Hp},aK H7 H'->i9 H' d (V.int ((i:Nat):Int)) (some (.int ((n:Int)+((nm.getD i 0:Nat):Int)))):=λgg=>by
   have:=i9.k (k:=Sum.inl ((i:Nat):Int)) (gg _ _ (g8 _ _ ed6));rw[hby i hi']at this;sleep 19
  have hlen:(rs.map V.ref).length<ZW:=by rw[Zq,e2];simp;exact Xz hi' (YQ (by lia:2*ts.length<=80) (!1))
  rcases ho:ov ss i with _ | c
  ·have eC:atI (vos ss) ((i:Nat):Int)=some .non:=by rw[pA (j:=i) (by lia) rfl,ho];rfl
   have ez:∀v:Int,atI [V.non,V.int v] (if decide (V.non=V.non)=true then 1 else 0)=some (.int v):=λv=>by rw[Yb (!5)];rfl
   refine(aG _ _ (SqT.of hW8.tp) rfl (aG _ _ (SqL.of hW8.s) eC ?_));refine⟨!9,λlp hlp=>⟨rfl,.inr (iQ _ rfl _ _ (SqL.of aB) (ez 1) ?_)⟩⟩;have x1:=aC hlp (.lst [V.non,V.int 1]);refine⟨!9,λlq hlq=>⟨rfl,.inr (iQ _ rfl _ _ (SqL.of aB) (ez 4) ?_)⟩⟩;have x2:=x1.trans (aC hlq (.lst [V.non,V.int 4]));generalize upd (upd H7 lp (.lst [V.non,V.int 1])) lq (.lst [V.non,V.int 4])=H8 at x2;refine(qZ (.inl ⟨rfl,_,SqL.of (x2 _ _ e1)⟩) i rfl tA ts (MM.oth i) rfl ((g08.trans x2).ts hts) ho' (aM _ (hget x2) (by show 5<=ZW;decide) (λpp hpp=>?_)));obtain⟨f1,f2⟩:=fin1 1 4 (by rw[ho];rfl) (by rw[ho];rfl) (x2 _ _ e1) e2 (λj w hj=>by obtain⟨r',q1,q2⟩:=e3 j w hj;exact(xWP r' q1 (x2 _ _ q2))) (g8.trans x2) pp hpp;exact(gO _ (aC hpp _ _ _ (x2 _ _ e1)) hlen f1 f2 (iO _ _ _ _ rfl))
  ·have eC:atI (vos ss) ((i:Nat):Int)=some (.int c):=by rw[pA (j:=i) (by lia) rfl,ho];rfl
   have ez:∀v:Int,atI [V.int c,V.int v] (if decide (V.int c=V.non)=true then 1 else 0)=some (.int c):=λv=>by rw[Ya (!5)];rfl
   refine(aG _ _ (SqT.of hW8.tp) rfl (aG _ _ (SqL.of hW8.s) eC ?_));refine⟨!9,λlp hlp=>⟨rfl,.inr (iQ _ rfl _ _ (SqL.of aB) (ez 1) ?_)⟩⟩;have x1:=aC hlp (.lst [V.int c,V.int 1]);refine⟨!9,λlq hlq=>⟨rfl,.inr (iQ _ rfl _ _ (SqL.of aB) (ez 4) ?_)⟩⟩;have x2:=x1.trans (aC hlq (.lst [V.int c,V.int 4]));generalize upd (upd H7 lp (.lst [V.int c,V.int 1])) lq (.lst [V.int c,V.int 4])=H8 at x2;refine(qZ (.inl ⟨rfl,_,SqL.of (x2 _ _ e1)⟩) i rfl tA ts (MM.oth i) rfl ((g08.trans x2).ts hts) ho' (aM _ (hget x2) (by show 5<=ZW;decide) (λpp hpp=>?_)));obtain⟨f1,f2⟩:=fin1 c c (by rw[ho];rfl) (by rw[ho];rfl) (x2 _ _ e1) e2 (λj w hj=>by obtain⟨r',q1,q2⟩:=e3 j w hj;exact(xWP r' q1 (x2 _ _ q2))) (g8.trans x2) pp hpp;exact(gO _ (aC hpp _ _ _ (x2 _ _ e1)) hlen f1 f2 (iO _ _ _ _ rfl))
 rintro σ H7 ⟨hws,g8,o10,o13,o14,o15,rfl⟩;rw[show(2*((tr7.length:Nat):Int)).toNat=2*ts.length by lia]at hws;obtain⟨tr8,t3,t4⟩:=htl (g06.trans g8);refine(qR tA _ rfl (.inl (SqL.of t3)) (!7) _ rfl (by lia) (by lia) (cK (lo:=0) (n:=(2*((tr8.length:Nat):Int)).toNat)
  (λi σ H'=>e9 H' wl ((ZS (!2)).map (cL n ts nm ss)++(ZS i).map (jJ n nm ws bs))/\aK H6 H'/\∃o10:Option V,σ=[some (.ref wa),some (vn o),some (.ref p),some (vn n),some (.ref tA),some (.ref oA),some (.ref r),some (.ref d),o8,o9,o10,some (.ref na),some (.ref wl),o13,o14,o15])
  (xPP (by rw[List.range_zero,List.map_nil,List.append_nil];exact hws) g8 ⟨ _,rfl⟩) ?_ ?_))
 ·rintro i σ H8 hi ⟨⟨rs,e1,e2,e3⟩,g9,o10,rfl⟩;have hi':i<2*ts.length:=by lia
  have ho':MM.oth i<2*ts.length:=MM.aZ hi';show cS 10 (V.int (0+(i:Int))) _ _ _;rw[Int.zero_add];have hW8:=hW.mono (g06.trans g9);have hg1:i9 H8 d (V.int ((i:Nat):Int)) (some (.int ((n:Int)+((nm.getD i 0:Nat):Int)))):=by
   have:=i9.k (k:=Sum.inl ((i:Nat):Int)) (g9 _ _ ed6);rw[hby i hi']at this;sleep 19
  have hg2:i9 H8 d (V.int ((MM.oth i:Nat):Int)) (some (.int ((n:Int)+((nm.getD (MM.oth i) 0:Nat):Int)))):=by
   have:=i9.k (k:=Sum.inl ((MM.oth i:Nat):Int)) (g9 _ _ ed6);rw[hby _ ho']at this;sleep 19
  have ei2:((i:Nat):Int) / 2=((i / 2:Nat):Int):=by lia
  refine(FE (.inl ⟨rfl,_,SqL.of e1⟩) _ hg1 i rfl _ hg2 (aO _ _ (SqT.of hW8.tp) rfl ⟨by decide,by decide⟩ (bP _ _ (SqL.of hW8.b) (pA (j:=i / 2) (by lia) ei2) _ _ (SqT.of hW8.tp) rfl ⟨by decide,by decide⟩ (aO _ _ (SqL.of hW8.w) (aQ (j:=i / 2) (by lia) ei2) (by show 5<=ZW;decide) (λpp hpp=>?_)))));have g10:=aC hpp (.tup [.int ((n:Int)+((nm.getD i 0:Nat):Int)),.int ((n:Int)+((nm.getD (MM.oth i) 0:Nat):Int)),.int 0,vo (ov bs (i / 2)),.int (at0 ws (i / 2))]);refine(gO _ (g10 _ _ e1) (by rw[Zq,e2];simp;exact Xz (by lia:2*ts.length+i<200) (!1)) ?_ (λb o h=>by rw[aH (aE h hwl)];exact g10 _ _ (g9 _ _ h)) ⟨ _,rfl⟩);rw[iE,<-Yn];refine lE (g10 _ _ e1) e2 (λj w hj=>by obtain⟨r',q1,q2⟩:=e3 j w hj;exact(xWP r' q1 (g10 _ _ q2))) ?_;rw[aB];unfold wv jJ;simp only[vn,Int.natCast_add]
 rintro σ H8 ⟨hws2,g9,o10,rfl⟩;rw[show(2*((tr8.length:Nat):Int)).toNat=2*ts.length by lia]at hws2;refine⟨!9,λrr' hrr=>?_⟩;have g10:=aC hrr (.tup [.ref na,.ref wl]);exact q rr' na wl nm _ ((g06.trans g9).trans g10) num ⟨aB,g10 _ _ (g9 _ _ e7),e9.mono hws2 g10⟩
end K27
namespace L2
open PySem PyProof.Rows
structure L3(H0 H:Hp)(p1 p2 p3:Addr)(X Y Z:List V):Prop where
 g:aK H0 H
 a:H p1=some (.lst X)
 b:H p2=some (.lst Y)
 c:H p3=some (.lst Z)
 na:H0 p1=none
 nb:H0 p2=none
 nc:H0 p3=none
 ab:p1≠p2
 ac:p1≠p3
 bc:p2≠p3
section
variable{H0 H:Hp}{a b c:Addr}{X Y Z:List V}
theorem L3.new(h:L3 H0 H a b c X Y Z){p:Addr}(hp:H p=none)(o:HO):L3 H0 (upd H p o) a b c X Y Z :=
 have g:=aC hp o
 ⟨h.g.trans g,g _ _ h.a,g _ _ h.b,g _ _ h.c,h.na,h.nb,h.nc,h.ab,h.ac,h.bc⟩
theorem L3.setA(h:L3 H0 H a b c X Y Z)(X':List V):L3 H0 (upd H a (.lst X')) a b c X' Y Z :=
 ⟨λd o q=>by rw[aH (aE q h.na)];exact h.g _ _ q,aB,by rw[aH h.ab.symm];exact h.b,by rw[aH h.ac.symm];exact h.c,h.na,h.nb,h.nc,h.ab,h.ac,h.bc⟩
theorem L3.setB(h:L3 H0 H a b c X Y Z)(X':List V):L3 H0 (upd H b (.lst X')) a b c X X' Z :=
 ⟨λd o q=>by rw[aH (aE q h.nb)];exact h.g _ _ q,by rw[aH h.ab];exact h.a,aB,by rw[aH h.bc.symm];exact h.c,h.na,h.nb,h.nc,h.ab,h.ac,h.bc⟩
theorem L3.setC(h:L3 H0 H a b c X Y Z)(X':List V):L3 H0 (upd H c (.lst X')) a b c X Y X' :=
 ⟨λd o q=>by rw[aH (aE q h.nc)];exact h.g _ _ q,by rw[aH h.ac];exact h.a,by rw[aH h.bc];exact h.b,aB,h.na,h.nb,h.nc,h.ab,h.ac,h.bc⟩
end
end L2
namespace K27
open PySem L2 PyProof.Rows
theorem RH(m:Int):∃z:Int,atI [V.int 1,V.int 1,V.int (m / 4%4),V.int (m / 4%1001)] (m%4)=some (.int z)/\0<=z/\z<=1000:=by
 have h:m%4=0\/m%4=1\/m%4=2\/m%4=3:=by lia
 rcases h with h | h | h | h<;>rw[h]
 ·exact(aM _ rfl (by lia) (by lia))
 ·exact(aM _ rfl (by lia) (by lia))
 ·exact(aM _ rfl (by lia) (by lia))
 ·exact(aM _ rfl (by lia) (by lia))
theorem RI(m b x y:Int)(hb:b=0\/b=1)(hx:0<=x/\x<=1000)(hy:0<=y/\y<=1000):∃o:Option Int,atI [V.non,V.non,V.int x,V.int y] (m / 16%4*b)=some (vo o)/\(∀z,o=some z->0<=z/\z<=1000)/\(b=0->o=none):=by
 rcases hb with rfl | rfl
 ·rw[Int.mul_zero];exact(aM none rfl (λz h=>(by cases h)) (λ_=>rfl))
 ·rw[Int.mul_one];have h:m / 16%4=0\/m / 16%4=1\/m / 16%4=2\/m / 16%4=3:=by lia
  rcases h with h | h | h | h<;>rw[h]
  ·exact(aM none rfl (λz h=>(by cases h)) (λ_=>rfl))
  ·exact(aM none rfl (λz h=>(by cases h)) (λ_=>rfl))
  ·exact(aM (some x) rfl (λz h=>(by cases h;exact hx)) (λh=>(by cases h)))
  ·exact(aM (some y) rfl (λz h=>(by cases h;exact hy)) (λh=>(by cases h)))
def F0:Sp:=λvs H Q _=>∃(ta:Addr) (xs:List V) (c b:Int),vs=[.ref ta,.int c,.int b]/\SqL H ta xs/\xs.length<=100/\(b=0\/b=1) /\
 ∀(p wa ba sa:Addr) (ws:List Int) (bs ss:List (!18)) (H':Hp),L3 H H' wa ba sa (ws.map V.int) (vos bs) (vos ss)->H' p=some (.tup [.ref wa,.ref ba,.ref sa])->H p=none ->
  ws.length=xs.length->bs.length=xs.length->ss.length=2*xs.length->pS ws bs ss->(b=0->(∀x∈bs,x=none)/\∀x∈ss,x=none)->Q (.ref p) H'
theorem AI(T:Txt K mg t)(G_l_mix:Ok P w base T 67 1 NH)(G_l_digit:Ok P w base T 68 1 B5) :
  Ok P w base T 81 2 (F0):=by
 left
 obtain⟨ta,xs,c,b,rfl,hS,hn,hb,q⟩:=h;refine(xWP _ (by exists 3,4,5,0,6,7,cX G_l_mix hr (T.f 67) bR ?_,1,6,3,aJ,bS,7,bS,7,7,4,aJ,bS,7,bS,7,bS,7,2,8,5,dF,2,dF,cX G_l_digit hr (T.f 68) bR ?_,bS,7,8,dD ?_ ?_,aX,cX G_l_digit hr (T.f 68) bR ?_,bS,7,8,eI ?_ ?_ set_list,5,aX,6,8,3,4,5) ?_);refine⟨!23,λwa hwa=>?_⟩;have g1:=aC hwa (!49);refine⟨!23,λba hba=>?_⟩;have g2:=g1.trans (aC hba (!49));refine⟨!23,λsa hsa=>?_⟩;have g3:=g2.trans (aC hsa (!49));have nwb:wa≠ba:=aE aB hba;have nws:wa≠sa:=aE (by rw[aH nwb];exact aB) hsa;have nbs:ba≠sa:=aE aB hsa;have l0:L3 H (upd (upd (upd H wa (!49)) ba (!49)) sa (!49)) wa ba sa [] [] [] :=
  ⟨g3,by rw[aH nws,aH nwb];exact aB,by rw[aH nbs];exact aB,aB,hwa,g1.free hba,g2.free hsa,nwb,nws,nbs⟩
 refine(jB ta _ rfl (.inl (g3.seq hS)) _ rfl (by lia) (by lia) (cK (lo:=0) (n:=((xs.length:Nat):Int).toNat)
  (λi σ H'=>∃(ws:List Int) (bs ss:List (!18)),L3 H H' wa ba sa (ws.map V.int) (vos bs) (vos ss)/\ws.length=i/\bs.length=i/\ss.length=2*i/\pS ws bs ss/\(b=0->(∀x∈bs,x=none)/\∀x∈ss,x=none) /\
   ∃o6 o7 o8:Option V,σ=[some (.ref ta),some (.int c),some (.int b),some (.ref wa),some (.ref ba),some (.ref sa),o6,o7,o8])
  (fG ([]) ([]) ([]) l0 rfl rfl rfl ⟨λx hx=>by simp at hx,λx hx=>by simp at hx,λx hx=>by simp at hx⟩ (λ_=>⟨λx hx=>(by simp at hx),λx hx=>(by simp at hx)⟩) (i6 none none none rfl)) ?_ ?_))
 ·rintro i σ H1 hi ⟨ws,bs,ss,l1,hw,hbl,hsl,hwb,hfr,o6,o7,o8,rfl⟩;have hi':i<100:=by lia
  refine(aO _ _ rfl (by lia) (by lia) (λm hm hm'=>?_));obtain⟨z,hz,hz0,hz1⟩:=RH m;obtain⟨o,ho,hob,ho0⟩:=RI m b (m / 64%3) (m / 64%41) hb (by lia) (by lia);refine(eJ (.inl ⟨rfl,_,SqL.of l1.a⟩) ⟨by decide,by decide⟩ (by show(0:Int)<4;decide) ⟨by decide,by decide⟩ (by show(0:Int)<1001;decide) (by show 4<=ZW;decide) (λp hp=>?_));have l2:=l1.new hp (.lst [V.int 1,V.int 1,V.int (m / 4%4),V.int (m / 4%1001)]);refine(DK (by show(0:Int)<4;decide) _ _ (SqL.of aB) hz _ l2.a (by rw[Zq,hw];exact Nat.lt_trans hi' (!1)) ?_);have l3:=l2.setA (ws.map V.int++[.int z]);refine(eJ (.inl ⟨rfl,_,SqL.of l3.b⟩) ⟨by decide,by decide⟩ (by show(0:Int)<3;decide) ⟨by decide,by decide⟩ (by show(0:Int)<41;decide) (by show 4<=ZW;decide) (λp2 hp2=>?_));have l4:=l3.new hp2 (.lst [V.non,V.non,V.int (m / 64%3),V.int (m / 64%41)]);refine(zK ⟨by decide,by decide⟩ (by show(0:Int)<4;decide) (.inr (by rcases hb with rfl | rfl<;>decide)) _ _ (SqL.of aB) ho _ l4.b ⟨ by rw[Zq,hbl];exact Nat.lt_trans hi' (!1),?_⟩);have l5:=l4.setB (vos bs++[vo o]);refine(cC 2 rfl (by lia) (by lia) (cK (lo:=0) (n:=((2:Int)).toNat)
   (λj σ H'=>∃(ss:List (!18)) (o8:Option V),L3 H H' wa ba sa (ws.map V.int++[.int z]) (vos bs++[vo o]) (vos ss)/\ss.length=2*i+j/\(∀x,some x∈ss->1<=x/\x<=4)/\(b=0->∀x∈ss,x=none) /\
    σ=[some (.ref ta),some (.int c),some (.int b),some (.ref wa),some (.ref ba),some (.ref sa),some (.int (0+(i:Nat))),some (.int m),o8])
   (bO ss _ l5 (by lia) hwb.s (λz=>(hfr z).2) rfl) ?_ ?_))
  ·rintro j σ H2 hj ⟨ss,o8,l6,hsl,hsb,hs0,rfl⟩;have hj':j<2:=by lia
   refine(j9 (.inl ⟨rfl,_,SqL.of l6.c⟩) _ l6.c (by rw[Zq,hsl];exact Xz (by lia:2*i+j<1000) (!1)) ?_);have l7:=l6.setC (vos ss++[V.non]);have es:vos ss++[V.non]=vos (ss++[none]):=BO ss none;have hsn:∀x,some x∈ss++[none]->1<=x/\x<=4:=λx hx=>(Zf.mp hx).elim (hsb x) λz=>by simp at z
   have hsz:b=0->∀x∈ss++[none],x=none:=λz x hx=>(Zf.mp hx).elim (hs0 z x) λy=>by simpa using y
   refine(i2 (λhb1=>?_) (λhb1=>iF ?_))
   ·refine(qX ⟨by decide,by decide⟩ _ _ _ rfl (!1) (!1) (by lia) (by lia) (λd hd0 hd1=>(i2 (λ_=>?_) (λ_=>?_))))
    ·refine(qX ⟨by decide,by decide⟩ _ _ _ rfl (!1) (!1) (by lia) (by lia) (λe he0 he1=>?_));refine⟨(by show(0:Int)<4;decide),?_⟩;refine(eQ (!7) _ (2*i+j) l7.c (dE (by rw[Zm,Zq,hsl];simp) (by push_cast;lia)) ?_);refine(bO ((ss++[none]).set (2*i+j) (some (1+e%4))) _ ?_ ?_ (λx hx=>?_) (λz=>by have:=V.int.inj (Yf hb1);lia) rfl)
     ·rw[<-KG,<-es];exact l7.setC _
     ·rw[ZR,Zm,hsl];rfl
     ·rcases List.mem_or_eq_of_mem_set hx with hx | hx
      ·exact hsn x hx
      ·cases hx;lia
    ·exact(bO (ss++[none]) _ (by rw[<-es];exact l7) (by rw[Zm,hsl];rfl) hsn hsz rfl)
   ·exact(bO (ss++[none]) _ (by rw[<-es];exact l7) (by rw[Zm,hsl];rfl) hsn hsz rfl)
  ·rintro σ H2 ⟨ss,o8,l6,hsl,hsb,hs0,rfl⟩;refine(fG (ws++[z]) (bs++[o]) ss ?_ ?_ ?_ ?_ ?_ (λz=>⟨λx hx=>(Zf.mp hx).elim ((hfr z).1 x) λy=>(Zb.mp y).trans (ho0 z),hs0 z⟩) (i6 _ _ _ rfl))
   ·rw[Zt,<-BO];exact l6
   ·rw[Zm,hw];rfl
   ·rw[Zm,hbl];rfl
   ·have:(2:Int).toNat=2:=rfl
    lia
   ·refine⟨λx hx=>?_,λx hx=>?_,hsb⟩
    ·rcases Zf.mp hx with hx | hx
     ·exact hwb.w x hx
     ·simp at hx;subst hx;exact⟨hz0,hz1⟩
    ·rcases Zf.mp hx with hx | hx
     ·exact hwb.b x hx
     ·exact hob x (Zb.mp hx).symm
 ·rintro σ H1 ⟨ws,bs,ss,l1,hw,hbl,hsl,hwb,hfr,o6,o7,o8,rfl⟩;refine⟨(by show 3<=ZW;decide),λp hp=>?_⟩;have e:((xs.length:Nat):Int).toNat=xs.length:=by lia
  exact q p wa ba sa ws bs ss _ (l1.new hp _) aB (l1.g.free hp) (by lia) (by lia) (by lia) hwb hfr
def GH:Sp:=λvs H Q _=>∃(p wa ba sa p2 ca la:Addr) (n:Nat) (ws:List Int) (bs ss:List (!18)) (cs ls:List Int),vs=[.ref p,.ref p2]/\jM H p wa ba sa ws bs ss/\nS H p2 ca la cs ls/\Fit n ws bs ss cs ls /\
 ∀H',aK H H'->Q (.bl (j4 bs ss cs ls n)) H'
theorem EI(T:Txt K mg t):Ok P w base T 83 1 (GH):=by
 left
 sleep 8;have hn:=hF.n;have hc2:=hF.c;have hl2:=hF.l;have hb2:=hF.b;have hs2:=hF.s;refine(xWP _ (by exists cV rfl (T.z 3) ?_,aI,0,2,3,jW,3,aX,aJ,aI,1,2,aJ,aI,1,aX,2,3,(HJ hr.units),(fI ["_law_k","_law_corner","_law_shape"] [none,none,some 1]),cV rfl (T.z 3) ?_,aI,0,0,1,mI (u7 (rX (dQ jW (pv 1) AD (iI _)) (qC (dQ fX (pv 1) (iG aJ (iG aI (pv 2) b0 (λ_ _=>rfl)) (pv 0) (λ_ _=>rfl)) (iI _))))),0) ?_);refine(jC _ _ (SqT.of hW.tp) rfl ba rfl ⟨_,SqL.of hW.b⟩ (dJ (xs:=vos bs) (λi σ H'=>(∀k,k<i->ID bs ls k)/\aK H H'/\∃o2 o3:Option V,σ=[some (.ref p),some (.ref p2),o2,o3]) (xPP (λk h=>Yg h (by lia)) (aK.refl _) (xWW none none rfl))
  (λi σ H' _ h=>SqL.of (h.2.1 _ _ hW.b)) ?_ ?_))
 ·rintro i y σ H' Tp hy ⟨hk,g2,o2,o3,rfl⟩ hTp;obtain⟨hi2,rfl⟩:=zM hy;have g3:=g2.trans (aC hTp (.tup [vn i,vo (ov bs i)]));refine(!31);refine⟨rfl,?_⟩;rcases hb:ov bs i with _ | b
  ·rw[hb]at g3;refine(iFb (by rfl) (iF (xPP (λk h=>?_) g3 (!44))));by_cases e:k=i
   ·subst e;intro c hc;rw[hb]at hc;cases hc
   ·exact hk k (by lia)
  ·rw[hb]at g3;refine(iTb (by rfl) (aO _ _ (SqT.of (g3 _ _ hT.tp)) rfl (!7) (bP _ _ (SqL.of (g3 _ _ hT.l)) (aQ (j:=2*i) (by lia) (by push_cast;lia)) _ _ (SqT.of (g3 _ _ hT.tp)) rfl (!7) (aG _ _ (SqL.of (g3 _ _ hT.l)) (aQ (j:=2*i+1) (by lia) (by push_cast;lia)) (i2 (λc=>?_) (λc=>(xPP (λk h=>?_) g3 (!44))))))))
   ·have c':b<sum2 ls i:=Yf c;have:=q _ g3;rw[kS (λz=>by have:=z.1 i (by lia) b hb;lia)]at this;sleep 19
   ·by_cases e:k=i
    ·subst e;intro c' hc;rw[hb]at hc;cases hc;have:¬b<sum2 ls k:=λz=>c (Ye z)
     lia
    ·exact hk k (by lia)
 ·rintro σ H2 ⟨hk,g2,o2,o3,rfl⟩;rw[Zq]at hk;refine(jC _ _ (SqT.of (g2 _ _ hW.tp)) rfl sa rfl ⟨_,SqL.of (g2 _ _ hW.s)⟩ (λD hD=>?_));refine iW (2*n) (λi ys H'=>aK H2 H'/\H' D=some (.lst ys)/\ys.length<=i/\(∃ms:List Int,ys=ms.map V.int)/\(ys=[]->∀k,k<i->CK ss cs k)/\((∀k,k<i->CK ss cs k)->ys=[])) (cN (aC hD _) aB (ZC _) ⟨[],rfl⟩ (λ_ k h=>Yg h (by lia)) (λ_=>rfl)) ?_ ?_
  ·rintro i ys H' hi ⟨g3,eD,hyl,⟨ms,hms⟩,hk2,hk3⟩;have hSs:SqL H' sa (vos ss):=SqL.of (g3 _ _ (g2 _ _ hW.s));refine⟨(bM _ _ hSs (u5 (by lia))),?_⟩;rintro x H'' ⟨Tp,x',rfl,hTp,rfl,hx⟩;have ex:=hx _ hSs;rw[u5 (by lia)]at ex;cases ex;have g4:=g3.trans (aC hTp (.tup [vn i,vo (ov ss i)]));have eD':=(aC hTp (.tup [vn i,vo (ov ss i)])) _ _ eD;refine(!29);refine⟨rfl,?_⟩;rcases hb:ov ss i with _ | b
   ·rw[hb]at g4 eD';refine(iFb (by rfl) (iF (cN g4 eD' (by lia) ⟨ms,hms⟩ (λhy k h=>?_) (λh=>hk3 λk hk'=>h k (by lia)))));by_cases e:k=i
    ·subst e;intro c hc;rw[hb]at hc;cases hc
    ·exact hk2 hy k (by lia)
   ·rw[hb]at g4 eD';refine(iTb (by rfl) (aG _ _ (SqT.of (g4 _ _ (g2 _ _ hT.tp))) rfl (aG _ _ (SqL.of (g4 _ _ (g2 _ _ hT.c))) (aQ (j:=i) (by lia) rfl) (i2 (λc=>?_) (λc=>?_)))))
    ·have c':b≠at0 cs i:=by simpa[vo] using c
     refine(w8 eD' (Xq hyl (Xz hi (YQ (by lia:2*n<=200) (!1)))) ?_ aB (!41) ⟨ms++[(i:Int)],by rw[hms,Zt];rfl⟩ (λhy=>Yg hy (!5)) (λh=>Yg (h i (by lia) b hb).symm c'));exact λb o h=>by rw[aH (aE h hD)];exact g4 _ _ h
    ·have c':b=at0 cs i:=by simpa[vo] using c
     refine(cN g4 eD' (by lia) ⟨ms,hms⟩ (λhy k h=>?_) (λh=>hk3 λk hk'=>h k (by lia)));by_cases e:k=i
     ·subst e;intro c hc;rw[hb]at hc;cases hc;exact c'.symm
     ·exact hk2 hy k (by lia)
  ·rintro ys H3 ⟨g3,eD,hyl,⟨ms,hms⟩,hk2,hk3⟩;refine(xPP (xWP _ (SqL.of (g3 _ _ (g2 _ _ hW.s))) (!26)) (!23) (λe he=>?_));have g5:=aC he (!49);rw[hms]at eD;refine(bO _ _ (iY (g5 _ _ eD)) (iY (ns:=[]) aB) (shaped_ints _) (shaped_ints []) ?_);have:=q _ ((g2.trans g3).trans g5);cases ms with
   |nil =>
    rw[nI ⟨λk h=>hk k (by lia),hk2 (by rw[hms];rfl)⟩]at this;sleep 19
   |cons m ms =>
    rw[kS (λz=>by have:=hk3 z.2;rw[hms]at this;cases this)]at this;sleep 19
def KW:Sp:=λvs H Q _=>∃(p wa ba sa p2 ca la:Addr) (n:Nat) (ws:List Int) (bs ss:List (!18)) (cs ls:List Int),vs=[.ref p,.ref p2]/\jM H p wa ba sa ws bs ss/\nS H p2 ca la cs ls/\Fit n ws bs ss cs ls /\
 ∀H',aK H H'->Q (.int (costOf ws ls n)) H'
theorem HV(T:Txt K mg t):Ok P w base T 82 1 (KW):=by
 left
 sleep 8;have hn:=hF.n;have hl2:=hF.l;have hw:=hF.w;refine(xWP _ (by exists 2,aI,1,bC (fM rfl) rfl (T.z 12) boot_sum ?_,(fI ["_law_k","_law_weight","_law_lefts"] [none,none,some 2]),cV rfl (T.z 3) ?_,aI,0,0,1,1,aX,aJ,2,0,aJ,2,aX,0) ?_);refine(aG _ _ (SqT.of hT.tp) rfl ?_);refine(jC _ _ (SqT.of hW.tp) rfl wa rfl ⟨_,SqL.of hW.w⟩ (λD hD=>?_));have lw:∀{i:Nat},i<n->(ws.map V.int)[i]?=some (.int (at0 ws i)):=λhi=>bX (by lia);refine bJ n (λk=>.int (at0 ws k*sum2 ls k)) hD (by lia) (λi H' hi g2=>(bM _ _ (SqL.of (g2 _ _ hW.w)) (lw hi))) (λH' g2=>(xWP _ (SqL.of (g2 _ _ hW.w)) (!26))) ?_ ?_
 ·rintro i H' x H'' k hi g2 ⟨Tp,x',rfl,hTp,rfl,y1⟩ hk;have ex:=y1 _ (SqL.of (g2 _ _ hW.w));rw[lw hi]at ex;cases ex;have hb:=hF.wb _ (iZ (ls:=ws) (j:=i) (by lia));have g3:=g2.trans (aC hTp (.tup [vn i,.int (at0 ws i)]));refine(!29);refine(jQ (!7) _ _ (SqL.of (g3 _ _ hT.l)) (aQ (j:=2*i) (by lia) (by push_cast;lia)) (!7) _ _ (SqL.of (g3 _ _ hT.l)) ⟨ aQ (j:=2*i+1) (by lia) (by push_cast;lia),.inl ⟨by lia,by lia⟩,hk _ (aC hTp _)⟩)
 ·intro H' g2 e;rw[JP]at e;exact(aG D _ rfl (SqL.of e) (q _ g2))
end K27
namespace K27
open PySem L2 PyProof.Rows NM
def JJ(ps ns:List Int):List Int:=(ZS ns.length).map λk=>at0 ps k*at0 ns k
theorem JI(ps ns:List Int):(ZS ns.length).map (λk=>V.int (at0 ps k*at0 ns k))=(JJ ps ns).map V.int:=by unfold JJ;rw[Ym];rfl
theorem MW(ps ns:List Int):(ZS ns.length).map (λk=>V.int (at0 ns k*at0 ps k))=(JJ ps ns).map V.int:=by
 rw[<-JI];congr 1;funext k;rw[Int.mul_comm]
def B6(f:List Int->Way->Option Int):Sp:=λvs H Q _=>∃(p na wa pa:Addr) (ns:List Int) (ws:List Way) (ps:List Int),vs=[.ref p,.ref pa]/\iM H p na wa ns ws/\pN ns ws/\H pa=some (!12)/\ps.length=ns.length /\
 ∀H',aK H H'->Q (vo (bnd (f ps) ws (dot ps ns ns.length))) H'
theorem EJ(T:Txt K mg t):Ok P w base T 85 1 (B6 due):=by
 left
 obtain⟨p,na,wa,pa,ns,ws,ps,rfl,hN,hO,hp,hl,q⟩:=h;obtain⟨rs,e1,e2,e3⟩:=hN.w;refine(xWP _ (by exists 2,bC (fM rfl) rfl (T.z 12) boot_sum ?_,(fI ["_law_need","_law_price"] [none,none]),mH rfl (T.z 14) ?_,aI,0,1,0,1,0,1,bE ?_,aI,0,3,4,5,6,7,7,aX,7,aJ,1,3,aJ,1,4,7,2,aX,2,7,5,7,jX,6,7,2,aX,2,7,6,2) ?_);have hn2:=hO.n2;refine(eP _ _ (SqT.of hN.tp) rfl na pa _ _ rfl (xPP hN.n hp (λD hD=>?_)));have lp:∀{i:Nat},i<ns.length->(ps.map V.int)[i]?=some (.int (at0 ps i)):=λhi=>bX (by lia);have ln:∀{i:Nat},i<ns.length->(!39)[i]?=some (.int (at0 ns i)):=λhi=>bX (by lia);refine bJ ns.length (λk=>.int (at0 ns k*at0 ps k)) hD (by lia) (λi H' hi g2=>(gI _ _ _ _ (g2 _ _ hN.n) (g2 _ _ hp) (ln hi) (lp hi))) (λH' g2=>(aG _ _ (g2 _ _ hN.n) (g2 _ _ hp) (.inl (!26)))) ?_ ?_
 ·rintro i H' x H'' k hi g2 ⟨Tp,x',y',rfl,hTp,rfl,y1,y2⟩ hk;have ey:=y2 _ (g2 _ _ hp);rw[lp hi]at ey;cases ey;have ex:=y1 _ (g2 _ _ hN.n);rw[ln hi]at ex;cases ex;have hb:=hO.nb _ (iZ (ls:=ns) (j:=i) hi);refine(!29);exact⟨.inl ⟨by lia,by lia⟩,hk _ (aC hTp _)⟩
 intro H1 g1 eD;rw[MW]at eD;refine(aG D _ rfl (SqL.of eD) ?_);have ed:(JJ ps ns).sum=dot ps ns ns.length:=rfl;rw[ed];refine(aG _ _ (SqT.of (g1 _ _ hN.tp)) rfl ⟨ ⟨_,SqL.of (g1 _ _ e1)⟩,eY (xs:=rs.map V.ref)
  (λi σ H'=>H'=H1/\∃(tot:Int) (o3 o4 o5 o6 o7:Option V),bnd (due ps) ws (dot ps ns ns.length)=bnd (due ps) (ws.drop i) tot/\σ=[some (.ref p),some (.ref pa),some (.int tot),o3,o4,o5,o6,o7]) (oE rfl _ _ _ _ _ _ rfl rfl) (λi σ H' _ h=>by obtain⟨rfl,_⟩:=h;exact SqL.of (g1 _ _ e1)) ?_ ?_⟩)
 ·rintro i x σ H' hx ⟨rfl,tot,o3,o4,o5,o6,o7,hb,rfl⟩;obtain⟨r,hr1,rfl⟩:=gR hx;obtain⟨w,hw,er⟩:=rG e2 e3 hr1;have ok:=hO.w w (Zg hw);have ha:=ok.a;have hb':=ok.b;have hlo:=ok.lo;have hP:SqL H' pa (ps.map V.int):=SqL.of (g1 _ _ hp);refine(aM _ (SqT.of (g1 _ _ er)) rfl ?_);refine(aG _ (.int (at0 ps w.a)) hP (aQ (j:=w.a) (by lia) rfl) (aG _ (.int (at0 ps w.b)) hP (aQ (j:=w.b) (by lia) rfl) ?_));have er2:w.c-at0 ps w.a+at0 ps w.b=rt ps w:=rfl
  conv=>whnf
  dsimp only;rw[er2];have hd:due ps w=(if 0<rt ps w then some (rt ps w*w.lo) else if rt ps w<0 then (match w.hi with | some h=>some (rt ps w*h) | none=>none) else some 0):=rfl;generalize rt ps w=rr at hd;by_cases h1:0<rr
  ·rw[Yb h1]at hd;refine(iTb (Ye h1) ?_);refine⟨.inr ⟨by lia,by lia⟩,?_⟩;refine(iFb (Yc (by lia)) (iF ?_));exact(iFb (Yc (by lia)) (oE rfl _ _ _ _ _ _ (by rw[hb,kW hw hd]) rfl))
  ·rw[Ya h1]at hd;refine(iFb (Yc h1) ?_);by_cases h2:rr<0
   ·rw[Yb h2]at hd;refine(iTb (Ye h2) ?_);refine⟨rfl,?_⟩;rcases hh:w.hi with _ | h
    ·rw[hh]at hd;refine(iTb (by rfl) ?_);have:=q H' g1;rw[hb,yW hw hd]at this;sleep 19
    ·rw[hh]at hd;have hhi:=ok.hi h hh;refine(iFb (by rfl) ?_);refine(iTb (Ye h2) ?_);exact(zE (.inr ⟨by lia,by lia⟩) rfl _ _ _ _ _ _ (by rw[hb,kW hw hd]) rfl)
   ·rw[Ya h2]at hd;refine(iFb (Yc h2) (iF ?_));exact(iFb (Yc h2) (oE rfl _ _ _ _ _ _ (by rw[hb,kW hw hd,Int.add_zero]) rfl))
 ·rintro σ H' ⟨rfl,tot,o3,o4,o5,o6,o7,hb,rfl⟩;have:=q H' g1;rw[hb,Zq,e2,List.drop_length]at this;sleep 19
end K27
namespace L2
open PySem PyProof.Rows
theorem gH{l:List Int}{j k:Nat}{v:Int}(h:j<l.length):at0 (l.set j v) k=if k=j then v else at0 l k:=by
 unfold at0;by_cases e:k=j
 ·subst e;rw[Yb rfl,Zv,ZL h];rfl
 ·rw[Ya e,Zv,ZK (Yh e),<-Zv]
theorem K9(m:Nat)(c:Int):(ZS m).map (λ_=>V.int c)=(ZG m c).map V.int:=by
 apply Yt;intro i;by_cases h:i<m
 ·simp[h]
 ·simp[h]
theorem M6{m:Nat}{c:Int}{e:Nat}(h:e<m):at0 (ZG m c) e=c:=by unfold at0;simp[List.getD,h]
theorem lF{d:List Nat}{i:Nat}(h:i<d.length):(vns d)[i]?=some (vn (d.getD i 0)):=by
 rw[Zk,Zz h];simp[List.getD,h]
theorem getD_mem{d:List Nat}{i:Nat}(h:i<d.length):d.getD i 0∈d:=by simp[List.getD,h]
end L2
namespace K27
open PySem L2 PyProof.Rows
def NF:Sp:=λvs H Q _=>∃(da ca la:Addr) (d:List Nat) (cs ls:List Int),vs=[.ref da,.ref ca,.ref la]/\H da=some (.lst (vns d))/\H ca=some (!28)/\H la=some (!42)/\(∀x∈d,x<cs.length/\x<ls.length/\MM.oth x<ls.length)/\d.length<=1000/\∀H',aK H H'->Q (.int (MM.su d (MM.trm (at0 cs) (at0 ls)))) H'
theorem LY(T:Txt K mg t):Ok P w base T 78 2 NF:=by
 left
 obtain⟨da,ca,la,d,cs,ls,rfl,hd,hc,hl,hb,h1000,q⟩:=h;refine(xWP _ (by exists bC (fM rfl) rfl (T.z 12) boot_sum ?_,(fI ["_law_end","_law_lefts","_law_corners"] [none,some 2,some 1]),bE ?_,0,0,aX,aJ,2,0,aJ,1,0,aJ,1,dI,0) ?_);refine⟨⟨_,SqL.of hd⟩,λD hD=>?_⟩;refine bJ d.length (λi=>.int (MM.trm (at0 cs) (at0 ls) (d.getD i 0))) hD (by lia) (λi H' hi g'=>(bM _ _ (SqL.of (g' _ _ hd)) (lF hi))) (λH' g'=>(xWP _ (SqL.of (g' _ _ hd)) (!54))) ?_ ?_
 ·rintro i H' x H'' k hi g' ⟨rfl,hx⟩ hk;have ex:=hx _ (SqL.of (g' _ _ hd));rw[lF hi]at ex;cases ex;obtain⟨b1,b2,b3⟩:=hb _ (getD_mem hi);exact(eQ (!13) _ _ (SqL.of (g' _ _ hc)) (aQ b1 rfl) (aG _ _ (SqL.of (g' _ _ hl)) (aQ b2 rfl) (iQ (d.getD i 0) rfl _ _ (SqL.of (g' _ _ hl)) (aQ b3 rfl) (hk _ (aK.refl _)))))
 intro H2 g2 eD;rw[vO d (λe=>V.int (MM.trm (at0 cs) (at0 ls) e)),show d.map (λe=>V.int (MM.trm (at0 cs) (at0 ls) e))=(d.map (MM.trm (at0 cs) (at0 ls))).map V.int by rw[Ym];rfl]at eD;exact(aG D _ rfl (SqL.of eD) (q H2 g2))
end K27
namespace MM
def y4(os:aN)(cs:List Int):Prop:=∀p,p<os.length->su (row os p) (λe=>L2.at0 cs (oth e))=4
def J4(ts:aP)(os:aN)(o:Nat)(cs ls:List Int):Prop:=∀(k:Nat) (d:List Nat),(lls ts os)[k]?=some d->su d (trm (L2.at0 cs) (L2.at0 ls))=if k=o then -4 else 4
def nW(ts:aP)(os:aN)(o:Nat)(cs ls:List Int):Prop:=cs.length=2*ts.length/\ls.length=2*ts.length/\(∀x∈cs,1<=x/\x<=4)/\(∀x∈ls,0<=x)/\y4 os cs/\J4 ts os o cs ls
open Classical in
noncomputable def shB(ts:aP)(os:aN)(o:Nat)(cs ls:List Int):Bool:=decide (nW ts os o cs ls)
open Classical in
noncomputable def plB(os:aN)(cs:List Int):Bool:=decide (y4 os cs)
open Classical in
noncomputable def ldB(ts:aP)(os:aN)(o:Nat)(cs ls:List Int):Bool:=decide (J4 ts os o cs ls)
open Classical in
theorem B7{ts:aP}{os:aN}{o:Nat}{cs ls:List Int}(h:nW ts os o cs ls):shB ts os o cs ls=true:=by unfold shB;exact Ye h
open Classical in
theorem uC{ts:aP}{os:aN}{o:Nat}{cs ls:List Int}(h:¬nW ts os o cs ls):shB ts os o cs ls=false:=by unfold shB;exact Yc h
open Classical in
theorem NO{os:aN}{cs:List Int}(h:y4 os cs):plB os cs=true:=by unfold plB;exact Ye h
open Classical in
theorem NP{os:aN}{cs:List Int}(h:¬y4 os cs):plB os cs=false:=by unfold plB;exact Yc h
open Classical in
theorem NS{ts:aP}{os:aN}{o:Nat}{cs ls:List Int}(h:J4 ts os o cs ls):ldB ts os o cs ls=true:=by unfold ldB;exact Ye h
open Classical in
theorem NT{ts:aP}{os:aN}{o:Nat}{cs ls:List Int}(h:¬J4 ts os o cs ls):ldB ts os o cs ls=false:=by unfold ldB;exact Yc h
theorem Shp.is{ts:aP}{os:aN}{o:Nat}{cs ls:List Int}(lc:cs.length=2*ts.length)(ll:ls.length=2*ts.length)(s:Shp ts os o (L2.at0 cs) (L2.at0 ls)):nW ts os o cs ls:=by
 have ix:∀{l:List Int}{x:Int},x∈l->∃i,i<l.length/\x=L2.at0 l i:=λ{l x} h=>by
  obtain⟨i,hi,rfl⟩:=Yy.mp h;exact(xWP i hi (by unfold L2.at0;simp[List.getD,hi]))
 refine(cN lc ll (λx hx=>?_) (λx hx=>?_) s.pl.at_ s.ld)
 ·obtain⟨i,hi,rfl⟩:=ix hx;exact⟨s.pl.lo i (by lia),s.pl.hi i (by lia)⟩
 ·obtain⟨i,hi,rfl⟩:=ix hx;exact s.pos i (by lia)
theorem t8(f:Nat->Int)(p:Nat->Bool):∀l:List Nat,su l (λe=>if p e=true then f e else 0)=su (l.filter p) f
 |[]=>rfl
 |x::l=>by
  rw[bI,List.filter_cons,t8 f p l];by_cases h:p x=true
  ·rw[Yb h,Yb h,bI]
  ·rw[Ya h,Ya h];lia
theorem FX{ts:aP}{os:aN}(g:Good ts os)(c:Nat->Int)(p:Nat):su (ZS (!2)) (λe=>if place ts (oth e)=p then c e else 0)=su (row os p) (λe=>c (oth e)):=by
 have e1:su (ZS (!2)) (λe=>if place ts (oth e)=p then c e else 0)=su (ZS (!2)) (λe=>if decide (place ts (oth e)=p)=true then c e else 0):=c7 λx _=>by simp only[decide_eq_true_eq]
 rw[e1,t8,<-zU c oth];refine lH (qH (List.Pairwise.filter _ ZD) ?_ λx=>?_)
 ·rw[List.Nodup,List.pairwise_map];exact List.Pairwise.imp (λh z=>h (gU z)) (g.g.nd p)
 ·rw[Yz,Zs,Zh,decide_eq_true_eq];constructor
  ·rintro⟨h1,h2⟩;have:=(g.g.has (oth x) (aZ h1)).2;rw[h2]at this;exact(xWP (oth x) this (eK x))
  ·rintro⟨y,hy,rfl⟩;have:=g.g.ends p y hy;exact⟨aZ this.1,by rw[eK];exact this.2⟩
theorem KP(f:Nat->Int)(n:Nat):su (ZS (n+1)) f=su (ZS n) f+f n:=by rw[ZI,oG,bI,kG];lia
end MM
namespace K27
open PySem L2 PyProof.Rows
theorem AL(T:Txt K mg t):Ok P w base T 53 2 NF:=by
 left
 obtain⟨da,ca,la,d,cs,ls,rfl,hd,hc,hl,hb,h1000,q⟩:=h;refine(xWP _ (by exists bC (fM rfl) rfl (T.z 12) boot_sum ?_,(fI ["end","lefts","corners"] [none,some 2,some 1]),bE ?_,0,0,aX,aJ,2,0,aJ,1,0,aJ,1,kM,0) ?_);refine⟨⟨_,SqL.of hd⟩,λD hD=>?_⟩;refine bJ d.length (λi=>.int (MM.trm (at0 cs) (at0 ls) (d.getD i 0))) hD (by lia) (λi H' hi g'=>(bM _ _ (SqL.of (g' _ _ hd)) (lF hi))) (λH' g'=>(xWP _ (SqL.of (g' _ _ hd)) (!54))) ?_ ?_
 ·rintro i H' x H'' k hi g' ⟨rfl,hx⟩ hk;have ex:=hx _ (SqL.of (g' _ _ hd));rw[lF hi]at ex;cases ex;obtain⟨b1,b2,b3⟩:=hb _ (getD_mem hi);exact(eQ (!13) _ _ (SqL.of (g' _ _ hc)) (aQ b1 rfl) (aG _ _ (SqL.of (g' _ _ hl)) (aQ b2 rfl) (iQ (d.getD i 0) rfl _ _ (SqL.of (g' _ _ hl)) (aQ b3 rfl) (hk _ (aK.refl _)))))
 intro H2 g2 eD;rw[vO d (λe=>V.int (MM.trm (at0 cs) (at0 ls) e)),show d.map (λe=>V.int (MM.trm (at0 cs) (at0 ls) e))=(d.map (MM.trm (at0 cs) (at0 ls))).map V.int by rw[Ym];rfl]at eD;exact(aG D _ rfl (SqL.of eD) (q H2 g2))
def GB:Sp:=λvs H Q _=>∃(wa ca:Addr) (ts:MM.aP) (os:MM.aN) (cs:List Int),vs=[.ref wa,.ref ca]/\dB H wa os.length ts os/\MM.Good ts os/\ts.length<=40/\os.length<=40/\H ca=some (!28)/\cs.length=2*ts.length/\∀H',aK H H'->Q (.bl (MM.plB os cs)) H'
theorem EG(T:Txt K mg t):Ok P w base T 50 3 GB:=by
 left
 obtain⟨wa,ca,ts,os,cs,rfl,hWeb,g,h40,o40,hc,lc,q⟩:=h;refine(xWP _ (by exists (fH 2 ["place"] [none]),aI,0,0,cV rfl (T.z 3) ?_,1,3,4,iR (pv 2) ?_ gL (pv 4) mS set_list,vT,0,3,bC (oX rfl) rfl (T.z 0) boot_all ?_,(fI ["total"] [none]),bE ?_,2,0,dF,0,nB (T.g 0)) ?_);sleep 17;refine(jB _ _ (SqT.of hw) rfl _ rfl (by lia) (by lia) (λsA hsA=>?_));refine bJ ((os.length:Nat):Int).toNat (λ_=>.int 0) hsA (by lia) (λi H' hi _=>hi) (λH' _=>ZC _) ?_ ?_
 ·rintro i H' x H'' k hi g' ⟨rfl,rfl⟩ hk;exact(!33)
 intro H2 g2 es;rw[Int.toNat_natCast,K9]at es;refine(aM ca rfl ⟨_,SqL.of (g2 _ _ hc)⟩ (dJ (xs:=cs.map V.int)
  (λi σ H'=>aK H H'/\(∃ss:List Int,H' sA=some (.lst (ss.map V.int))/\ss.length=os.length/\∀p,p<os.length->at0 ss p=MM.su (ZS i) (λe=>if MM.place ts (!46)=p then at0 cs e else 0)) /\
   ∃o3 o4:Option V,σ=[some (.ref wa),some (.ref ca),some (.ref sA),o3,o4])
  (xPP g2 (aM _ es (!5) (λp hp=>by rw[M6 hp];rfl)) (!44)) (λi σ H' _ h=>SqL.of (h.1 _ _ hc)) ?_ ?_))
 ·rintro i x σ H3 Tp hx ⟨g3,⟨ss,e1,e2,e3⟩,o3,o4,rfl⟩ hTp;have hi:i<cs.length:=by have:=(Zj.mp hx).1;rwa [Zq]at this
  rw[bX hi]at hx;cases hx;have g4:=aC hTp (.tup [vn i,.int (at0 cs i)]);have g34:=g3.trans g4;have f1:=g4 _ _ e1;refine(!31);have pl:=(g.g.has (MM.oth i) (MM.aZ (by lia))).1;generalize upd H3 Tp (.tup [vn i,.int (at0 cs i)])=H4 at g4 g34 f1;refine(gZ wa _ ts os i rfl (g34.web hWeb) (by lia) (aO _ _ (SqL.of f1) (by lia) (aQ (j:=MM.place ts (MM.oth i)) (by lia) rfl) (aG _ (MM.place ts (MM.oth i)) f1 (dE (!26) rfl) ?_)));rw[<-ZH];refine(xPP (λb u h=>by rw[aH (aE h hsA)];exact g34 _ _ h) (aM _ aB (by rw[ZR];exact e2) (λp hp=>?_)) (!44));rw[gH (by lia),MM.KP,e3 p hp];by_cases z:p=MM.place ts (MM.oth i)
  ·rw[Yb z,Yb z.symm,z,e3 _ pl]
  ·rw[Ya z,Ya (Yh z)];lia
 rintro σ H3 ⟨g3,⟨ss,e1,e2,e3⟩,o3,o4,rfl⟩;rw[Zq,lc]at e3;refine⟨⟨_,SqL.of e1⟩,λD hD=>?_⟩;refine bJ ss.length (λi=>.bl (decide (V.int (at0 ss i)=V.int 4))) hD (by lia) (λi H' hi g'=>(bM _ _ (SqL.of (g' _ _ e1)) (bX hi))) (λH' g'=>(xWP _ (SqL.of (g' _ _ e1)) (!54))) ?_ ?_
 ·rintro i H' x H'' k hi g' ⟨rfl,hx⟩ hk;have ex:=hx _ (SqL.of (g' _ _ e1));rw[bX hi]at ex;cases ex;exact(!33)
 intro H4 g4 eD;rw[show(ZS ss.length).map (λi=>V.bl (decide (V.int (at0 ss i)=V.int 4)))=((ZS ss.length).map λi=>decide (V.int (at0 ss i)=V.int 4)).map V.bl by rw[Ym];rfl]at eD;refine(aG D _ rfl (SqL.of eD) ?_);have hB:((ZS ss.length).map λi=>decide (V.int (at0 ss i)=V.int 4)).all id=MM.plB os cs:=by
  have key:(∀p,p<os.length->at0 ss p=4)↔MM.y4 os cs:=by
   unfold MM.y4;constructor
   ·intro h p hp;rw[<-MM.FX g,<-e3 p hp];exact h p hp
   ·intro h p hp;rw[e3 p hp,MM.FX g];exact h p hp
  by_cases h:MM.y4 os cs
  ·rw[MM.NO h,ZE];intro b hb;obtain⟨i,hi,rfl⟩:=Zh.mp hb;have:=key.mpr h i (by rw[<-e2];exact Zs.mp hi);simp[this]
  ·rw[MM.NP h,Bool.eq_false_iff];intro hall;apply h;refine key.mp λp hp=>?_;have:=List.all_eq_true.mp hall _ (Zh.mpr (xWP p (Zs.mpr (by lia)) rfl));have:=Yf this;exact V.int.inj this
 rw[hB];exact q H4 (g3.trans g4)
def GF:Sp:=λvs H Q _=>∃(wa ca la:Addr) (n o:Nat) (ts:MM.aP) (os:MM.aN) (cs ls:List Int),vs=[.ref wa,vn o,.ref ca,.ref la]/\dB H wa n ts os/\MM.Good ts os/\ts.length<=40/\H ca=some (!28)/\H la=some (!42)/\cs.length=2*ts.length/\ls.length=2*ts.length/\∀H',aK H H'->Q (.bl (MM.ldB ts os o cs ls)) H'
theorem tN(T:Txt K mg t):Ok P w base T 51 6 GF:=by
 left
 obtain⟨wa,ca,la,n,o,ts,os,cs,ls,rfl,hWeb,g,h40,hc,hl,lc,ll,q⟩:=h;refine(xWP _ (by exists cV rfl (T.z 3) ?_,kN,0,4,5,fX,AL,5,2,3,uJ,4,1) ?_);refine(aV wa n ts os rfl hWeb g (by lia) (λr rr H1 g1 nos=>?_));refine(aM r rfl ⟨_,SqL.of nos.at_⟩ (dJ (xs:=rr.map V.ref)
  (λi σ H'=>aK H1 H'/\(∀(k:Nat) (d:List Nat),k<i->(MM.lls ts os)[k]?=some d->MM.su d (MM.trm (at0 cs) (at0 ls))=if k=o then -4 else 4) /\
   ∃o4 o5:Option V,σ=[some (.ref wa),some (vn o),some (.ref ca),some (.ref la),o4,o5])
  (xPP (aK.refl _) (λk d hk=>Yg hk (by lia)) (!44)) (λi σ H' _ h=>SqL.of (h.1 _ _ nos.at_)) ?_ ?_))
 ·rintro i x σ H2 Tp hx ⟨g2,hk,o4,o5,rfl⟩ hTp;obtain⟨y,hy,rfl⟩:=gR hx;have hil:i<(MM.lls ts os).length:=by rw[<-nos.len];exact(Zj.mp hy).1
  have hli:=Zz hil;obtain⟨y',hy',ey⟩:=nos.row i _ hli;rw[hy]at hy';cases hy';generalize (MM.lls ts os)[i]=d at hli ey;have hdd:=MM.fE g hli;have hd80:d.length<=1000:=by have:=MM.fJ _ _ hdd.1 hdd.2.1;lia
  have g3:=aC hTp (.tup [vn i,.ref y]);have g23:=g2.trans g3;have g03:=g1.trans g23;refine(!31);generalize upd H2 Tp (.tup [vn i,.ref y])=H3 at g23 g03;refine(cR y ca la d cs ls rfl (g23 _ _ ey) (g03 _ _ hc) (bN (g03 _ _ hl) (λx hx=>(xPP (by have:=hdd.2.1 x hx;lia) (by have:=hdd.2.1 x hx;lia) (by have:=MM.aZ (hdd.2.1 x hx);lia))) hd80 (λH4 g4=>?_)));refine(bM i o rfl ?_);by_cases z:MM.su d (MM.trm (at0 cs) (at0 ls))=if i=o then -4 else 4
  ·refine iFb (by rw[z];simp) ?_;refine(xPP (g23.trans g4) (λk d' hk' hd'=>?_) (!44));by_cases e:k=i
   ·subst e;rw[hli]at hd';cases hd';exact z
   ·exact hk k d' (by lia) hd'
  ·refine iTb (by simp[z]) ?_;have:=q H4 (g03.trans g4);rw[MM.NT λh=>z (h i d hli)]at this;sleep 19
 rintro σ H2 ⟨g2,hk,o4,o5,rfl⟩;rw[Zq,nos.len]at hk;have:=q H2 (g1.trans g2);rw[MM.NS λk d hd=>hk k d (Zj.mp hd).1 hd]at this;sleep 19
def uA:Sp:=λvs H Q _=>∃(wa sa ca la:Addr) (o:Nat) (ts:MM.aP) (os:MM.aN) (cs ls:List Int),vs=[.ref wa,vn o,.ref sa]/\dB H wa os.length ts os/\MM.Good ts os/\ts.length<=40/\os.length<=40/\H sa=some (.tup [.ref ca,.ref la])/\H ca=some (!28)/\H la=some (!42)/\∀H',aK H H'->Q (.bl (MM.shB ts os o cs ls)) H'
theorem AM(T:Txt K mg t):Ok P w base T 49 7 uA:=by
 left
 obtain⟨wa,sa,ca,la,o,ts,os,cs,ls,rfl,hWeb,g,h40,o40,hsa,hc,hl,q⟩:=h;refine(xWP _ (by exists 3,aI,2,4,aI,2,5,aI,0,fX,3,5,fX,4,5,bC (lP rfl) rfl (T.z 9) boot_min ?_,3,bC (E5 rfl) rfl (T.z 8) boot_max ?_,3,nB (T.g 0),bC (lP rfl) rfl (T.z 9) boot_min ?_,4,AE ?_ ?_,EG,0,3,vQ ?_,tN,0,1,3,4) ?_);sleep 17;obtain⟨trv,tv1,tv2⟩:∃trv:List V,H tA=some (.lst trv)/\trv.length=ts.length:=by
  obtain⟨tr,q1,q2,_⟩:=hts;exact(xWP _ q1 (by rw[Zq];exact q2))
 have h1:=g.one;have no:¬MM.nW ts os o cs ls->Q (.bl false) H:=λh=>by
  have:=q H (aK.refl _);rw[MM.uC h]at this;sleep 19
 refine(aG _ _ (SqT.of hsa) rfl ?_);refine(aG _ _ (SqT.of hsa) rfl ?_);refine(bP _ _ (SqT.of hw) rfl tA _ rfl (.inl (SqL.of tv1)) (!7) ?_);have eM:(2:Int)*((trv.length:Nat):Int)=((2*ts.length:Nat):Int):=by lia
 show cS 5 (V.int (2*((trv.length:Nat):Int))) _ _ _;rw[eM];refine(aG ca _ rfl (.inl (SqL.of hc)) ?_);rw[Zq];by_cases z1:cs.length=2*ts.length
 ·refine iFb (by rw[z1];simp) ?_;refine(aG la _ rfl (.inl (SqL.of hl)) ?_);rw[Zq];by_cases z2:ls.length=2*ts.length
  ·refine iFb (by rw[z2];simp) ?_;refine(aO ca cs rfl (SqL.of hc) (by lia) (λm hm hmin=>?_));by_cases y1:m<1
   ·exact iTb (Ye y1) (iT (no λh=>by have:=(h.2.2.1 m hm).1;lia))
   refine iFb (Yc y1) ?_;refine(aO ca cs rfl (SqL.of hc) (by lia) (λm2 hm2 hmax=>?_));by_cases y2:4<m2
   ·exact iTb (Ye y2) (iT (no λh=>by have:=(h.2.2.1 m2 hm2).2;lia))
   refine iFb (Yc y2) ?_;refine(aO la ls rfl (SqL.of hl) (by lia) (λm3 hm3 hmin3=>?_));by_cases y3:m3<0
   ·exact iTb (Ye y3) (no λh=>by have:=h.2.2.2.1 m3 hm3;lia)
   refine iFb (Yc y3) ?_;have pre:MM.shB ts os o cs ls=(MM.plB os cs&&MM.ldB ts os o cs ls):=by
    by_cases a:MM.y4 os cs
    ·by_cases b:MM.J4 ts os o cs ls
     ·rw[MM.NO a,MM.NS b,MM.B7 (cN z1 z2 (λx hx=>⟨by have:=hmin x hx;lia,by have:=hmax x hx;lia⟩) (λx hx=>by have:=hmin3 x hx;lia) a b)];rfl
     ·rw[MM.NT b,MM.uC λh=>b h.2.2.2.2.2,Bool.and_false]
    ·rw[MM.NP a,MM.uC λh=>a h.2.2.2.2.1];rfl
   refine(a7 wa ca ts os cs rfl hWeb g h40 (bN o40 hc z1 (λH1 g1=>(?_))));rw[pre]at q;cases hp:MM.plB os cs with
   |false =>
    rw[hp,Bool.false_and]at q;exact iF (q H1 g1)
   |true =>
    rw[hp,Bool.true_and]at q;exact iT (aR wa ca la _ o ts os cs ls (jD rfl (g1.web hWeb) g h40 (g1 _ _ hc) (g1 _ _ hl) z1 z2 (λH2 g2=>q H2 (g1.trans g2))))
  ·refine iTb (!41) (no λh=>z2 h.2.1)
 ·exact iTb (!41) (iT (no λh=>z1 h.1))
def vK:Sp:=λvs H Q _=>∃(p c l:Addr) (n:Nat) (cs ls:List Int),vs=[.ref p]/\nS H p c l cs ls/\ls.length=2*n/\n<=1000 /\
 ∀(r:Addr) H',H r=none->aK H H'->H' r=some (.lst (mE ls n))->Q (.ref r) H'
theorem xS(T:Txt K mg t):Ok P w base T 54 1 vK:=by
 left
 obtain⟨p,c,l,n,cs,ls,rfl,hT,hl,hn,q⟩:=h;refine(xWP _ (by exists 1,aI,0,(fI ["first","lefts"] [none,some 1]),EB rfl (T.z 10) ?_,1,0,aX,aJ,1,0,aJ,1,aX,0) ?_);refine(aG _ (.ref l) (SqT.of hT.tp) rfl ?_);refine(jC l _ rfl (.inl (SqL.of hT.l)) n (by rw[Zq,hl];push_cast;rfl) (by lia) (λD hD=>?_));refine bJ n (λj=>.int (sum2 ls j)) hD (by lia) (λi H' hi _=>hi) (λH' _=>ZC _) ?_ ?_
 ·rintro i H' x H'' k hi g1 ⟨rfl,rfl⟩ hk;have hS':SqL H'' l (ls.map V.int):=SqL.of (g1 _ _ hT.l);refine⟨(Fills.refl _).set _ rfl,?_⟩;refine(aW _ _ hS' (aQ (j:=2*i) (by lia) (by lia)) _ _ hS' (aQ (j:=2*i+1) (by lia) (by lia)) (hk _ (aK.refl _)))
 ·intro H' g1 e;exact q D H' hD g1 e
def KY:Sp:=λvs H Q _=>∃(p wa ba sa p2 ca la:Addr) (n:Nat) (ws:List Int) (bs ss:List (!18)) (cs ls:List Int),vs=[.ref p,.ref p2]/\jM H p wa ba sa ws bs ss/\nS H p2 ca la cs ls/\Fit n ws bs ss cs ls /\
 ∀H',aK H H'->Q (.bl (j4 bs ss cs ls n)) H'
theorem HY(T:Txt K mg t)(G_turns:Ok P w base T 54 1 vK):Ok P w base T 57 2 KY:=by
 left
 sleep 8;have hn:=hF.n;refine(xWP _ (by exists mH rfl (T.z 14) ?_,cX G_turns hr (T.f 54) bR ?_,1,aI,0,2,3,jW,3,2,3,mH rfl (T.z 14) ?_,aI,1,aI,0,4,5,jW,5,fX,4,5) ?_);refine(cR p2 ca la n cs ls rfl hT hF.l ⟨ by lia,λr H1 hr0 g1 e1=>?_⟩);refine(eP _ _ (SqT.of (g1 _ _ hW.tp)) rfl r ba _ _ rfl (xPP e1 (g1 _ _ hW.b) ?_));refine qL (λi σ H'=>(∀k,k<i->ID bs ls k)/\aK H1 H'/\∃o2 o3:Option V,σ=[some (.ref p),some (.ref p2),o2,o3,none,none]) (by rw[mD,Zq,hF.b]) (xPP (λk h=>Yg h (by lia)) (aK.refl _) (xWW none none rfl))
  (λi σ H' _ h=>⟨h.2.1 _ _ e1,h.2.1 _ _ (g1 _ _ hW.b)⟩) ?_ ?_
 ·rintro i x y σ H' Tp hx hy ⟨hk,g2,o2,o3,rfl⟩ hTp;obtain⟨hi,rfl⟩:=DV hx;obtain⟨hi2,rfl⟩:=zM hy;have g3:=aC hTp (.tup [.int (sum2 ls i),vo (ov bs i)]);refine(!31);refine⟨rfl,?_⟩;rcases hb:ov bs i with _ | b<;>rw[hb]at g3
  ·refine iFb (by rfl) (iF (xPP (λk h=>?_) (g2.trans g3) (!44)));by_cases e:k=i
   ·subst e;intro c hc;rw[hb]at hc;cases hc
   ·exact hk k (by lia)
  ·refine iTb (by rfl) (i2 (λc=>?_) (λc=>(xPP (λk h=>?_) (g2.trans g3) (!44))))
   ·have c':b<sum2 ls i:=Yf c;have:=q _ ((g1.trans g2).trans g3);rw[kS (λz=>by have:=z.1 i (by lia) b hb;lia)]at this;sleep 19
   ·by_cases e:k=i
    ·subst e;intro c' hc;rw[hb]at hc;cases hc;have:¬b<sum2 ls k:=λz=>c (Ye z)
     lia
    ·exact hk k (by lia)
 ·rintro σ H2 ⟨hk,g2,o2,o3,rfl⟩;rw[mD]at hk;have g12:=g1.trans g2;refine(aW _ _ (SqT.of (g12 _ _ hT.tp)) rfl _ _ (SqT.of (g12 _ _ hW.tp)) rfl (gI ca sa _ _ rfl (g12 _ _ hT.c) (g12 _ _ hW.s) ?_));refine qL (λi σ H'=>(∀k,k<i->CK ss cs k)/\aK H2 H'/\∃o4 o5:Option V,σ=[some (.ref p),some (.ref p2),o2,o3,o4,o5]) (by rw[Zq,Zq,hF.c,hF.s]) (xPP (λk h=>Yg h (by lia)) (aK.refl _) (xWW none none rfl))
   (λi σ H' _ h=>⟨h.2.1 _ _ (g12 _ _ hT.c),h.2.1 _ _ (g12 _ _ hW.s)⟩) ?_ ?_
  ·rintro i x y σ H' Tp hx hy ⟨hk2,g3,o4,o5,rfl⟩ hTp;obtain⟨hi,rfl⟩:=lN hx;obtain⟨hi2,rfl⟩:=zM hy;have hc2:=hF.c;have g4:=aC hTp (.tup [.int (at0 cs i),vo (ov ss i)]);refine(!31);refine⟨rfl,?_⟩;rcases hb:ov ss i with _ | b<;>rw[hb]at g4
   ·refine iFb (by rfl) (iF (xPP (λk h=>?_) (g3.trans g4) (!44)));by_cases e:k=i
    ·subst e;intro c hc;rw[hb]at hc;cases hc
    ·exact hk2 k (by lia)
   ·refine iTb (by rfl) (i2 (λc=>?_) (λc=>(xPP (λk h=>?_) (g3.trans g4) (!44))))
    ·have c':at0 cs i≠b:=by simpa[vo] using c
     have:=q _ ((g12.trans g3).trans g4);rw[kS (λz=>c' (z.2 i (by lia) b hb))]at this;sleep 19
    ·by_cases e:k=i
     ·subst e;intro c' hc;rw[hb]at hc;cases hc;simpa[vo] using c
     ·exact hk2 k (by lia)
  ·rintro σ H3 ⟨hk2,g3,o4,o5,rfl⟩;rw[Zq,hF.c]at hk2;have:=q _ (g12.trans g3);rw[nI ⟨hk,hk2⟩]at this;sleep 19
def OF:Sp:=λvs H Q _=>∃(p wa ba sa p2 ca la:Addr) (n:Nat) (ws:List Int) (bs ss:List (!18)) (cs ls:List Int),vs=[.ref p,.ref p2]/\jM H p wa ba sa ws bs ss/\nS H p2 ca la cs ls/\Fit n ws bs ss cs ls /\
 ∀H',aK H H'->Q (.int (costOf ws ls n)) H'
theorem MB(T:Txt K mg t)(G_turns:Ok P w base T 54 1 vK):Ok P w base T 58 2 OF:=by
 left
 sleep 8;have hn:=hF.n;have hw:=hF.w;refine(xWP _ (by exists bC (fM rfl) rfl (T.z 12) boot_sum ?_,(fI ["many","weight"] [none,none]),mH rfl (T.z 14) ?_,cX G_turns hr (T.f 54) bR ?_,1,aI,0,0,1,0,1) ?_);refine(cR p2 ca la n cs ls rfl hT hF.l ⟨ by lia,λr H1 hr0 g1 e1=>?_⟩);refine(eP _ _ (SqT.of (g1 _ _ hW.tp)) rfl r wa _ _ rfl (xPP e1 (g1 _ _ hW.w) (λD hD=>?_)));have lw:∀{i:Nat},i<n->(ws.map V.int)[i]?=some (.int (at0 ws i)):=λhi=>bX (by lia);have lr:∀{i:Nat},i<n->(mE ls n)[i]?=some (.int (sum2 ls i)):=λhi=>by unfold mE;rw[Zk,Yk hi];rfl
 refine bJ n (λk=>.int (sum2 ls k*at0 ws k)) hD (by lia) (λi H' hi g2=>(gI _ _ _ _ (g2 _ _ e1) (g2 _ _ (g1 _ _ hW.w)) (lr hi) (lw hi))) (λH' g2=>(aG _ _ (g2 _ _ e1) (g2 _ _ (g1 _ _ hW.w)) (.inl (by rw[mD];exact ZC _)))) ?_ ?_
 ·rintro i H' x H'' k hi g2 ⟨Tp,x',y',rfl,hTp,rfl,y1,y2⟩ hk;have ex:=y1 _ (g2 _ _ e1);rw[lr hi]at ex;cases ex;have ey:=y2 _ (g2 _ _ (g1 _ _ hW.w));rw[lw hi]at ey;cases ey;have hb:=hF.wb _ (iZ (ls:=ws) (j:=i) (by lia));refine(!29);exact⟨.inr ⟨by lia,by lia⟩,hk _ (aC hTp _)⟩
 ·intro H' g2 e;rw[C6]at e;exact(aG D _ rfl (SqL.of e) (q _ (g1.trans g2)))
end K27
namespace K27
open PySem L2 PyProof.Rows NM
def B1:Sp:=λvs H Q _=>∃(r pa:Addr) (w:Way) (ps:List Int),vs=[.ref r,.ref pa]/\H r=some (.tup (wv w))/\H pa=some (!12)/\NY ps.length w/\Q (vo (least ps w)) H
theorem HU(T:Txt K mg t)(G_rate:Ok P w base T 27 1 (rM)):Ok P w base T 45 2 B1:=by
 left
 obtain⟨r,pa,w,ps,rfl,hr0,hp,ok,q⟩:=h;refine(xWP _ (by exists 2,cX G_rate hr (T.f 27) bR ?_,0,1,jW,aI,0,bC (uX rfl) rfl (T.z 9) boot_min ?_,aI,0,2,aI,0,2,2,aI,0,2) ?_);have hT:SqT H r (wv w):=SqT.of hr0;refine(bG r pa w ps rfl (SqT.of hr0) hp ok.a ok.b ?_);have hlo:=ok.lo;refine(aO _ (vo w.hi) hT rfl rfl ?_);unfold least at q;rcases hh:w.hi with _ | h
 ·rw[hh]at q;refine iFb (by rfl) ?_;refine i2 (λc=>?_) (λc=>?_)
  ·have c':rt ps w<0:=Yf c;dsimp only at q;rw[Yb c']at q;exact q
  ·have c':¬rt ps w<0:=λz=>c (Ye z);dsimp only at q;rw[Ya c']at q;exact(aG _ _ hT rfl ⟨ .inl ⟨by lia,by omega⟩,q⟩)
 ·rw[hh]at q;have e4:atI (wv w) 3=some (.int h):=by show some (vo w.hi)=_;rw[hh];rfl
  have:=ok.hi h hh;exact iTb (by rfl) (aG _ _ hT rfl (eQ (.inl ⟨by lia,by omega⟩) _ _ hT e4 (fD (.inl ⟨by omega,by omega⟩) _ _ rfl q)))
theorem IC(T:Txt K mg t)(G_check_net:Ok P w base T 43 1 vL)(G_least_worth:Ok P w base T 45 2 B1) :
  Ok P w base T 44 3 (B6 least):=by
 left
 obtain⟨p,na,wa,pa,ns,ws,ps,rfl,hN,hO,hp,hl,q⟩:=h;obtain⟨rs,e1,e2,e3⟩:=hN.w;refine(xWP _ (by exists cX G_check_net hr (T.f 43) bR ?_,0,2,bC (fM rfl) rfl (T.z 12) boot_sum ?_,(fI ["price","need"] [none,none]),mH rfl (T.z 14) ?_,1,aI,0,0,1,0,1,bE ?_,aI,0,3,4,cX G_least_worth hr (T.f 45) bR ?_,3,1,jX,4,OT (i:=2) nd rfl (Or.inl rfl) (pv 4) mS,2) ?_);have hn2:=hO.n2;refine(gZ p na wa ns ws rfl hN hO ?_);refine(eP _ _ (SqT.of hN.tp) rfl pa na _ _ rfl (xPP hp hN.n (λD hD=>?_)));have lp:∀{i:Nat},i<ns.length->(ps.map V.int)[i]?=some (.int (at0 ps i)):=λhi=>bX (by lia);have ln:∀{i:Nat},i<ns.length->(!39)[i]?=some (.int (at0 ns i)):=λhi=>bX (by lia);refine bJ ns.length (λk=>.int (at0 ps k*at0 ns k)) hD (by lia) (λi H' hi g2=>(gI _ _ _ _ (g2 _ _ hp) (g2 _ _ hN.n) (lp hi) (ln hi))) (λH' g2=>(aG _ _ (g2 _ _ hp) (g2 _ _ hN.n) (.inl (!26)))) ?_ ?_
 ·rintro i H' x H'' k hi g2 ⟨Tp,x',y',rfl,hTp,rfl,y1,y2⟩ hk;have ex:=y1 _ (g2 _ _ hp);rw[lp hi]at ex;cases ex;have ey:=y2 _ (g2 _ _ hN.n);rw[ln hi]at ey;cases ey;have hb:=hO.nb _ (iZ (ls:=ns) (j:=i) hi);refine(!29);exact⟨.inr ⟨by lia,by lia⟩,hk _ (aC hTp _)⟩
 intro H1 g1 eD;rw[JI]at eD;refine(aG D _ rfl (SqL.of eD) ?_);have ed:(JJ ps ns).sum=dot ps ns ns.length:=rfl;rw[ed];refine(aG _ _ (SqT.of (g1 _ _ hN.tp)) rfl ⟨ ⟨_,SqL.of (g1 _ _ e1)⟩,eY (xs:=rs.map V.ref)
  (λi σ H'=>H'=H1/\∃(tot:Int) (o3 o4:Option V),bnd (least ps) ws (dot ps ns ns.length)=bnd (least ps) (ws.drop i) tot/\σ=[some (.ref p),some (.ref pa),some (.int tot),o3,o4]) (vC rfl _ _ _ rfl rfl) (λi σ H' _ h=>by obtain⟨rfl,_⟩:=h;exact SqL.of (g1 _ _ e1)) ?_ ?_⟩)
 ·rintro i x σ H' hx ⟨rfl,tot,o3,o4,hb,rfl⟩;obtain⟨r,hr1,rfl⟩:=gR hx;obtain⟨w,hw,er⟩:=rG e2 e3 hr1;have ok:=hO.w w (Zg hw);refine(aV r pa w ps rfl (g1 _ _ er) (g1 _ _ hp) (by rw[hl];exact ok) ?_);rcases hle:least ps w with _ | l
  ·refine⟨rfl,iTb (by rfl) ?_⟩;have:=q H' g1;rw[hb,yW hw hle]at this;sleep 19
  ·refine⟨rfl,iFb (by rfl) ?_⟩;exact(vC rfl (tot+l) _ _ (by rw[hb,kW hw hle]) rfl)
 ·rintro σ H' ⟨rfl,tot,o3,o4,hb,rfl⟩;have:=q H' g1;rw[hb,Zq,e2,List.drop_length]at this;sleep 19
def GK:Sp:=λvs H Q _=>∃(wa:Addr) (n:Nat) (ts:MM.aP) (os:MM.aN),vs=[.ref wa]/\dB H wa n ts os/\os.length<=40/\∀(r:Addr) (H':Hp),aK H H'->dB H' r n ts os->Q (.ref r) H'
theorem AK(T:Txt K mg t):Ok P w base T 86 1 GK:=by
 left
 obtain⟨wa,n,ts,os,rfl,hWeb,ho40,q⟩:=h;refine(xWP _ (by exists aI,0,a8 bL rfl (T.z 7) boot_list ?_,aI,0,(fI ["_law_order"] [none]),bE ?_,aI,0,0,a8 bL rfl (T.z 7) boot_list ?_,0) ?_);obtain⟨tA,oA,hw,⟨tr,t1,t2,t3⟩,⟨rr,o1,o2,o3⟩⟩:=hWeb;refine(aW _ _ (SqT.of hw) rfl _ _ (SqT.of hw) rfl (aG tA _ rfl (.inl (SqL.of t1)) (λtB htB=>?_)));have g1:=aC htB (.lst (!32));have eB:(upd H tB (.lst (!32))) tB=some (.lst (!32)):=aB;generalize upd H tB (.lst (!32))=H1 at g1 eB;refine(aG _ _ (SqT.of (g1 _ _ hw)) rfl ⟨ ⟨_,SqL.of (g1 _ _ o1)⟩,λD hD=>?_⟩);refine comp_map os.length (λi ys H'=>aK H1 H'/\H' D=some (.lst ys)/\∃rs:List Addr,ys=rs.map V.ref/\rs.length=i/\(∀x∈rs,x≠D)/\∀(j:Nat) l,j<i->os[j]?=some l->∃x,rs[j]?=some x/\H' x=some (.lst (vns l)))
  (BM (aC hD _) aB ([]) rfl rfl (λx hx=>by simp at hx) (λj l hj=>Yg hj (by lia))) ?_ ?_
 ·rintro i ys H' hi ⟨g2,eD,rs,rfl,hl,hne,hrow⟩;have hS:SqL H' oA (rr.map V.ref):=SqL.of (g2 _ _ (g1 _ _ o1));obtain⟨y,hy,ey⟩:=o3 i _ (Zz hi);have ly:(rr.map V.ref)[i]?=some (.ref y):=by rw[Zk,hy];rfl
  generalize hli:os[i]=l at ey;refine⟨(bM _ _ hS ly),?_⟩;rintro x H'' ⟨rfl,hx⟩;have ex:=hx _ hS;rw[ly]at ex;cases ex;refine(eQ (!13) y _ rfl (.inl (SqL.of (g2 _ _ (g1 _ _ ey)))) (λx' hx'=>?_));have g3:=aC hx' (.lst (vns l));have nxD:x'≠D:=(aE eD hx').symm;refine(tW (g3 _ _ eD) (by rw[Zq,hl];exact Nat.lt_trans hi (Xq ho40 (!1))) (λb o h=>by rw[aH (aE h hD)];exact g3 _ _ (g2 _ _ h)) aB (rs++[x']) (by rw[Zt];rfl) (by simp[hl]) (λz hz=>?_) (λj l' hj hl'=>?_))
  ·rcases Zf.mp hz with hz | hz
   ·exact hne z hz
   ·simp at hz;subst hz;exact nxD
  ·by_cases e:j=i
   ·subst e;rw[Zz hi,hli]at hl';cases hl';exact(xWP x' (by rw[<-hl];simp) (by rw[aH nxD];exact aB))
   ·obtain⟨z,q1,q2⟩:=hrow j l' (by lia) hl';exact(xWP z (by rw[Zx (by lia)];exact q1) (by rw[aH (hne z (Zg q1))];exact g3 _ _ q2))
 rintro ys H2 ⟨g2,eD,rs,rfl,hl,hne,hrow⟩;refine(xPP (xWP _ (SqL.of (g2 _ _ (g1 _ _ o1))) (by rw[Zq,o2];exact ZC _)) (by show 3<=ZW;decide) (λr hr'=>?_));have g3:=aC hr' (.tup [vn n,.ref tB,.ref D]);have g03:=(g1.trans g2).trans g3;exact q r _ g03 (aG tB D aB (aM tr (g3 _ _ (g2 _ _ eB)) t2 (λi u hu=>by obtain⟨r',q1,q2⟩:=t3 i u hu;exact(xWP r' q1 (g03 _ _ q2)))) (aM rs (g3 _ _ eD) hl (λi l hli=>by obtain⟨x,q1,q2⟩:=hrow i l (Zj.mp hli).1 hli;exact(xWP x q1 (g3 _ _ q2)))))
end K27
namespace L2
open PySem PyProof.Rows
theorem vH(p:Int->Bool)(l:List Int){i:Nat}(h:i<l.length):(l.take (i+1)).filter p=(l.take i).filter p++(if p (at0 l i)=true then [at0 l i] else []):=by
 rw[List.take_succ_eq_append_getElem h,List.filter_append];have e:l[i]=at0 l i:=by unfold at0;simp[List.getD,h]
 rw[e,List.filter_cons,List.filter_nil]
end L2
namespace K27
open PySem L2 PyProof.Rows
theorem xV(T:Txt K mg t):Ok P w base T 80 4 uA:=by
 left
 obtain⟨wa,sa,ca,la,o,ts,os,cs,ls,rfl,hWeb,g,h40,o40,hsa,hc,hl,q⟩:=h;refine(xWP _ (by exists dD ?_ ?_,2,3,4,dD ?_ ?_,0,5,6,7,fX,3,6,fX,4,6,(AG hr.units),(fI ["_law_corner"] [none]),bE ?_,3,0,mI (u7 (GX (dQ lT (pv 0) b0 (iI _)) (GW (dQ HI (pv 0) b0 (iI _))))),0,bC (lP rfl) rfl (T.z 9) boot_min ?_,4,5,8,fX,bC (fM rfl) rfl (T.z 12) boot_sum ?_,(fI ["_law_end","_law_corners"] [none,some 3]),bE ?_,aJ,7,8,0,aJ,1,dI,0,cV rfl (T.z 3) ?_,lL,6,7,9,10,fX,LY,10,3,4,a8 iB rfl (T.z 4) boot_int ?_,dF,9,1) ?_);sleep 17;obtain⟨trv,tv1,tv2⟩:∃trv:List V,H tA=some (.lst trv)/\trv.length=ts.length:=by
  obtain⟨tr,q1,q2,_⟩:=hts;exact(xWP _ q1 (by rw[Zq];exact q2))
 have h1:=g.one;have no:∀{H':Hp},aK H H'->¬MM.nW ts os o cs ls->Q (.bl false) H':=λgg h=>by
  have:=q _ gg;rw[MM.uC h]at this;sleep 19
 refine(aM _ (SqT.of hsa) rfl ?_);refine(aM _ (SqT.of hw) rfl ?_);refine(bP ca _ rfl (.inl (SqL.of hc)) tA _ rfl (.inl (SqL.of tv1)) (!7) ?_);rw[Zq];by_cases z1:cs.length=2*ts.length
 case neg=>exact iTb (!41) (iT (no (aK.refl _) λh=>z1 h.1))
 refine iFb (by rw[z1,tv2];simp) ?_;refine(bP la _ rfl (.inl (SqL.of hl)) tA _ rfl (.inl (SqL.of tv1)) (!7) ?_);rw[Zq];by_cases z2:ls.length=2*ts.length
 case neg=>exact iTb (!41) (no (aK.refl _) λh=>z2 h.2.1)
 refine iFb (by rw[z2,tv2];simp) ?_;generalize hbad:(λx:Int=>decide (x<1)||decide (4<x))=bad;refine⟨⟨_,SqL.of hc⟩,λD hD=>?_⟩;refine iW cs.length (λi ys H'=>ys=((cs.take i).filter bad).map V.int/\H'=upd H D (.lst ys)) ⟨by simp,rfl⟩ ?_ ?_
 ·rintro i ys H' hi ⟨rfl,rfl⟩;have gD:=aC hD (.lst (((cs.take i).filter bad).map V.int));refine⟨(bM _ _ (SqL.of (gD _ _ hc)) (bX hi)),?_⟩;rintro x' H'' ⟨rfl,hx'⟩;have e6:=hx' _ (SqL.of (gD _ _ hc));rw[bX hi]at e6;cases e6;have hlen:(((cs.take i).filter bad).map V.int).length<=80:=by
   rw[Zq];have a1:=List.length_filter_le bad (cs.take i);have a2:(cs.take i).length<=cs.length:=List.length_take_le' _ _
   lia
  have tk:=vH bad cs hi;have hb:bad (at0 cs i)=(decide (at0 cs i<1)||decide (4<at0 cs i)):=by rw[<-hbad]
  refine⟨(Fills.refl _).set _ rfl,?_⟩;have yes:bad (at0 cs i)=true->(λy H4=>H4 D=some (.lst (((cs.take i).filter bad).map V.int))/\(((cs.take i).filter bad).map V.int).length<ZW/\(((cs.take i).filter bad).map V.int++[y]=((cs.take (i+1)).filter bad).map V.int/\upd H4 D (.lst (((cs.take i).filter bad).map V.int++[y]))=upd H D (.lst (((cs.take i).filter bad).map V.int++[y])))) (V.int (at0 cs i)) (upd H D (.lst (((cs.take i).filter bad).map V.int))):=λh=>by
   refine(bN aB (Xq hlen (!1)) ?_ (by rw[fB]));rw[tk,Yb h,Zt];rfl
  by_cases y1:at0 cs i<1
  ·refine iTb (Ye y1) (iT (yes (by rw[hb,Ye y1];rfl)))
  refine iFb (Yc y1) ?_;by_cases y2:4<at0 cs i
  ·exact iTb (Ye y2) (yes (by rw[hb,Ye y2,Bool.or_true]))
  refine iFb (Yc y2) ?_;rw[tk,Ya (by rw[hb,Yc y1,Yc y2];exact YT),List.append_nil];exact⟨rfl,rfl⟩
 rintro ys H2 ⟨rfl,rfl⟩;have gD:=aC hD (.lst (((cs.take cs.length).filter bad).map V.int));refine⟨(xWP _ (SqL.of (gD _ _ hc)) (!54)),?_⟩;rw[Yv]at gD ⊢;refine⟨!23,λp hp=>?_⟩;have gp:=aC hp (!49);refine(bO _ _ (.lst (SqL.of (gp _ _ aB)) (nX _)) (.lst (SqL.of aB) (nX [])) (shaped_ints _) (shaped_ints []) ?_);have eqb:PyData.eqv (.list ((cs.filter bad).map PyData.int)) (.list (([]:List Int).map PyData.int))=decide (cs.filter bad=[]):=uS _ _;rw[eqb];have g2:=gD.trans gp;generalize upd (upd H D (.lst ((cs.filter bad).map V.int))) p (!49)=H2 at g2;by_cases y1:cs.filter bad=[]
 case neg =>
  refine iTb (by simp[y1]) (iT (no g2 λh=>y1 ?_));rw[List.filter_eq_nil_iff];intro x hx;have:=h.2.2.1 x hx;rw[<-hbad];simp
  lia
 refine iFb (by simp[y1]) ?_;have hcs:∀x∈cs,1<=x/\x<=4:=λx hx=>by
  have:=List.filter_eq_nil_iff.mp y1 x hx;rw[<-hbad]at this;simp at this
  lia
 refine(aO la ls rfl (SqL.of (g2 _ _ hl)) (by lia) (λm3 hm3 hmin3=>?_));by_cases y3:m3<0
 ·exact iTb (Ye y3) (no g2 λh=>by have:=h.2.2.2.1 m3 hm3;lia)
 refine iFb (Yc y3) ?_;have hls:∀x∈ls,0<=x:=λx hx=>by have:=hmin3 x hx;lia
 clear gD gp eqb;refine(cC _ rfl (by lia) (by lia) (cK (lo:=0) (n:=((os.length:Nat):Int).toNat)
  (λi σ H'=>aK H H'/\(∀p,p<i->MM.su (MM.row os p) (λe=>at0 cs (!46))=4) /\
   ∃o8:Option V,σ=[some (.ref wa),some (vn o),some (.ref sa),some (.ref ca),some (.ref la),some (vn os.length),some (.ref tA),some (.ref oA),o8,none,none])
  (xPP g2 (λp hp=>Yg hp (by lia)) ⟨ _,rfl⟩) ?_ ?_))
 ·rintro i σ H3 hi ⟨g3,hk,o8,rfl⟩;have hi':i<os.length:=by lia
  show cS 8 (V.int (0+(i:Int))) _ _ _;rw[Int.zero_add];obtain⟨xs,y,i1,i2,i3,i4⟩:=(g3.os hos).item hi';have hb4:=g.g.four i;refine(aG _ _ (SqL.of i1) i3 ⟨ ⟨_,SqL.of i4⟩,λD hD=>?_⟩);refine bJ (MM.row os i).length (λj=>.int (at0 cs (MM.oth ((MM.row os i).getD j 0)))) hD (by lia) (λj H' hj g'=>(bM _ _ (SqL.of (g' _ _ i4)) (lF hj))) (λH' g'=>(xWP _ (SqL.of (g' _ _ i4)) (!54))) ?_ ?_
  ·rintro j H' x H'' k hj g' ⟨rfl,hx⟩ hk;have ex:=hx _ (SqL.of (g' _ _ i4));rw[lF hj]at ex;cases ex;have hE:=MM.aZ (g.g.ends i _ (getD_mem hj)).1;exact(FD (!13) ((MM.row os i).getD j 0) rfl _ _ (SqL.of (g' _ _ (g3 _ _ hc))) (aQ (by lia) rfl) (hk _ (aK.refl _)))
  intro H4 g4 eD;rw[vO (MM.row os i) (λe=>V.int (at0 cs (!46))),show(MM.row os i).map (λe=>V.int (at0 cs (!46)))=((MM.row os i).map λe=>at0 cs (!46)).map V.int by rw[Ym];rfl]at eD;refine(aG D _ rfl (SqL.of eD) ?_);have es:((MM.row os i).map λe=>at0 cs (!46)).sum=MM.su (MM.row os i) (λe=>at0 cs (!46)):=rfl;rw[es];by_cases z:MM.su (MM.row os i) (λe=>at0 cs (!46))=4
  ·refine iFb (by rw[z];simp) ?_;refine(xPP (g3.trans g4) (λp hp=>?_) ⟨ _,rfl⟩);by_cases e:p=i
   ·subst e;exact z
   ·exact hk p (by lia)
  ·exact iTb (by simp[z]) (no (g3.trans g4) λh=>z (h.2.2.2.2.1 i hi'))
 rintro σ H3 ⟨g3,hk,o8,rfl⟩;rw[Int.toNat_natCast]at hk;refine(bG tA oA ts os rfl (g3.ts hts) (g3.os hos) g (by lia) (λr rr H4 g4 nos=>?_));refine(aM r rfl ⟨_,SqL.of nos.at_⟩ (dJ (xs:=rr.map V.ref)
  (λi σ H'=>aK H4 H'/\(∀(k:Nat) (d:List Nat),k<i->(MM.lls ts os)[k]?=some d->MM.su d (MM.trm (at0 cs) (at0 ls))=if k=o then -4 else 4) /\
   ∃o9 o10:Option V,σ=[some (.ref wa),some (vn o),some (.ref sa),some (.ref ca),some (.ref la),some (vn os.length),some (.ref tA),some (.ref oA),o8,o9,o10])
  (xPP (aK.refl _) (λk d hk=>Yg hk (by lia)) (!44)) (λi σ H' _ h=>SqL.of (h.1 _ _ nos.at_)) ?_ ?_))
 ·rintro i x σ H5 Tp hx ⟨g5,hk5,o9,o10,rfl⟩ hTp;obtain⟨y,hy,rfl⟩:=gR hx;have hil:i<(MM.lls ts os).length:=by rw[<-nos.len];exact(Zj.mp hy).1
  have hli:=Zz hil;obtain⟨y',hy',ey⟩:=nos.row i _ hli;rw[hy]at hy';cases hy';generalize (MM.lls ts os)[i]=d at hli ey;have hdd:=MM.fE g hli;have hd80:d.length<=1000:=by have:=MM.fJ _ _ hdd.1 hdd.2.1;lia
  have g6:=aC hTp (.tup [vn i,.ref y]);have g56:=g5.trans g6;have g06:=(g3.trans g4).trans g56;refine(!31);generalize upd H5 Tp (.tup [vn i,.ref y])=H6 at g56 g06;refine(cR y ca la d cs ls rfl (g56 _ _ ey) (g06 _ _ hc) (bN (g06 _ _ hl) (λx hx=>(xPP (by have:=hdd.2.1 x hx;lia) (by have:=hdd.2.1 x hx;lia) (by have:=MM.aZ (hdd.2.1 x hx);lia))) hd80 (λH7 g7=>?_)));refine(.inr (aM _ rfl (!7) ?_));have ev:(4:Int)-8*(if decide (V.int ((i:Nat):Int)=V.int ((o:Nat):Int))=true then 1 else 0)=if i=o then -4 else 4:=by
   by_cases z:i=o
   ·subst z;simp
   ·have z':¬V.int ((i:Nat):Int)=V.int ((o:Nat):Int):=λh=>z (by have:=V.int.inj h;lia);rw[Yc z',Ya YT,Ya z];rfl
  show If ((!decide (V.int (MM.su d (MM.trm (at0 cs) (at0 ls)))=V.int ((4:Int)-8*(if decide (V.int ((i:Nat):Int)=V.int ((o:Nat):Int))=true then 1 else 0))))) _ _;rw[ev];by_cases z:MM.su d (MM.trm (at0 cs) (at0 ls))=if i=o then -4 else 4
  ·refine iFb (by rw[z];simp) ?_;refine(xPP (g56.trans g7) (λk d' hk' hd'=>?_) (!44));by_cases e:k=i
   ·subst e;rw[hli]at hd';cases hd';exact z
   ·exact hk5 k d' (by lia) hd'
  ·exact iTb (by simp[z]) (no (g06.trans g7) λh=>z (h.2.2.2.2.2 i d hli))
 rintro σ H5 ⟨g5,hk5,o9,o10,rfl⟩;rw[Zq,nos.len]at hk5;have:=q H5 ((g3.trans g4).trans g5);rw[MM.B7 (cN z1 z2 hcs hls hk (λk d hd=>hk5 k d (Zj.mp hd).1 hd))]at this;sleep 19
def F5:Sp:=λvs H Q _=>∃(wa sa c0 l0:Addr) (n o:Nat) (ts:MM.aP) (os:MM.aN) (cs ls:List Int) (c m:Int),vs=[.ref wa,.ref sa,.int c,.int m]/\dB H wa n ts os/\MM.Good ts os/\ts.length<=40/\H sa=some (.tup [.ref c0,.ref l0])/\H c0=some (!28)/\H l0=some (!42) /\
 cs.length=2*ts.length/\ls.length=2*ts.length/\MM.Shp ts os o (at0 cs) (at0 ls)/\0<=m/\m<=20 /\
 ∀(r cA lA:Addr) (cs ls:List Int) (H':Hp),aK H H'->H' r=some (.tup [.ref cA,.ref lA])->H' cA=some (!28)->H' lA=some (!42)->H cA=none->H lA=none->cA≠lA->cs.length=2*ts.length->ls.length=2*ts.length->MM.Shp ts os o (at0 cs) (at0 ls)->Q (.ref r) H'
theorem AJ(T:Txt K mg t):Ok P w base T 79 3 F5:=by
 left
 obtain⟨wa,sa,c0,l0,n,o,ts,os,cs0,ls0,c,m,rfl,hWeb,g,h40,hsa,hc0,hl0,lc0,ll0,shp,hm0,hm1,q⟩:=h;refine(xWP _ (by exists OS (i:=4) (j:=5) rfl nd rfl rfl (!1) rfl rfl ?_ rfl,a8 bL rfl (T.z 7) boot_list ?_,aI,1,a8 bL rfl (T.z 7) boot_list ?_,aI,1,3,6,7,iH,2,aX,6,8,7,4,9,dI,8,10,aJ,(fI ["_law_one","_law_end","_law_web"] [none,some 8,some 0]),4,0,mI ?_,dF,mK,aI,2,aI,2,0,1,0,dF,bS,7,dD ?_ ?_,aX,aJ,5,8,eI ?_ ?_ set_list,5,8,dD ?_ ?_,aX,aJ,5,9,eI ?_ ?_ set_list,5,9,aJ,4,9,dD ?_ ?_,aJ,4,9,eI ?_ ?_ set_list,4,9,dD ?_ ?_,aX,aJ,4,10,eI ?_ ?_ set_list,4,10,11,a8 iB rfl (T.z 4) boot_int ?_,HI,aJ,5,9,dD ?_ ?_,aJ,5,9,11,eI ?_ ?_ set_list,5,9,dD ?_ ?_,aX,aJ,5,8,11,eI ?_ ?_ set_list,5,8,4,5) ?_);sleep 17;refine(aW _ _ (SqT.of hsa) rfl c0 _ rfl (.inl (SqL.of hc0)) (λcA hcA=>?_));have g1:=aC hcA (.lst (cs0.map V.int));refine(aW _ _ (SqT.of (g1 _ _ hsa)) rfl l0 _ rfl (.inl (SqL.of (g1 _ _ hl0))) (λlA hlA=>?_));have g2:=aC hlA (.lst (ls0.map V.int));have ncl:cA≠lA:=aE aB hlA;have hlA0:H lA=none:=g1.free hlA;have eC:=g2 _ _ (aB (H:=H) (a:=cA) (o:=.lst (cs0.map V.int)));have eL:(upd (upd H cA (.lst (cs0.map V.int))) lA (.lst (ls0.map V.int))) lA=some (.lst (ls0.map V.int)):=aB;have g03:=g1.trans g2;generalize upd (upd H cA (.lst (cs0.map V.int))) lA (.lst (ls0.map V.int))=H3 at eC eL g03;clear g1 g2;refine(cC m rfl (by lia) (by lia) (cK (lo:=0) (n:=m.toNat)
  (λi σ H'=>aK H H'/\(∃cs ls:List Int,H' cA=some (!28)/\H' lA=some (!42)/\cs.length=2*ts.length/\ls.length=2*ts.length/\MM.Shp ts os o (at0 cs) (at0 ls)) /\
   ∃o6 o7 o8 o9 o10 o11:Option V,σ=[some (.ref wa),some (.ref sa),some (.int c),some (.int m),some (.ref cA),some (.ref lA),o6,o7,o8,o9,o10,o11])
  (xPP g03 (bO _ _ eC eL lc0 ll0 shp) (pV _ _ _ _ _ _ rfl)) ?_ ?_))
 ·rintro i σ H4 hi ⟨g4,⟨cs,ls,e1,e2,lc,ll,sh⟩,o6,o7,o8,o9,o10,o11,rfl⟩;show cS 6 (V.int (0+(i:Int))) _ _ _;rw[Int.zero_add];refine(aO _ _ rfl (by lia) (by lia) (λp hp0 hp1=>?_));have hl1:=g.one;have lcm:(cs.map V.int).length=2*ts.length:=by rw[Zq];exact lc
  refine(aO cA _ rfl (.inl (SqL.of e1)) (by show(0:Int)<(((cs.map V.int).length:Nat):Int);lia) ?_);obtain⟨e,he,ee⟩:=MM.mL p (n:=(cs.map V.int).length) (by lia);show cS 8 (V.int (p%(((cs.map V.int).length:Nat):Int))) _ _ _;rw[ee];rw[lcm]at he;have heo:=MM.aZ he;refine(xWP e rfl ?_);refine(jB cA _ rfl (.inl (SqL.of e1)) _ rfl (by lia) (by lia) (λD hD=>?_));refine iW ((((cs.map V.int).length:Nat):Int)).toNat (λj ys H'=>ys=vns ((ZS j).filter λx=>decide (MM.behind ts os x=e))/\H'=upd H4 D (.lst ys)) ⟨rfl,rfl⟩ ?_ ?_
  ·rintro j ys H' hj ⟨rfl,rfl⟩;have hj':j<2*ts.length:=by lia
   refine⟨hj,?_⟩;rintro x H'' ⟨rfl,rfl⟩;have gD:=aC hD (.lst (vns ((ZS j).filter λx=>decide (MM.behind ts os x=e))));have gg:=g4.trans gD;have ej:(0:Int)+(j:Int)=(j:Int):=Int.zero_add _;rw[ej];refine(qY (!13) _ _ (SqT.of (gg _ _ hw)) rfl _ _ (SqT.of (gg _ _ hw)) rfl (a7 tA oA ts os j rfl (gg.ts hts) (gg.os hos) g ⟨ hj',?_⟩));have hlen:(vns ((ZS j).filter λx=>decide (MM.behind ts os x=e))).length<=80:=by
    rw[Zq];have:=List.length_filter_le (λx=>decide (MM.behind ts os x=e)) (ZS j);rw[Yj]at this
    lia
   have rs:(ZS (j+1)).filter (λx=>decide (MM.behind ts os x=e))=(ZS j).filter (λx=>decide (MM.behind ts os x=e))++(if MM.behind ts os j=e then [j] else []):=by
    rw[ZI,List.filter_append,List.filter_cons,List.filter_nil];by_cases z:MM.behind ts os j=e<;>simp[z]
   by_cases z:MM.behind ts os j=e
   ·refine iTb (by rw[z];simp) ?_;refine(bN aB (Xq hlen (!1)) ?_ (by rw[fB]));rw[rs,Yb z,jR];rfl
   ·refine iFb (Yc (λh=>z (by have:=V.int.inj h;lia))) ?_;rw[rs,Ya z,List.append_nil];exact⟨rfl,rfl⟩
  rintro ys H5 ⟨rfl,rfl⟩;refine⟨ZC _,?_⟩;have eN:((((cs.map V.int).length:Nat):Int)).toNat=2*ts.length:=by lia
  rw[eN];have gD:=aC hD (.lst (vns ((ZS (!2)).filter λx=>decide (MM.behind ts os x=e))));obtain⟨a0,ha0,hb0⟩:=MM.DU g.maps he;have hmem:a0∈(ZS (!2)).filter λx=>decide (MM.behind ts os x=e):=Yz.mpr ⟨Zs.mpr ha0,by simp[hb0]⟩;have hpos:=List.length_pos_of_mem hmem;have hA:=Yz.mp (getD_mem hpos);have ha:=Zs.mp hA.1;have hb:MM.behind ts os (((ZS (!2)).filter λx=>decide (MM.behind ts os x=e)).getD 0 0)=e:=Yf hA.2;refine(aG _ _ (SqL.of aB) (j6 (j:=0) hpos rfl) ?_);generalize ((ZS (!2)).filter λx=>decide (MM.behind ts os x=e)).getD 0 0=a at ha hb;have g5:=g4.trans gD;have f1:=gD _ _ e1;have f2:=gD _ _ e2;generalize upd H4 D (.lst (vns ((ZS (!2)).filter λx=>decide (MM.behind ts os x=e))))=H5 at g5 f1 f2;have hoe:=MM.AF e;have keepL:∀{H':Hp}{u:HO},aK H H'->aK H (upd H' lA u):=λgg b v h=>by rw[aH (aE h hlA0)];exact gg _ _ h
  have keepC:∀{H':Hp}{u:HO},aK H H'->aK H (upd H' cA u):=λgg b v h=>by rw[aH (aE h hcA)];exact gg _ _ h
  refine(xPP ⟨by decide,by decide⟩ (by show(0:Int)<4;decide) (i2 (λ_=>?_) (λ_=>?_)))
  ·refine(aG _ _ (SqL.of f2) (aQ (j:=e) (by lia) rfl) (aG _ e f2 (dE (!26) rfl) ?_));rw[<-ZH];have f3:(upd H5 lA (.lst ((ls.set e (at0 ls e+1)).map V.int))) lA=some (.lst ((ls.set e (at0 ls e+1)).map V.int)):=aB;refine(aG _ _ (SqL.of f3) (aQ (j:=MM.oth e) (by rw[ZR];lia) rfl) (aG _ (!46) f3 (dE (by rw[Zq,ZR];lia) rfl) ?_));rw[<-ZH,fB];refine(xPP (keepL g5) (bO cs _ (by rw[aH ncl];exact f1) aB lc (by rw[ZR,ZR];exact ll) (MM.DM (e:=e) g sh λz=>?_)) (pV _ _ _ _ _ _ rfl));rw[gH (by rw[ZR];lia),gH (by lia),gH (by lia)];by_cases z1:z=MM.oth e
   ·have z2:¬z=e:=λh=>hoe (by rw[<-z1,h]);rw[Yb z1,Ya hoe,Ya z2,Yb z1,z1];lia
   ·rw[Ya z1,Ya z1];by_cases z2:z=e
    ·rw[Yb z2,Yb z2,z2];lia
    ·rw[Ya z2,Ya z2];lia
  ·refine(aG _ _ (SqL.of f1) (aQ (j:=MM.oth e) (by lia) rfl) (i2 (λhc=>?_) (λ_=>?_)))
   ·have h1:1<at0 cs (!46):=Yf hc;refine(aG _ _ (SqL.of f1) (aQ (j:=MM.oth e) (by lia) rfl) (aG _ (!46) f1 (dE (!26) rfl) ?_));rw[<-ZH];generalize hcs1:cs.set (!46) (at0 cs (!46)-1)=cs1;have l1:cs1.length=2*ts.length:=by rw[<-hcs1,ZR];exact lc
    have f3:(upd H5 cA (.lst (cs1.map V.int))) cA=some (.lst (cs1.map V.int)):=aB;refine(aG _ _ (SqL.of f3) (aQ (j:=a) (by lia) rfl) (aG _ a f3 (dE (!26) rfl) ?_));rw[<-ZH,fB];generalize hcs2:cs1.set a (at0 cs1 a+1)=cs2;have l2:cs2.length=2*ts.length:=by rw[<-hcs2,ZR];exact l1
    have f4:(upd H5 cA (.lst (cs2.map V.int))) lA=some (!42):=by rw[aH (Yh ncl)];exact f2
    have f4c:(upd H5 cA (.lst (cs2.map V.int))) cA=some (.lst (cs2.map V.int)):=aB;have g6:aK H (upd H5 cA (.lst (cs2.map V.int))):=keepC g5;generalize upd H5 cA (.lst (cs2.map V.int))=H6 at f4 f4c g6;refine(aG _ _ (SqL.of f4) (aQ (j:=MM.oth e) (by lia) rfl) (.inr (xWP _ rfl ?_)));generalize hbk:(if decide (0<at0 ls (!46))=true then (1:Int) else 0)=bk;have hbk':bk=if 0<at0 ls (!46) then 1 else 0:=by rw[<-hbk];simp only[decide_eq_true_eq]
    refine(aG _ _ (SqL.of f4) (aQ (j:=MM.oth e) (by lia) rfl) (aG _ (!46) f4 (dE (!26) rfl) ?_));rw[<-ZH];generalize hls1:ls.set (!46) (at0 ls (!46)-bk)=ls1;have l3:ls1.length=2*ts.length:=by rw[<-hls1,ZR];exact ll
    have f5:(upd H6 lA (.lst (ls1.map V.int))) lA=some (.lst (ls1.map V.int)):=aB;refine(aG _ _ (SqL.of f5) (aQ (j:=e) (by lia) rfl) (aG _ e f5 (dE (!26) rfl) ?_));rw[<-ZH,fB];refine(xPP (keepL g6) (bO cs2 _ (by rw[aH ncl];exact f4c) aB l2 (by rw[ZR];exact l3) (MM.vF (e:=e) (a:=a) (b:=bk) g sh he ha hb h1 (λz=>?_) (λz=>?_) hbk')) (pV _ _ _ _ _ _ rfl))
    ·rw[<-hcs2,gH (by lia),<-hcs1,gH (by lia),gH (by lia)];by_cases z1:z=a
     ·rw[Yb z1,Yb z1,z1];by_cases z3:a=MM.oth e
      ·rw[Yb z3,Yb z3,z3]
      ·rw[Ya z3,Ya z3];lia
     ·rw[Ya z1,Ya z1];by_cases z2:z=MM.oth e
      ·rw[Yb z2,Yb z2,z2];lia
      ·rw[Ya z2,Ya z2];lia
    ·rw[gH (by lia),<-hls1,gH (by lia),gH (by lia)];by_cases z1:z=e
     ·have z2:¬z=MM.oth e:=λh=>hoe (by rw[<-h,z1]);rw[Yb z1,Ya (Yh hoe),Yb z1,Ya z2,z1];lia
     ·rw[Ya z1,Ya z1];by_cases z2:z=MM.oth e
      ·rw[Yb z2,Yb z2,z2];lia
      ·rw[Ya z2,Ya z2];lia
   ·exact(xPP g5 (bO cs ls f1 f2 lc ll sh) (pV _ _ _ _ _ _ rfl))
 rintro σ H4 ⟨g4,⟨cs,ls,e1,e2,lc,ll,sh⟩,o6,o7,o8,o9,o10,o11,rfl⟩;refine⟨!9,λr hr'=>?_⟩;have gr:=aC hr' (.tup [.ref cA,.ref lA]);exact q r cA lA cs ls _ (g4.trans gr) aB (gr _ _ e1) (gr _ _ e2) hcA hlA0 ncl lc ll sh
end K27
namespace L2
theorem oS{α β:Type}(f:α->β):∀(l:List α) (k:Nat),(l.map f).eraseIdx k=(l.eraseIdx k).map f
 |[],_=>rfl
 |_::_,0=>rfl
 |x::l,k+1=>by
  show f x::(l.map f).eraseIdx k=f x::(l.eraseIdx k).map f;rw[oS f l k]
end L2
namespace K27
open PySem L2 PyProof.Rows
def OH:Sp:=λvs H Q _=>∃(sa ca la:Addr) (cs ls:List Int) (n:Nat) (pick:Int),vs=[.ref sa,.int pick]/\H sa=some (.tup [.ref ca,.ref la])/\H ca=some (!28)/\H la=some (!42)/\cs.length=2*n/\ls.length=2*n/\0<n/\n<=40 /\
 ∀(r xA yA:Addr) (xs ys:List Int) (H':Hp),aK H H'->H' r=some (.tup [.ref xA,.ref yA])->H' xA=some (.lst (xs.map V.int))->H' yA=some (.lst (ys.map V.int))->Q (.ref r) H'
theorem HW(T:Txt K mg t):Ok P w base T 88 2 OH:=by
 left
 obtain⟨sa,ca,la,cs,ls,n,pick,rfl,hsa,hc,hl,lc,ll,hN,hN40,q⟩:=h;refine(xWP _ (by exists 2,a8 bL rfl (T.z 7) boot_list ?_,aI,0,a8 bL rfl (T.z 7) boot_list ?_,aI,0,3,aJ,2,1,4,bS,1,3,5,bS,1,dF,5,dD ?_ ?_,aX,aJ,aJ,2,4,eI ?_ ?_ set_list,aJ,2,4,dD ?_ ?_,aX,aJ,aJ,2,dI,4,eI ?_ ?_ set_list,aJ,2,dI,4,dF,5,dD ?_ ?_,aX,aJ,3,4,eI ?_ ?_ set_list,3,4,dF,5,dD ?_ ?_,aJ,3,4,eI ?_ ?_ set_list,3,4,dF,5,iU YO PySem.F.slot_list_pop PySem.F.type_list_pop x6 ?_ ?_,3,4,aJ,2,aJ,2) ?_);refine(aW _ _ (SqT.of hsa) rfl ca _ rfl (.inl (SqL.of hc)) (λaA haA=>?_));have g1:=aC haA (!28);refine(aW _ _ (SqT.of (g1 _ _ hsa)) rfl la _ rfl (.inl (SqL.of (g1 _ _ hl))) (λbA hbA=>?_));have g2:=aC hbA (!42);refine⟨!9,λra hra=>?_⟩;have g3:=aC hra (.lst [.ref aA,.ref bA]);have nab:aA≠bA:=aE aB hbA;have eA:=g3 _ _ (g2 _ _ (aB (H:=H) (a:=aA) (o:=.lst (cs.map V.int))));have eB:=g3 _ _ (aB (H:=upd H aA (!28)) (a:=bA) (o:=.lst (ls.map V.int)));have eR:(upd (upd (upd H aA (!28)) bA (!42)) ra (.lst [.ref aA,.ref bA])) ra=some (.lst [.ref aA,.ref bA]):=aB;have nra:ra≠aA/\ra≠bA:=⟨(aE (g2 _ _ aB) hra).symm,(aE aB hra).symm⟩
 have g03:=(g1.trans g2).trans g3;have hbA0:=g1.free hbA;generalize upd (upd (upd H aA (!28)) bA (!42)) ra (.lst [.ref aA,.ref bA])=H3 at eA eB eR g03;clear g1 g2 g3 hra hbA;have keep:∀(x:Addr) (H':Hp) (xs ys:List Int) (zs:List Int),(x=aA\/x=bA)->aK H H'/\H' ra=some (.lst [.ref aA,.ref bA])/\H' aA=some (.lst (xs.map V.int))/\H' bA=some (.lst (ys.map V.int)) ->
   aK H (upd H' x (.lst (zs.map V.int)))/\(upd H' x (.lst (zs.map V.int))) ra=some (.lst [.ref aA,.ref bA])/\(upd H' x (.lst (zs.map V.int))) aA=some (.lst ((if x=aA then zs else xs).map V.int))/\(upd H' x (.lst (zs.map V.int))) bA=some (.lst ((if x=bA then zs else ys).map V.int)):=by
  rintro x H' xs ys zs hx ⟨k1,k2,k3,k4⟩;have hx0:H x=none:=by rcases hx with rfl | rfl<;>assumption
  have hxr:ra≠x:=hx.elim (λe=>e▸nra.1) (λe=>e▸nra.2);refine(bN (λb u h=>by rw[aH (aE h hx0)];exact k1 _ _ h) (by rw[aH hxr];exact k2) ?_ ?_)
  ·by_cases e:x=aA
   ·rw[Yb e,e];exact aB
   ·rw[Ya e,aH (Yh e)];exact k3
  ·by_cases e:x=bA
   ·rw[Yb e,e];exact aB
   ·rw[Ya e,aH (Yh e)];exact k4
 obtain⟨rA,sel,hix⟩:∃(rA:Addr),(rA=aA\/rA=bA)/\atI [V.ref aA,V.ref bA] (pick%2)=some (.ref rA):=by
  have h2:pick%2=0\/pick%2=1:=by lia
  rcases h2 with h2 | h2
  ·exact(xWP aA (.inl rfl) (by rw[h2];rfl))
  ·exact(xWP bA (.inr rfl) (by rw[h2];rfl))
 have row:∀{H':Hp}{xs ys:List Int},H' aA=some (.lst (xs.map V.int))->H' bA=some (.lst (ys.map V.int))->xs.length=2*n->ys.length=2*n->∃zs:List Int,H' rA=some (.lst (zs.map V.int))/\zs.length=2*n:=λh1 h2 l1 l2=>by
  rcases sel with rfl | rfl
  ·exact(xWP _ h1 l1)
  ·exact(xWP _ h2 l2)
 refine(eQ (by show(0:Int)<2;decide) _ _ (SqL.of eR) hix ?_);obtain⟨xs0,eX,lX⟩:=row eA eB lc ll;refine(lD ⟨by decide,by decide⟩ rA _ rfl (.inl (SqL.of eX)) (by show(0:Int)<(((xs0.map V.int).length:Nat):Int);rw[Zq];lia) ?_);obtain⟨at_,hat,eat⟩:=MM.mL (pick / 2) (n:=(xs0.map V.int).length) (!26);rw[Zq,lX]at hat;show cS 4 (V.int (pick / 2%(((xs0.map V.int).length:Nat):Int))) _ _ _;rw[eat];refine(xPP ⟨by decide,by decide⟩ (by show(0:Int)<6;decide) ?_);show cS 5 (V.int (pick / 64%6)) _ _ _;generalize pick / 64%6=way;dsimp only[cS];clear eat hix eX lX xs0;have base0:aK H H3/\H3 ra=some (.lst [.ref aA,.ref bA])/\∃xs ys:List Int,H3 aA=some (.lst (xs.map V.int))/\H3 bA=some (.lst (ys.map V.int))/\xs.length=2*n/\ys.length=2*n:=(FG g03 eR cs ls eA eB lc ll)
 generalize H3=H4 at base0;clear g03 eR eA eB;have len:∀{x y:Addr}{zs xs:List Int},zs.length=2*n->xs.length=2*n->(if x=y then zs else xs).length=2*n:=λ{x y zs xs} h1 h2=>by by_cases e:x=y<;>simp[e,h1,h2]
 let J:L2.St->Hp->Prop:=λσ' H'=>σ'=[some (.ref sa),some (.int pick),some (.ref ra),some (.ref rA),some (vn at_),some (.int way)]/\aK H H'/\H' ra=some (.lst [.ref aA,.ref bA])/\∃xs ys:List Int,H' aA=some (.lst (xs.map V.int))/\H' bA=some (.lst (ys.map V.int))/\xs.length=2*n/\ys.length=2*n
 refine via J (λnx=>?_) ?_
 ·obtain⟨k1,k2,xs,ys,k3,k4,k5,k6⟩:=base0;refine i2 (λ_=>?_) (λ_=>nx _ _ (hV rfl k1 k2 xs ys k3 k4 k5 k6));refine(aG _ _ (SqL.of k2) rfl (aG _ _ (SqL.of k4) (aQ (j:=at_) (by lia) rfl) (aG _ _ (SqL.of k2) rfl (aG _ at_ k4 (dE (!26) rfl) ?_))));rw[<-ZH];obtain⟨m1,m2,m3,m4⟩:=keep bA H4 xs ys (ys.set at_ (at0 ys at_+1)) (.inr rfl) (bN k1 k2 k3 k4);rw[Yb rfl]at m4;rw[Ya (Yh nab)]at m3;generalize upd H4 bA (.lst ((ys.set at_ (at0 ys at_+1)).map V.int))=H5 at m1 m2 m3 m4 ⊢;have l1:(ys.set at_ (at0 ys at_+1)).length=2*n:=by rw[ZR];exact k6
  generalize ys.set at_ (at0 ys at_+1)=ys1 at m4 l1;have ho:=MM.aZ hat;refine(iP _ _ (SqL.of m2) rfl at_ rfl (aG _ _ (SqL.of m4) (aQ (j:=MM.oth at_) (by lia) rfl) (iP _ _ (SqL.of m2) rfl at_ rfl (aG _ (MM.oth at_) m4 (dE (!26) rfl) ?_))));rw[<-ZH];obtain⟨o1,o2,o3,o4⟩:=keep bA H5 xs ys1 (ys1.set (MM.oth at_) (at0 ys1 (MM.oth at_)+1)) (.inr rfl) (bN m1 m2 m3 m4);exact nx _ _ (hV rfl o1 o2 _ _ o3 o4 (len (by rw[ZR];exact l1) k5) (len (by rw[ZR];exact l1) l1))
 clear base0;rintro σ1 H5 ⟨rfl,k1,k2,xs,ys,k3,k4,k5,k6⟩;refine via J (λnx=>?_) ?_
 ·refine i2 (λ_=>?_) (λ_=>nx _ _ (hV rfl k1 k2 xs ys k3 k4 k5 k6));obtain⟨zs,e,le⟩:=row k3 k4 k5 k6;refine(aG _ _ (SqL.of e) (aQ (j:=at_) (by lia) rfl) (aG _ at_ e (dE (!26) rfl) ?_));rw[<-ZH];obtain⟨m1,m2,m3,m4⟩:=keep rA H5 xs ys (zs.set at_ (at0 zs at_+1)) sel (bN k1 k2 k3 k4);exact nx _ _ (hV rfl m1 m2 _ _ m3 m4 (len (by rw[ZR];exact le) k5) (len (by rw[ZR];exact le) k6))
 clear k1 k2 k3 k4 k5 k6 xs ys;rintro σ1 H6 ⟨rfl,k1,k2,xs,ys,k3,k4,k5,k6⟩;refine via J (λnx=>?_) ?_
 ·refine i2 (λ_=>?_) (λ_=>nx _ _ (hV rfl k1 k2 xs ys k3 k4 k5 k6));obtain⟨zs,e,le⟩:=row k3 k4 k5 k6;refine(aG _ _ (SqL.of e) (aQ (j:=at_) (by lia) rfl) (aG _ at_ e (dE (!26) rfl) ?_));rw[<-ZH];obtain⟨m1,m2,m3,m4⟩:=keep rA H6 xs ys (zs.set at_ (at0 zs at_-1)) sel (bN k1 k2 k3 k4);exact nx _ _ (hV rfl m1 m2 _ _ m3 m4 (len (by rw[ZR];exact le) k5) (len (by rw[ZR];exact le) k6))
 clear k1 k2 k3 k4 k5 k6 xs ys;rintro σ1 H7 ⟨rfl,k1,k2,xs,ys,k3,k4,k5,k6⟩;refine via (λσ' H'=>σ'=[some (.ref sa),some (.int pick),some (.ref ra),some (.ref rA),some (vn at_),some (.int way)]/\aK H H'/\H' ra=some (.lst [.ref aA,.ref bA])/\∃xs ys:List Int,H' aA=some (.lst (xs.map V.int))/\H' bA=some (.lst (ys.map V.int))) (λnx=>?_) ?_
 ·refine i2 (λ_=>?_) (λ_=>nx _ _ (BN rfl k1 k2 xs ys k3 k4));obtain⟨zs,e,le⟩:=row k3 k4 k5 k6;refine(mC (.inl ⟨rfl,_,SqL.of e⟩) _ _ at_ _ rfl e (by lia) (by lia) (xPP (by rw[seqIndex_of (by lia) (!26)];rfl) (bX (by lia)) ?_));rw[oS];obtain⟨m1,m2,m3,m4⟩:=keep rA H7 xs ys (zs.eraseIdx at_) sel (bN k1 k2 k3 k4);exact nx _ _ (BN rfl m1 m2 _ _ m3 m4)
 clear k1 k2 k3 k4 k5 k6 xs ys;rintro σ1 H8 ⟨rfl,k1,k2,xs,ys,k3,k4⟩;refine(bP _ _ (SqL.of k2) rfl _ _ (SqL.of k2) rfl (!9) (λr hr1=>?_));have gr:=aC hr1 (.tup [.ref aA,.ref bA]);exact q r _ _ xs ys _ (k1.trans gr) aB (gr _ _ k3) (gr _ _ k4)
theorem IU(gs:List Int)(i:Nat)(x:Int):aU (gs.map V.int) i (.int x)=(aU gs i x).map V.int:=by unfold aU;simp[List.map_take,List.map_drop]
def GA:Sp:=λvs H Q _=>∃(pa:Addr) (ps:List Int) (pick:Int),vs=[.ref pa,.int pick]/\H pa=some (!12)/\0<ps.length/\ps.length<=1000 /\
 ∀(r:Addr) (xs:List Int) (H':Hp),aK H H'->H' r=some (.lst (xs.map V.int))->Q (.ref r) H'
theorem sH(T:Txt K mg t):Ok P w base T 89 1 GA:=by
 left
 obtain⟨pa,ps,pick,rfl,hp,h0,hn,q⟩:=h;refine(xWP _ (by exists 2,a8 bL rfl (T.z 7) boot_list ?_,0,3,1,2,4,bS,1,4,dD ?_ ?_,aX,aJ,2,3,4,eI ?_ ?_ set_list,2,3,dF,4,iU YO PySem.F.slot_list_pop PySem.F.type_list_pop x6 ?_ ?_,2,3,dF,4,iU YO PySem.F.slot_list_insert PySem.F.type_list_insert hZ ?_ ?_,2,3,bS,1,dF,4,(fH 2 ["_law_price"] [none]),bE ?_,2,0,aX,0,vR,dF,4,(fH 2 ["_law_price"] [none]),bE ?_,2,0,dF,4,(fH 2 ["_law_price"] [none]),bE ?_,2,0,0,2) ?_);refine(aG pa _ rfl (.inl (SqL.of hp)) (λtA htA=>?_));have g1:=aC htA (!12);have e1:(upd H tA (!12)) tA=some (!12):=aB;generalize upd H tA (!12)=H1 at g1 e1;refine(aO tA _ rfl (.inl (SqL.of e1)) (by show(0:Int)<(((ps.map V.int).length:Nat):Int);rw[Zq];lia) ?_);obtain⟨at_,hat,eat⟩:=MM.mL pick (n:=(ps.map V.int).length) (!26);rw[Zq]at hat;show cS 3 (V.int (pick%(((ps.map V.int).length:Nat):Int))) _ _ _;rw[eat];refine(xPP ⟨by decide,by decide⟩ (by show(0:Int)<10;decide) ?_);show cS 4 (V.int (pick / 32%10)) _ _ _;generalize pick / 32%10=way;dsimp only[cS]
 let J:Nat->Nat->L2.St->Hp->Prop:=λa b σ' H'=>∃(r:Addr) (xs:List Int),σ'=[some (.ref pa),some (.int pick),some (.ref r),some (vn at_),some (.int way)]/\aK H H'/\H r=none/\H' r=some (.lst (xs.map V.int))/\a<=xs.length/\xs.length<=b
 have put:∀{r:Addr}{H':Hp}{zs:List Int},aK H H'->H r=none->aK H (upd H' r (.lst (zs.map V.int))):=λ{r H' zs} g h b u z=>by rw[aH (aE z h)];exact g _ _ z
 refine via (J ps.length ps.length) (λnx=>?_) ?_
 ·refine i2 (λ_=>?_) (λ_=>nx _ _ (cG tA ps rfl g1 htA e1 (ZC _) (ZC _)));refine(aG _ _ (SqL.of e1) (aQ (j:=at_) hat rfl) (eQ (!7) _ at_ e1 (dE (!26) rfl) ?_));rw[<-ZH];exact nx _ _ (cG tA _ rfl (put g1 htA) htA aB (by rw[ZR];exact ZC _) (by rw[ZR];exact ZC _))
 clear g1 e1 htA;rintro σ1 H2 ⟨r,xs,rfl,g1,h1,e1,l1,l2⟩;refine via (J (ps.length-1) ps.length) (λnx=>?_) ?_
 ·refine i2 (λ_=>?_) (λ_=>nx _ _ (cG r xs rfl g1 h1 e1 (by lia) l2));refine(mC (.inl ⟨rfl,_,SqL.of e1⟩) _ _ at_ _ rfl e1 (by lia) (by lia) (xPP (by rw[seqIndex_of (by lia) (!26)];rfl) (bX (by lia)) ?_));rw[oS];have le:=List.length_eraseIdx_of_lt (l:=xs) (i:=at_) (by lia);exact nx _ _ (cG r _ rfl (put g1 h1) h1 aB (by lia) (by lia))
 clear g1 e1 h1 l1 l2;clear xs;rintro σ1 H3 ⟨r,xs,rfl,g1,h1,e1,l1,l2⟩;refine via (J 0 2000) (λnx=>?_) ?_
 ·refine i2 (λ_=>?_) (λ_=>nx _ _ (cG r xs rfl g1 h1 e1 (by lia) (by lia)));refine(zJ (.inl ⟨rfl,_,SqL.of e1⟩) ⟨by decide,by decide⟩ (by show(0:Int)<3;decide) _ at_ _ rfl e1 (!26) ⟨ Xq (by rw[Zq];exact l2) (Xq hn (!1)),?_⟩);rw[IU];exact nx _ _ (cG r _ rfl (put g1 h1) h1 aB (by lia) (by unfold aU;simp;omega))
 clear g1 e1 h1 l1 l2;clear xs;have cmp:∀(f:Int->Int) (D:Addr) (H' H4:Hp) (xs:List Int),aK H H'->aK H' H4->H' D=none->H4 D=some (.lst ((ZS xs.length).map λk=>V.int (f (at0 xs k))))->xs.length<=2000->J 0 2000 [some (.ref pa),some (.int pick),some (.ref D),some (vn at_),some (.int way)] H4:=λf D H' H4 xs g g' hD e l =>
  (cG D ((ZS xs.length).map λk=>f (at0 xs k)) rfl (g.trans g') (g.free hD) (by rw[e,Ym];rfl) (YZ _) (by simpa using l))
 have p30:NB 10 30:=(xPP (!1) (!1) (!1))
 rintro σ1 H4 ⟨r,xs,rfl,g1,h1,e1,l1,l2⟩;refine via (J 0 2000) (λnx=>?_) ?_
 ·refine i2 (λ_=>?_) (λ_=>nx _ _ (cG r xs rfl g1 h1 e1 l1 l2));refine⟨⟨_,SqL.of e1⟩,λD hD=>?_⟩;refine bJ xs.length (λi=>.int (at0 xs i+10 ^ 30)) hD (by lia) (λi H' hi g'=>(bM _ _ (SqL.of (g' _ _ e1)) (bX hi))) (λH' g'=>(xWP _ (SqL.of (g' _ _ e1)) (!54))) ?_ ?_
  ·rintro i H' x H'' k hi g' ⟨rfl,hx⟩ hk;have ex:=hx _ (SqL.of (g' _ _ e1));rw[bX hi]at ex;cases ex;exact(xPP (!13) p30 (hk _ (aK.refl _)))
  intro H5 g5 eD;exact nx _ _ (cmp (λz=>z+10 ^ 30) D H4 H5 xs g1 g5 hD eD l2)
 clear g1 e1 h1 l1 l2;clear xs;rintro σ1 H5 ⟨r,xs,rfl,g1,h1,e1,l1,l2⟩;refine via (J 0 2000) (λnx=>?_) ?_
 ·refine i2 (λ_=>?_) (λ_=>nx _ _ (cG r xs rfl g1 h1 e1 l1 l2));refine⟨⟨_,SqL.of e1⟩,λD hD=>?_⟩;refine bJ xs.length (λi=>.int 0) hD (by lia) (λi H' hi g'=>(bM _ _ (SqL.of (g' _ _ e1)) (bX hi))) (λH' g'=>(xWP _ (SqL.of (g' _ _ e1)) (!54))) ?_ ?_
  ·rintro i H' x H'' k hi g' ⟨rfl,hx⟩ hk;exact(!33)
  intro H5' g5 eD;exact nx _ _ (cmp (λ_=>0) D H5 H5' xs g1 g5 hD eD l2)
 clear g1 e1 h1 l1 l2;clear xs;rintro σ1 H6 ⟨r,xs,rfl,g1,h1,e1,l1,l2⟩;refine via (J 0 2000) (λnx=>?_) ?_
 ·refine i2 (λ_=>?_) (λ_=>nx _ _ (cG r xs rfl g1 h1 e1 l1 l2));refine⟨⟨_,SqL.of e1⟩,λD hD=>?_⟩;refine bJ xs.length (λi=>.int (0-at0 xs i)) hD (by lia) (λi H' hi g'=>(bM _ _ (SqL.of (g' _ _ e1)) (bX hi))) (λH' g'=>(xWP _ (SqL.of (g' _ _ e1)) (!54))) ?_ ?_
  ·rintro i H' x H'' k hi g' ⟨rfl,hx⟩ hk;have ex:=hx _ (SqL.of (g' _ _ e1));rw[bX hi]at ex;cases ex;exact(!33)
  intro H7 g7 eD;exact nx _ _ (cmp (λz=>0-z) D H6 H7 xs g1 g7 hD eD l2)
 clear g1 e1 h1 l1 l2;clear xs;rintro σ1 H7 ⟨r,xs,rfl,g1,h1,e1,l1,l2⟩;exact q r xs _ g1 e1
end K27
namespace K27
open PySem L2 PyProof.Rows NM
theorem GV{z:Option Int}{c:Int}{H:Hp}{Q:VK}(h:Q (.bl (decide (vo z=V.int c))) H):rEq (vo z) (.int c) H Q:=by cases z<;>exact h
noncomputable def bdO(ts:MM.aP)(os:MM.aN)(o:Nat)(nm:List Nat)(ws:List Int)(bs ss:List (!18))(ps:List Int):Option Int:=if ps.length=(!37).length then bnd (due ps) (!43) (dot ps (!37) (!37).length) else none
def QN(ts:MM.aP)(os:MM.aN)(o:Nat)(ws:List Int)(bs ss:List (!18))(cs ls ps:List Int):Prop:=MM.nW ts os o cs ls/\pE bs ss cs ls ts.length/\∃nm,dZ ts os nm/\bdO ts os o nm ws bs ss ps=some (costOf ws ls ts.length)
open Classical in
noncomputable def A7(ts:MM.aP)(os:MM.aN)(o:Nat)(ws:List Int)(bs ss:List (!18))(cs ls ps:List Int):Bool:=decide (QN ts os o ws bs ss cs ls ps)
section
variable{ts:MM.aP}{os:MM.aN}{o:Nat}{nm:List Nat}{ws:List Int}{bs ss:List (!18)}{cs ls ps:List Int}
open Classical in
theorem JH(h:QN ts os o ws bs ss cs ls ps):A7 ts os o ws bs ss cs ls ps=true:=by unfold A7;exact Ye h
open Classical in
theorem sY(h:¬QN ts os o ws bs ss cs ls ps):A7 ts os o ws bs ss cs ls ps=false:=by unfold A7;exact Yc h
theorem wK(g:MM.Good ts os)(hn:dZ ts os nm)(s:MM.shB ts os o cs ls=true)(k:j4 bs ss cs ls ts.length=true):decide (vo (bdO ts os o nm ws bs ss ps)=V.int (costOf ws ls ts.length))=A7 ts os o ws bs ss cs ls ps:=by
 have s':MM.nW ts os o cs ls:=ZT λz=>by rw[MM.uC z]at s;cases s
 have k':pE bs ss cs ls ts.length:=ZT λz=>by rw[kS z]at k;cases k
 by_cases e:bdO ts os o nm ws bs ss ps=some (costOf ws ls ts.length)
 ·rw[JH (kA s' k' nm hn e),e];exact Ye rfl
 ·rw[sY (λz=>by obtain⟨_,_,nm',h1,h2⟩:=z;cases hn.uniq g h1;exact e h2)];refine Yc λz=>e ?_;cases h:bdO ts os o nm ws bs ss ps with
  |none=>rw[h]at z;cases z
  |some y=>rw[h]at z;cases z;rfl
theorem B8(g:MM.Good ts os)(tl:ts.length<=40)(l1:ws.length=ts.length)(l2:bs.length=ts.length)(l3:ss.length=2*ts.length)(ok:pS ws bs ss)(s:MM.shB ts os o cs ls=true):Fit ts.length ws bs ss cs ls:=by
 have s':MM.nW ts os o cs ls:=ZT λz=>by rw[MM.uC z]at s;cases s
 exact⟨l1,l2,l3,s'.1,s'.2.1,by lia,ok.w⟩
end
def S8:Sp:=λvs H Q _=>∃(wa p wA bA sA pa:Addr) (o:Nat) (ts:MM.aP) (os:MM.aN) (ws:List Int) (bs ss:List (!18)) (ps:List Int),vs=[.ref wa,vn o,.ref p,.ref pa]/\dB H wa os.length ts os/\MM.Good ts os/\MM.Flat ts os/\ts.length<=40/\os.length<=40/\o<(!19).length/\jM H p wA bA sA ws bs ss/\ws.length=ts.length/\bs.length=ts.length/\ss.length=2*ts.length/\pS ws bs ss/\H pa=some (!12) /\
 ∀nm H',dZ ts os nm->aK H H'->Q (vo (bdO ts os o nm ws bs ss ps)) H'
theorem RQ(T:Txt K mg t):Ok P w base T 64 9 S8:=by
 have G_bound:=IC (P:=P) (w:=w) (base:=base) T (xX T) (HU T (qI T))
 left
 obtain⟨wa,p,wA,bA,sA,pa,o,ts,os,ws,bs,ss,ps,rfl,hweb,hg,hF,t40,o40,ho,hW,l1,l2,l3,hok,hp,q⟩:=h;refine(xWP _ (by exists 4,xT,0,1,2,fX,3,aI,4,cX G_bound hr (T.f 44) bR ?_,4,3) ?_);refine(aR wa p wA bA sA os.length o ts os (fG ws bs ss rfl hweb hg t40 o40 ho (bK hW l1 l2 l3 (λrn na wl nm H1 g1 _ _ _ hnum hN=>?_))));obtain⟨nok,nlen,wlen⟩:=sJ hg hF t40 ho hnum l1 hok (bs:=bs) (ss:=ss);refine(aW pa _ rfl (.inl (SqL.of (g1 _ _ hp))) _ _ (SqT.of hN.tp) rfl (aG na _ rfl (.inl (SqL.of hN.n)) ?_));by_cases hl:ps.length=(!37).length
 ·refine iFb (by rw[Zq,Zq,hl];simp) ?_;refine(bW rn na wl pa _ _ ps rfl hN (bN nok (g1 _ _ hp) hl (λH2 g2=>?_)));have:=q nm _ hnum (g1.trans g2);unfold bdO at this;rw[Yb hl]at this;rw[oZ (f:=least ps) (g:=due ps) _ _ λw hw=>uP ps w λh e=>((nok.w w hw).hi h e).1];sleep 19
 ·refine iTb (by rw[Zq,Zq];simp;lia) ?_;have:=q nm _ hnum g1;unfold bdO at this;rw[Ya hl]at this;sleep 19
def NJ:Sp:=λvs H Q _=>∃(wa p wA bA sA sh cA lA pa:Addr) (o:Nat) (ts:MM.aP) (os:MM.aN) (ws:List Int) (bs ss:List (!18)) (cs ls ps:List Int),vs=[.ref wa,vn o,.ref p,.ref sh,.ref pa]/\dB H wa os.length ts os/\MM.Good ts os/\MM.Flat ts os/\ts.length<=40/\os.length<=40/\o<(!19).length/\jM H p wA bA sA ws bs ss/\ws.length=ts.length/\bs.length=ts.length/\ss.length=2*ts.length/\pS ws bs ss/\nS H sh cA lA cs ls/\H pa=some (!12) /\
 ∀H',aK H H'->Q (.bl (A7 ts os o ws bs ss cs ls ps)) H'
theorem HK(T:Txt K mg t):Ok P w base T 63 10 NJ:=by
 have G_keeps:=HY (P:=P) (w:=w) (base:=base) T (xS T);have G_cost:=MB (P:=P) (w:=w) (base:=base) T (xS T)
 left
 sleep 5;refine(xWP _ (by exists bT ?_ (λ_=>rfl),AM,0,1,3,bT ?_ (λ_=>rfl),cX G_keeps hr (T.f 57) bR ?_,2,3,dF,RQ,0,1,2,4,cX G_cost hr (T.f 58) bR ?_,2,3) ?_);refine(aR wa sh cA lA o ts os cs ls (jD rfl hweb hg t40 o40 hS.tp hS.c hS.l (λH1 g1=>?_)));cases hs:MM.shB ts os o cs ls with
 |false =>
  refine(xWP _ rfl (iTb (by rfl) (iTb (by rfl) ?_)));have:=q _ g1;rw[sY (λz=>by rw[MM.B7 z.1]at hs;cases hs)]at this;sleep 19
 |true =>
  have hft:=B8 hg t40 l1 l2 l3 hok hs;refine(xWP _ rfl (iFb (by rfl) ?_));refine(aR p wA bA sA sh cA lA ts.length ws (aV bs ss cs ls rfl (hW.mono g1) (hS.mono g1) hft (λH2 g2=>?_)));have g12:=g1.trans g2;cases hk:j4 bs ss cs ls ts.length with
  |false =>
   refine(xWP _ rfl (iTb (by rfl) ?_));have:=q _ g12;rw[sY (λz=>by rw[nI z.2.1]at hk;cases hk)]at this;sleep 19
  |true =>
   refine(xWP _ rfl (iFb (by rfl) ?_));refine(aR wa p wA bA sA pa o ts os (bG ws bs ss ps rfl (hweb.mono g12) hg hF t40 (jD o40 ho (hW.mono g12) l1 l2 l3 hok (g12 _ _ hp) (λnm H3 hn g3=>?_))));have g13:=g12.trans g3;refine(aR p wA bA sA sh cA lA ts.length ws (aV bs ss cs ls rfl (hW.mono g13) (hS.mono g13) hft (λH4 g4=>?_)));have:=q _ (g13.trans g4);rw[<-wK hg hn hs hk]at this;exact GV this
theorem CJ(T:Txt K mg t):Ok P w base T 87 10 NJ:=by
 left
 sleep 5;refine(xWP _ (by exists bT ?_ (λ_=>rfl),xV,0,1,3,bT ?_ (λ_=>rfl),EI,2,3,5,EH,0,1,2,AE ?_ ?_,dF,4,aI,5,vQ ?_,dF,EJ,5,4,HV,2,3) ?_);refine(aR wa sh cA lA o ts os cs ls (jD rfl hweb hg t40 o40 hS.tp hS.c hS.l (λH1 g1=>?_)));cases hs:MM.shB ts os o cs ls with
 |false =>
  refine(xWP _ rfl (iTb (by rfl) (iTb (by rfl) ?_)));have:=q _ g1;rw[sY (λz=>by rw[MM.B7 z.1]at hs;cases hs)]at this;sleep 19
 |true =>
  have hft:=B8 hg t40 l1 l2 l3 hok hs;refine(xWP _ rfl (iFb (by rfl) ?_));refine(aR p wA bA sA sh cA lA ts.length ws (aV bs ss cs ls rfl (hW.mono g1) (hS.mono g1) hft (λH2 g2=>?_)));have g12:=g1.trans g2;cases hk:j4 bs ss cs ls ts.length with
  |false =>
   refine(xWP _ rfl (iTb (by rfl) ?_));have:=q _ g12;rw[sY (λz=>by rw[nI z.2.1]at hk;cases hk)]at this;sleep 19
  |true =>
   refine(xWP _ rfl (iFb (by rfl) ?_));refine(aR wa p wA bA sA os.length o ts os (fG ws bs ss rfl (hweb.mono g12) hg t40 o40 ho (bK (hW.mono g12) l1 l2 l3 (λrn na wl nm H3 g3 hn hN=>?_))));obtain⟨nok,nlen,wlen⟩:=sJ hg hF t40 ho hn l1 hok (bs:=bs) (ss:=ss);have g13:=g12.trans g3;refine(aW pa _ rfl (.inl (SqL.of (g13 _ _ hp))) _ _ (SqT.of hN.tp) rfl (aG na _ rfl (.inl (SqL.of hN.n)) ?_));by_cases hl:ps.length=(!37).length
   ·refine iTb (by rw[Zq,Zq,hl];exact Ye rfl) ?_;refine(bW rn na wl pa _ _ ps rfl hN (bN nok (g13 _ _ hp) hl (λH4 g4=>?_)));have g14:=g13.trans g4;refine(aR p wA bA sA sh cA lA ts.length ws (aV bs ss cs ls rfl (hW.mono g14) (hS.mono g14) hft (λH5 g5=>?_)));have:=q _ (g14.trans g5);rw[<-wK hg hn hs hk]at this;unfold bdO at this;rw[Yb hl]at this;exact GV this
   ·have e:decide (V.int (((ps.map V.int).length:Nat):Int)=V.int ((((!37).map V.int).length:Nat):Int))=false:=by
     rw[Zq,Zq];exact Yc λz=>hl (by have:=V.int.inj z;lia)
    refine iFb e ?_;have:=q _ g13;rw[<-wK hg hn hs hk]at this;unfold bdO at this;rw[Ya hl]at this;sleep 19
def dH4(n:Nat)(ts:MM.aP)(os:MM.aN)(ws:List Int)(bs ss:List (!18))(cs ls ps:List Int):PyData:=.tuple [dW n ts os,.tuple [.list (ws.map PyData.int),.list (bs.map dvo),.list (ss.map dvo)],.tuple [.list (cs.map PyData.int),.list (ls.map PyData.int)],.list (ps.map PyData.int)]
theorem NW{H:Hp}{h wa p wA bA sA sh cA lA pa:Addr}{n:Nat}{ts:MM.aP}{os:MM.aN}{ws:List Int}{bs ss:List (!18)}{cs ls ps:List Int}(e:H h=some (.tup [.ref wa,.ref p,.ref sh,.ref pa]))(hWeb:dB H wa n ts os)(hW:jM H p wA bA sA ws bs ss)(hS:nS H sh cA lA cs ls)(hp:H pa=some (!12)):Bd H (.ref h) (dH4 n ts os ws bs ss cs ls ps) :=
 .tup (SqT.of e) (.cons (QJ hWeb) (.cons (.tup (SqT.of hW.tp) (.cons (iY hW.w) (.cons (JW hW.b) (.cons (JW hW.s) .nil)))) (.cons (.tup (SqT.of hS.tp) (.cons (iY hS.c) (.cons (iY hS.l) .nil))) (.cons (iY hp) .nil))))
theorem oJ(n:Nat)(ts:MM.aP)(os:MM.aN)(ws:List Int)(bs ss:List (!18))(cs ls ps:List Int):SeqAt.shaped (dH4 n ts os ws bs ss cs ls ps)=true:=by
 have i:=lay_ints;have o:=MK;have t1:=QF ts;have t2:=QG os;have li:∀l:List Int,(PyData.list (l.map PyData.int)).canLay0=true/\(PyData.list (l.map PyData.int)).depth<=4:=λl=>⟨(i l).1,by rw[PyData.depth];have:=(i l).2;lia⟩
 have lo:∀l:List (!18),(PyData.list (l.map dvo)).canLay0=true/\(PyData.list (l.map dvo)).depth<=4:=λl=>⟨(o l).1,by rw[PyData.depth];have:=(o l).2;lia⟩
 have h0:PyData.canLayAll0 [PyData.int (n:Int),.list (dT ts),.list (dO os)]=true/\PyData.depthAll [PyData.int (n:Int),.list (dT ts),.list (dO os)]<=4:=gX 4 λd hd=>by
  simp only[Zn,ZM,or_false]at hd;rcases hd with rfl | rfl | rfl
  ·exact⟨rfl,by simp[PyData.depth]⟩
  ·exact⟨t1.1,by rw[PyData.depth];lia⟩
  ·exact⟨t2.1,by rw[PyData.depth];lia⟩
 have h1:PyData.canLayAll0 [PyData.list (ws.map PyData.int),.list (bs.map dvo),.list (ss.map dvo)]=true/\PyData.depthAll [PyData.list (ws.map PyData.int),.list (bs.map dvo),.list (ss.map dvo)]<=4:=gX 4 λd hd=>by
  simp only[Zn,ZM,or_false]at hd;rcases hd with rfl | rfl | rfl
  ·exact li _
  ·exact lo _
  ·exact lo _
 have h2:PyData.canLayAll0 [PyData.list (cs.map PyData.int),.list (ls.map PyData.int)]=true/\PyData.depthAll [PyData.list (cs.map PyData.int),.list (ls.map PyData.int)]<=4:=gX 4 λd hd=>by
  simp only[Zn,ZM,or_false]at hd;rcases hd with rfl | rfl<;>exact li _
 have h3:PyData.canLayAll0 [dW n ts os,.tuple [.list (ws.map PyData.int),.list (bs.map dvo),.list (ss.map dvo)],.tuple [.list (cs.map PyData.int),.list (ls.map PyData.int)],.list (ps.map PyData.int)]=true/\PyData.depthAll [dW n ts os,.tuple [.list (ws.map PyData.int),.list (bs.map dvo),.list (ss.map dvo)],.tuple [.list (cs.map PyData.int),.list (ls.map PyData.int)],.list (ps.map PyData.int)]<=5:=gX 5 λd hd=>by
  simp only[Zn,ZM,or_false]at hd;rcases hd with rfl | rfl | rfl | rfl
  ·exact⟨h0.1,by unfold dW;rw[PyData.depth];have:=h0.2;lia⟩
  ·exact⟨h1.1,by rw[PyData.depth];have:=h1.2;lia⟩
  ·exact⟨h2.1,by rw[PyData.depth];have:=h2.2;lia⟩
  ·exact⟨(li ps).1,by have:=(li ps).2;lia⟩
 unfold SeqAt.shaped;rw[Xg];refine⟨h3.1,Ye ?_⟩;unfold dH4;rw[PyData.depth]
 lia
theorem QC(n:Nat)(ts:MM.aP)(os:MM.aN)(ws:List Int)(bs ss:List (!18))(cs ls ps:List Int):PyData.eqv (dH4 n ts os ws bs ss cs ls ps) (dH4 n ts os ws bs ss cs ls ps)=true:=SeqAt.eqv_refl _ (SeqAt.canLay_of_shaped (oJ n ts os ws bs ss cs ls ps))
theorem TN{α:Type}{l:List α}(h:l.length=3):∃a b c,l=[a,b,c] :=
 match l,h with
 |[a,b,c],_=>(i6 a b c rfl)
def BW:Sp:=λvs H Q _=>∃(wa p wA bA sA sh cA lA pa:Addr) (o:Nat) (ts:MM.aP) (os:MM.aN) (ws:List Int) (bs ss:List (!18)) (cs ls ps:List Int),vs=[.ref wa,vn o,.ref p,.ref sh,.ref pa]/\dB H wa os.length ts os/\MM.Good ts os/\MM.Flat ts os/\ts.length<=40/\os.length<=40/\o<(!19).length/\jM H p wA bA sA ws bs ss/\ws.length=ts.length/\bs.length=ts.length/\ss.length=2*ts.length/\pS ws bs ss/\nS H sh cA lA cs ls/\H pa=some (!12) /\
 ∀H',aK H H'->Q (.bl true) H'
theorem lJ(T:Txt K mg t):Ok P w base T 90 11 BW:=by
 left
 sleep 5;refine(xWP _ (by exists 5,AK,0,a8 tP rfl (T.z 13) boot_tuple ?_,(fI ["_law_one"] [none]),OV ?_,2,0,a8 bL rfl (T.z 7) boot_list ?_,0,a8 bL rfl (T.z 7) boot_list ?_,aI,3,a8 bL rfl (T.z 7) boot_list ?_,aI,3,a8 bL rfl (T.z 7) boot_list ?_,4,6,HK,aI,5,1,aI,5,aI,5,aI,5,bT ?_ (λ_=>rfl),bC JT rfl (T.z 5) boot_isinstance ?_,6,LQ (v:=.ty "bool") rfl (T.z 2) boot_bool rfl,fX,6,CJ,0,1,2,3,4,(HJ hr.units),5,0,2,3,4) ?_);refine(gI wa os.length ts os rfl hweb (by lia) (λw1 H13 g13 hWeb1=>?_));have hW5:=hW.mono g13;refine⟨⟨_,SqT.of hW5.tp⟩,λD hD=>?_⟩;have XA:∀(j:Nat) x,[ws.map V.int,vos bs,vos ss][j]?=some x->∃b,[V.ref wA,V.ref bA,V.ref sA][j]?=some (.ref b)/\H13 b=some (.lst x):=λj x e=>by
  match j with
  |0=>cases e;exact(xWP _ rfl hW5.w)
  |1=>cases e;exact(xWP _ rfl hW5.b)
  |2=>cases e;exact(xWP _ rfl hW5.s)
 refine comp_map 3 (λi ys H'=>aK H13 H'/\H' D=some (.lst ys)/\∃rs:List Addr,ys=rs.map V.ref/\rs.length=i/\(∀x∈rs,x≠D)/\∀(j:Nat) x,j<i->[ws.map V.int,vos bs,vos ss][j]?=some x->∃b,rs[j]?=some b/\H' b=some (.lst x)) (BM (aC hD _) aB ([]) rfl rfl (λx h=>by simp at h) (λj x h=>Yg h (by lia))) ?_ ?_
 ·rintro i ys H' hi ⟨gc1,eD,rs,rfl,hl,hne,hrow⟩;have hTp:SqT H' p [.ref wA,.ref bA,.ref sA]:=SqT.of (gc1 _ _ hW5.tp);obtain⟨b,xb,eb⟩:=XA i _ (Zz hi);refine⟨(bM _ _ hTp xb),?_⟩;rintro x H'' ⟨rfl,hx⟩;have ex:=hx _ hTp;rw[xb]at ex;cases ex;refine(eQ (!13) b _ rfl (.inl (SqL.of (gc1 _ _ eb))) (λy hy=>?_));have gc2:=aC hy (.lst [ws.map V.int,vos bs,vos ss][i]);have nyD:y≠D:=(aE eD hy).symm;refine(tW (gc2 _ _ eD) (by rw[Zq,hl];exact Nat.lt_trans hi (!1)) (λb o h=>by rw[aH (aE h hD)];exact gc2 _ _ (gc1 _ _ h)) aB (rs++[y]) (by rw[Zt];rfl) (by simp[hl]) (λz hz=>?_) (λj x hj hq=>?_))
  ·rcases Zf.mp hz with hz | hz
   ·exact hne z hz
   ·rw[Zb.mp hz];exact nyD
  ·by_cases e:j=i
   ·subst e;rw[Zz hi]at hq;cases hq;exact(xWP y (by rw[<-hl];simp) (by rw[aH nyD];exact aB))
   ·obtain⟨z,q1,q2⟩:=hrow j x (by lia) hq;exact(xWP z (by rw[Zx (by lia)];exact q1) (by rw[aH (hne z (Zg q1))];exact gc2 _ _ q2))
 rintro ys H6' ⟨gc1,eD,rs,rfl,hl,_,hrow⟩;obtain⟨r0,r1,r2,rfl⟩:∃r0 r1 r2,rs=[r0,r1,r2]:=TN hl;refine(fD (xWP _ (SqT.of (gc1 _ _ hW5.tp)) (ZC _)) D _ rfl (.inl ⟨SqL.of eD,λp1 hp1=>?_⟩));have gc2:=aC hp1 (.tup ([r0,r1,r2].map V.ref));have hW14:jM (upd H6' p1 (.tup ([r0,r1,r2].map V.ref))) p1 r0 r1 r2 ws bs ss:=by
  obtain⟨_,q0,e0⟩:=hrow 0 _ (!1) rfl;obtain⟨_,q1,e1⟩:=hrow 1 _ (!1) rfl;obtain⟨_,q2,e2⟩:=hrow 2 _ (!1) rfl;cases q0;cases q1;cases q2;exact⟨aB,gc2 _ _ e0,gc2 _ _ e1,gc2 _ _ e2⟩
 have g14:=gc1.trans gc2;generalize upd H6' p1 (.tup ([r0,r1,r2].map V.ref))=H14 at hW14 g14 ⊢;have gE:=g13.trans g14;have hWebE:=hWeb1.mono g14;clear XA hrow gc1 gc2 eD hD;have hSE:=hS.mono gE;refine(aW _ _ (SqT.of hSE.tp) rfl cA _ rfl (.inl (SqL.of hSE.c)) (λc1 hc1=>?_));have k1:=aC hc1 (!28);have ec:(upd H14 c1 (!28)) c1=some (!28):=aB;generalize upd H14 c1 (!28)=H15 at k1 ec ⊢;refine(aW _ _ (SqT.of (k1 _ _ hSE.tp)) rfl lA _ rfl (.inl (SqL.of (k1 _ _ hSE.l))) (λla1 hl1=>?_));have k2:=aC hl1 (!42);have el:(upd H15 la1 (!42)) la1=some (!42):=aB;generalize upd H15 la1 (!42)=H16 at k2 el ⊢;refine⟨!9,λs1 hs1=>?_⟩;have k3:=aC hs1 (.tup [.ref c1,.ref la1]);have es:(upd H16 s1 (.tup [.ref c1,.ref la1])) s1=some (.tup [.ref c1,.ref la1]):=aB;generalize upd H16 s1 (.tup [.ref c1,.ref la1])=H17 at k3 es ⊢;have kE:=gE.trans (k1.trans (k2.trans k3));refine(aG pa _ rfl (.inl (SqL.of (kE _ _ hp))) (λp2 hp2=>?_));have k4:=aC hp2 (!12);have ep:(upd H17 p2 (!12)) p2=some (!12):=aB;generalize upd H17 p2 (!12)=H18 at k4 ep ⊢;refine⟨(by show 4<=ZW;decide),λph hph=>?_⟩;have k5:=aC hph (.tup [.ref w1,.ref p1,.ref s1,.ref p2]);have eh:(upd H18 ph (.tup [.ref w1,.ref p1,.ref s1,.ref p2])) ph=some (.tup [.ref w1,.ref p1,.ref s1,.ref p2]):=aB;generalize upd H18 ph (.tup [.ref w1,.ref p1,.ref s1,.ref p2])=H19 at k5 eh ⊢;have k45:=k4.trans k5;have k35:=k3.trans k45;have k15:=k1.trans (k2.trans k35);have g0:=gE.trans k15;have hWeb9:=hWebE.mono k15;have hW9:=hW14.mono k15;have hS9:nS H19 s1 c1 la1 cs ls:=⟨k45 _ _ es,k2.trans k35 _ _ ec,k35 _ _ el⟩
 have ep9:=k5 _ _ ep;clear k1 k2 k3 k4 k5 k45 k35 k15 kE ep ec el es hph hp2 hs1 hl1 hc1 hSE hWebE hW14 gE g14 hp1 hW5 hWeb1 g13;refine(aW _ _ (SqT.of eh) rfl _ _ (SqT.of eh) rfl (aW _ _ (SqT.of eh) rfl _ _ (SqT.of eh) rfl (aR w1 p1 r0 r1 r2 s1 c1 la1 p2 (aR o ts os ws bs ss cs ls ps (iD rfl hWeb9 hg hF t40 o40 ho hW9 l1 (cN l2 l3 hok hS9 ep9 (λH20 g20=>?_)))))));have g1:=g0.trans g20;refine(DG _ ("bool") ("bool") rfl rfl (.inr (.inr (.inr rfl))) _ rfl (iFb (by rfl) ?_));refine(aR wa p wA bA sA sh cA lA pa (aR o ts os ws bs ss cs ls ps (iD rfl (hweb.mono g1) hg hF t40 o40 ho (hW.mono g1) l1 (cN l2 l3 hok (hS.mono g1) (g1 _ _ hp) (λH21 g21=>iFb (!5) ?_)))));refine⟨(by show 4<=ZW;decide),λq1 hq1=>?_⟩;have u1:=aC hq1 (.tup [.ref wa,.ref p,.ref sh,.ref pa]);have u0:=g20.trans (g21.trans u1);have u2:=g0.trans u0;refine(bO _ _ (NW (u0 _ _ eh) (hWeb9.mono u0) (hW9.mono u0) (hS9.mono u0) (u0 _ _ ep9)) (NW aB (hweb.mono u2) (hW.mono u2) (hS.mono u2) (u2 _ _ hp)) (oJ _ _ _ _ _ _ _ _ _) (oJ _ _ _ _ _ _ _ _ _) ?_);rw[QC];exact q _ u2
end K27
namespace MM
variable{ts:aP}{os:aN}{nm:Nat->Nat}{o:Nat}
theorem JS(g:Good ts os)(cn:iN ts os)(n:Num ts os nm)(ho:o<(lls ts os).length):∀(m:Nat) {come:List Nat}{ways:Nat->Nat},tK ts os nm o come ways->(lls ts os).length<=come.length+m->∃come' ways',tK ts os nm o come' ways'/\∀k,k<(lls ts os).length->k∈come':=λm=>by
 induction m with
 |zero =>
  intro come ways c h;rcases uW g cn n ho (Zg c.hd) with a | ⟨e,he,h1,h2⟩
  ·exact(bM _ _ c a)
  ·have:=(c.push g n he h1 h2 (ways':=λk=>if k=nm e then e else ways k) λ_=>rfl).len;rw[Zm,ZQ]at this;omega
 |succ m ih =>
  intro come ways c h;rcases uW g cn n ho (Zg c.hd) with a | ⟨e,he,h1,h2⟩
  ·exact(bM _ _ c a)
  ·exact ih (c.push g n he h1 h2 (ways':=λk=>if k=nm e then e else ways k) λ_=>rfl) (by rw[Zm,ZQ];lia)
theorem CZ{come:List Nat}{ways:Nat->Nat}(c:Nat->Int)(g:Good ts os)(n:Num ts os nm)(cm:tK ts os nm o come ways):∀m,m<come.length->∃l:Nat->Int,(∀e,0<=l e)/\u9 ts os c l come (come.length-m)
 |0,_=>(xWP (λ_=>0) (λ_=>Int.le_refl _) (λj k d hj hk=>by have:=(Zj.mp hk).1;lia))
 |m+1,hm=>by
  obtain⟨l,p,f⟩:=CZ c g n cm m (by lia);obtain⟨k,hk⟩:∃k,come[come.length-(m+1)]?=some k:=⟨_,Zz (by omega)⟩
  obtain⟨d,hd⟩:∃d,(lls ts os)[k]?=some d:=⟨_,Zz (cm.lt _ (Zg hk))⟩
  refine(xWP (λz=>l z+(if z=ways k then max (4-su d (trm c l)) 0 else 0)+(if z=oth (ways k) then max (0-(4-su d (trm c l))) 0 else 0)) (λe=>?_) (u9.step g n cm (l:=l) (by rw[show come.length-(m+1)+1=come.length-m by lia];exact f) (by omega) hk hd λz=>rfl));have:=p e;dsimp only;split<;>split<;>omega
theorem OK(g:Good ts os)(fl:Flat ts os)(cn:iN ts os)(ho:o<(lls ts os).length):∃c l,Shp ts os o c l:=by
 obtain⟨nm,n⟩:=PQ g;obtain⟨come,ways,cm,all⟩:=JS g cn n ho (lls ts os).length (BK ho λ_=>0) (by lia);have h0:0<come.length:=(Zj.mp cm.hd).1;obtain⟨l,p,f⟩:=CZ (cB ts os) g n cm (come.length-1) (by omega);rw[show come.length-(come.length-1)=1 by lia]at f;exact(xWW _ l (GO g fl cm all ho (G9 g λ_ _=>rfl) (λe _=>p e) f))
theorem Shp.congr{c l c' l':Nat->Int}(g:Good ts os)(s:Shp ts os o c l)(hc:∀e,e<2*ts.length->c' e=c e)(hl:∀e,e<2*ts.length->l' e=l e):Shp ts os o c' l':=by
 refine⟨⟨λe he=>by rw[hc e he];exact s.pl.lo e he,λe he=>by rw[hc e he];exact s.pl.hi e he,λp hp=>?_⟩,λe he=>by rw[hl e he];exact s.pos e he,λk d hk=>?_⟩
 ·rw[<-s.pl.at_ p hp];exact c7 λe he=>hc _ (aZ (g.g.ends p e he).1)
 ·rw[<-s.ld k d hk];refine c7 λe he=>?_;have h:=(fE g hk).2.1 e he;unfold trm;rw[hc e h,hl e h,hl _ (aZ h)]
end MM
namespace K27
open PySem L2 PyProof.Rows
theorem D5{ts:MM.aP}{os:MM.aN}{o:Nat}(g:MM.Good ts os)(fl:MM.Flat ts os)(cn:MM.iN ts os)(ho:o<(MM.lls ts os).length):∃cs ls:List Int,cs.length=2*ts.length/\ls.length=2*ts.length/\MM.Shp ts os o (at0 cs) (at0 ls):=by
 obtain⟨c,l,S⟩:=MM.OK g fl cn ho;have at_:∀(f:Nat->Int) {e},e<2*ts.length->at0 ((ZS (!2)).map f) e=f e:=λf {e} he=>by
  unfold at0;rw[Zv,Zk,Yk he];rfl
 exact(aG ((ZS (!2)).map c) ((ZS (!2)).map l) (!5) (!5) (S.congr g (λe he=>at_ c he) λe he=>at_ l he))
end K27
namespace L2
open PySem PyProof.Rows
theorem gN.toI{H:Hp}{a:Addr}{ts:MM.aP}(h:gN H a ts):TsI H a (AW.cT ts):=by
 sleep 7;refine(aM tr h1 (by rw[h2,AW.cT,Zq]) (λi t e=>?_));rw[AW.cT,Zk]at e;cases c:ts[i]? with
 |none=>rw[c]at e;cases e
 |some u=>rw[c]at e;cases e;exact h3 i u c
theorem nU.toI{H:Hp}{a:Addr}{os:MM.aN}(h:nU H a os):OsI H a (AW.cO os):=by
 sleep 7;refine(aM tr h1 (by rw[h2,AW.cO,Zq]) (λi t e=>?_));rw[AW.cO,Zk]at e;cases c:os[i]? with
 |none=>rw[c]at e;cases e
 |some u =>
  rw[c]at e;cases e;obtain⟨r,q1,q2⟩:=h3 i u c;exact(xWP r q1 (by rw[q2,Ym];rfl))
theorem QQ{H:Hp}{r tA oA:Addr}{ts:MM.aP}{os:MM.aN}(h1:H r=some (.tup [vn os.length,.ref tA,.ref oA]))(h2:gN H tA ts)(h3:nU H oA os):yZ H r os.length (AW.cT ts) (AW.cO os):=(aG tA oA h1 h2.toI h3.toI)
end L2
namespace K27
open PySem L2 PyProof.Rows NM
theorem PY{ns lot:List Int}{ws:List Way}(hab:∀w∈ws,w.a<ns.length/\w.b<ns.length)(h:BF ns lot ws)(gs:List Int):¬pO ns ws gs:=λG=>by
 obtain⟨u,m,e,hm⟩:=h;have:=PU hab G e;rw[IM u]at hm
 lia
def Sat(H:Hp)(x:Addr)(ts:MM.aP)(os:MM.aN)(o:Nat)(ws:List Int)(bs ss:List (!18)):Prop:=∃(v a b ra:Addr) (cs ls ps:List Int),H x=some (.tup [.str "shape",.ref v,.ref ra])/\nS H v a b cs ls/\H ra=some (!12)/\cs.length=2*ts.length/\ls.length=2*ts.length/\ps.length=ts.length+2/\MM.Shp ts os o (at0 cs) (at0 ls)/\A7 ts os o ws bs ss cs ls ps=true
def NoS(H:Hp)(x:Addr)(ts:MM.aP)(os:MM.aN)(o:Nat)(ws:List Int)(bs ss:List (!18)):Prop:=∃la:Addr,H x=some (.tup [.str "none",.ref la])/\∃lot nm,dZ ts os nm/\BF (!37) lot (!43)
def Q3:Sp:=λvs H Q _=>∃(wa p wA bA sA:Addr) (o:Nat) (tn:MM.aP) (on:MM.aN) (ws:List Int) (bs ss:List (!18)),vs=[.ref wa,vn o,.ref p]/\Mp H wa tn on/\MM.Flat tn on/\tn.length<=40/\on.length<=40/\o<nL tn on/\jM H p wA bA sA ws bs ss/\ws.length=tn.length/\bs.length=tn.length/\ss.length=2*tn.length/\pS ws bs ss /\
 ∀(r:Addr) (H':Hp),aK H H'->NoS H' r tn on o ws bs ss\/Sat H' r tn on o ws bs ss->Q (.ref r) H'
theorem HZ(T:Txt K mg t):Ok P w base T 62 9 Q3 :=
 (RP (P:=P) (w:=w) (base:=base) T).imp λvs H Q E h=>by
  obtain⟨wa,p,wA,bA,sA,o,tn,on,ws,bs,ss,rfl,hM,hF,t40,o40,ho,hW,l1,l2,l3,hok,q⟩:=h;refine(aR wa p wA bA sA o tn on ws (dM bs ss rfl hM hF t40 o40 ho hW (cN l1 l2 l3 hok (λr la lot H' _ g f0 _ _ hL _=>?_) (λr v a b ra cs ls ps gs nm H' _ g f0 f1 f2 f3 f4 lc ll lp hn S F B _ _=>?_))))
  ·obtain⟨nm,hn,hL⟩:=hL;exact q r _ g (.inl (vB la f0 lot nm hn hL))
  ·obtain⟨nok,nlen,wlen⟩:=sJ hM.g hF t40 ho hn l1 hok (bs:=bs) (ss:=ss);have lf:((ZS (2*tn.length)).map (few ls)).length=2*tn.length:=by simp
   have fS:=C0 ll S;refine q r _ g (.inr (bW v a b ra cs _ ps f0 ⟨f1,f2,f3⟩ (cN f4 lc lf lp fS (JH (kA (MM.Shp.is lc lf fS) (yH S.pos F) nm hn ?_)))));unfold bdO;rw[Yb (by rw[lp,nlen])];exact B
def NI:Sp:=λvs H Q _=>∃(sa:Addr) (ns:List Int),vs=[.ref sa]/\SqL H sa (!39)/\ns.length<=63/\∀H',Q (.bl true) H'
theorem PJ(T:Txt K mg t):Ok P w base T 91 lawK (NI):=by
 have G_l_wishes:=AI (P:=P) (w:=w) (base:=base) T (iH T) (oP T)
 left
 obtain⟨sa,ns,rfl,hS,_,q⟩:=h;refine(xWP _ (by exists 1,LZ,0,2,iV,0,3,lL,aI,1,aI,1,4,iH,2,3,5,cX G_l_wishes hr (T.f 81) bR ?_,aI,1,iV,0,2,6,HZ,1,4,5,dF,aI,6,5,cX G_l_wishes hr (T.f 81) bR ?_,aI,1,iV,0,6,HZ,1,4,5,fX,aI,6,bT ?_ (λ_=>rfl),CJ,1,4,5,aI,6,aI,6,7,8,iH,iV,0,7,bT ?_ (λ_=>rfl),lJ,1,4,5,aI,6,sH,aI,6,8,bT ?_ (λ_=>rfl),lJ,1,4,5,HW,aI,6,8,aI,6,9,AJ,1,aI,6,aX,iV,0,7,aX,7,bT ?_ (λ_=>rfl),lJ,1,4,5,9,sH,aI,6,bS,8,lJ,1,aX,4,3,5,aI,6,aI,6) ?_);refine(aV sa ns 15 10 rfl hS (!1) (!1) (λr tA oA rr ts os H1 g1 hr1 hM gd tl ol t16 fc=>?_));have hW1:dB H1 r os.length ts os:=(aG tA oA hr1 hM.ts hM.os.os)
 have hmp:AW.DF os.length (AW.cT ts) (AW.cO os):=AW.RT gd fc.conn (by lia) (by lia);refine(cI sa ns 8 rfl (g1.seq hS) (!1) (λc=>?_));refine(aW _ (.ref tA) (SqT.of hr1) rfl _ (.ref oA) (SqT.of hr1) rfl (bG tA oA ts os rfl hM.ts hM.os.os gd (by lia) (λla lr H2 g2 hN=>?_)));have ll:(lr.map V.ref).length=(!19).length:=by rw[Zq,hN.len]
 have t1:=gd.one;have pos:0<(!19).length:=by
  obtain⟨k,d,q1,_⟩:=MM.eU gd.maps (x:=0) (by lia);have:k<(!19).length:=(Zj.mp q1).1
  lia
 have num:∀m0:Int,∃o:Nat,m0%((lr.map V.ref).length:Nat)=(o:Int)/\o<(!19).length:=λm0=>by
  rw[ll];have h1:=Xw m0 (show((!19).length:Int)≠0 by lia);have h2:=Xx m0 (show 0<((!19).length:Int) by lia);exact(xWP ((m0%((!19).length:Int)).toNat) (by lia) (by lia))
 have lpos:(0:Int)<((lr.map V.ref).length:Nat):=by lia
 refine(aO c 0 rfl (!1) (!1) (λm0 hm0 _=>?_));obtain⟨o,eo,ho⟩:=num m0;refine(aO la _ rfl (.inl (SqL.of hN.at_)) lpos ?_);show cS 4 (V.int (m0%((lr.map V.ref).length:Nat))) _ _ _;rw[eo];have hla:=hN.at_;have hr2:=g2 _ _ hr1;have ht2:=g2.ts hM.ts;have hW2:=hW1.mono g2;have hs2:=(g1.trans g2).seq hS;clear eo hm0 hN hW1 hM hr1 g2 g1 hS;obtain⟨trr,t1',t2',_⟩:=id ht2;have mp:∀{H':Hp},aK H2 H'->Mp H' r ts os:=λg=>by
  obtain⟨tB,oB,e1,e2,e3⟩:=id (hW2.mono g);exact⟨QQ e1 e2 e3,hmp,gd⟩
 have xl:(trr.map V.ref).length<=100:=by rw[Zq];lia
 refine(jO _ (.ref tA) (SqT.of hr2) rfl sa ns 9 rfl hs2 ⟨ by decide,λc9=>(mC (by show(0:Int)<2;decide) tA _ c9 (c%2) rfl (SqL.of t1') xl (by lia) (λp wA bA sA ws bs ss H3 l3 w3 _ lw lb lss ok fr0=>?_))⟩);rw[Zq,t2']at lw lb lss;have hW3:jM H3 p wA bA sA ws bs ss:=⟨w3,l3.a,l3.b,l3.c⟩
 have g3:=l3.g;clear l3 w3 fr0;dsimp only[cS];refine via (λσ' H'=>∃x:Addr,σ'=[some (.ref sa),some (.ref r),some (.int c),some (.ref la),some (vn o),some (.ref p),some (.ref x),none,none,none]/\aK H3 H'/\(NoS H' x ts os o ws bs ss\/Sat H' x ts os o ws bs ss)) (λnx=>?_) ?_
 ·exact(aR r p wA bA sA o ts os ws (dM bs ss rfl (mp g3) fc.flat (by lia) ol ho hW3 (bK lw lb lss ok (λx H4 g4 hx=>nx _ _ (aM x rfl g4 hx)))))
 rintro σ1 H4 ⟨x,rfl,g4,hx⟩;refine via (λσ' H'=>∃(p wA bA sA x:Addr) (ws:List Int) (bs ss:List (!18)),σ'=[some (.ref sa),some (.ref r),some (.int c),some (.ref la),some (vn o),some (.ref p),some (.ref x),none,none,none]/\aK H2 H'/\jM H' p wA bA sA ws bs ss/\ws.length=ts.length/\bs.length=ts.length/\ss.length=2*ts.length/\pS ws bs ss/\Sat H' x ts os o ws bs ss) (λnx=>?_) ?_
 ·have g24:=g3.trans g4;rcases hx with⟨lo,f0,_⟩ | hx
  ·refine(aG _ _ (SqT.of f0) rfl (iTb (by rfl) ?_));refine(jO _ (.ref tA) (SqT.of (g24 _ _ hr2)) rfl sa ns 9 rfl (g24.seq hs2) ⟨ by decide,λc9'=>(aV tA _ c9' 0 rfl (SqL.of (g24 _ _ t1')) xl (.inl rfl) (λp wA bA sA ws bs ss H5 l5 w5 _ lw lb lss ok fr=>?_))⟩);rw[Zq,t2']at lw lb lss;have hW5:jM H5 p wA bA sA ws bs ss:=⟨w5,l5.a,l5.b,l5.c⟩
   have g25:=g24.trans l5.g;refine(aR r p wA bA sA o ts os ws (dM bs ss rfl (mp g25) fc.flat (by lia) ol ho hW5 (bK lw lb lss ok (λx H6 g6 hx=>?_))));rcases hx with⟨_,_,lot,nm,hn,L⟩ | hx
   ·exfalso;obtain⟨fb,fs⟩:=fr rfl;obtain⟨nok,_,_⟩:=sJ gd fc.flat tl ho hn lw ok (bs:=bs) (ss:=ss);obtain⟨cs,ls',c1,c2,S⟩:=D5 gd fc.flat fc.conn ho;have F:BG bs ss cs ls' (!2):=λe _=>⟨λb h=>(by cases fb _ (sD h)),λs h=>(by cases fs _ (sD h))⟩
    exact PY (λw hw=>⟨(nok.w w hw).a,(nok.w w hw).b⟩) L _ ((oV gd hn ok.s c1 c2).mpr ⟨S,F⟩)
   ·exact nx _ _ (iC p wA bA sA x ws bs ss rfl (eJ (g25.trans g6) (hW5.mono g6) lw lb lss ok hx))
  ·obtain⟨v,a,b,ra,cs,ls,ps,f0,_⟩:=id hx;exact(aG _ _ (SqT.of f0) rfl (iFb (by decide +kernel) (nx _ _ (iC p wA bA sA x ws bs ss rfl (eJ g24 (hW3.mono g4) lw lb lss ok hx)))))
 clear hx g4 hW3 g3 lw lb lss ok;rintro σ1 H5 ⟨p,wA,bA,sA,x,ws,bs,ss,rfl,g5,hW5,lw,lb,lss,ok,v,a,b,ra,cs,ls,ps,f0,f1,f2,lc,l2,lp,S,D⟩;have hWeb5:=hW2.mono g5;have R:∀(H':Hp) (sh cA lA pa:Addr) (cs ls ps:List Int) (o':Nat) (Q':VK) (E':XK),aK H5 H'->nS H' sh cA lA cs ls->H' pa=some (!12)->o' < (!19).length->(∀H'',aK H' H''->Q' (.bl true) H'')->BW [.ref r,vn o',.ref p,.ref sh,.ref pa] H' Q' E' :=
  λH' sh cA lA pa cs ls ps o' Q' E' g h1 h2 h3 k=>(aR r p wA bA sA sh cA lA pa (aR o' ts os ws bs ss cs ls ps (iD rfl (hWeb5.mono g) gd fc.flat tl ol h3 (hW5.mono g) lw (cN lb lss ok h1 h2 k))))
 refine(aG _ _ (SqT.of f0) rfl (iFb (by rfl) ?_));refine(aW _ _ (SqT.of f0) rfl _ _ (SqT.of f0) rfl (aR r p wA bA sA v a b ra (aR o ts os ws bs ss cs ls ps (iD rfl hWeb5 gd fc.flat tl ol ho hW5 lw (cN lb lss ok f1 f2 (λH6 g6=>?_))))));rw[D];refine(xWP _ rfl (iFb (by rfl) ?_));refine(cC 6 rfl (!1) (!1) (cK (lo:=0) (n:=(6:Int).toNat) (λ_ σ H'=>aK H5 H'/\∃o7 o8 o9:Option V,σ=[some (.ref sa),some (.ref r),some (.int c),some (.ref la),some (vn o),some (.ref p),some (.ref x),o7,o8,o9]) ⟨g6,(i6 _ _ _ rfl)⟩ ?_ ?_))
 ·rintro i σ H7 hi ⟨g7,o7,o8,o9,rfl⟩;have hi6:i<6:=hi;refine(cI sa ns 10 rfl ((g5.trans g7).seq hs2) (!1) (λc10=>(aO c10 (0+(i:Int)) rfl (by lia) (by lia) (λpick _ _=>?_))));refine(aW _ _ (SqT.of (g7 _ _ f0)) rfl _ _ (SqT.of (g7 _ _ f0)) rfl (dX ra ps pick rfl (g7 _ _ f2) (by lia) (by lia) (λr1 xs H8 g8 e8=>?_)));have h8:=g7.trans g8;dsimp only[DS];refine R _ v a b r1 cs ls xs o _ _ h8 (f1.mono h8) e8 ho λH9 g9=>(xWP _ rfl (iFb (by rfl) ?_))
  have h9:=h8.trans g9;clear h8 g8 e8 g9;refine(aG _ _ (SqT.of (h9 _ _ f0)) rfl (bW v a b cs ls ts.length pick rfl (h9 _ _ f1.tp) (eJ (h9 _ _ f1.c) (h9 _ _ f1.l) lc l2 (by lia) (by lia) (λrB xA yA xs ys H10 g10 e1 e2 e3=>?_))));have h10:=h9.trans g10;refine(aG _ _ (SqT.of (h10 _ _ f0)) rfl ?_);dsimp only[DS];refine R _ rB xA yA ra xs ys ps o _ _ h10 ⟨e1,e2,e3⟩ (h10 _ _ f2) ho λH11 g11=>(xWP _ rfl (iFb (by rfl) ?_))
  have h11:=h10.trans g11;clear h10 g10 e1 e2 e3 g11 h9;refine(jO _ _ (SqT.of (h11 _ _ f0)) rfl sa ns 11 rfl ((g5.trans h11).seq hs2) ⟨ by decide,λc11=>⟨.inl ⟨by decide,by decide⟩,(aR r v a b os.length o ts os cs (fG ls (c11+7*(0+(i:Int))) (1+(0+(i:Int))) rfl (hWeb5.mono h11) gd (by lia) (h11 _ _ f1.tp) (h11 _ _ f1.c) (eJ (h11 _ _ f1.l) lc l2 S (by lia) (by lia) (λrW cA lA cs2 ls2 H12 g12 e1 e2 e3 _ _ _ _ _ _=>?_))))⟩⟩);have h12:=h11.trans g12;refine(y6 _ _ (SqT.of (h12 _ _ f0)) rfl ⟨by decide,by decide⟩ ra ps (pick / 7) rfl (bN (h12 _ _ f2) (by lia) (by lia) (λr2 xs H13 g13 e13=>?_)));have h13:=h12.trans g13;dsimp only[DS];refine R _ rW cA lA r2 cs2 ls2 xs o _ _ h13 ⟨g13 _ _ e1,g13 _ _ e2,g13 _ _ e3⟩ e13 ho λH14 g14=>(xWP _ rfl (iFb (by rfl) ⟨h13.trans g14,(i6 _ _ _ rfl)⟩))
 ·rintro σ H7 ⟨g7,o7,o8,o9,rfl⟩;refine(aO la _ rfl (.inl (SqL.of (g7 _ _ (g5 _ _ hla)))) lpos ?_);obtain⟨o',eo,ho'⟩:=num ((o:Int)+1);refine(aW _ _ (SqT.of (g7 _ _ f0)) rfl _ _ (SqT.of (g7 _ _ f0)) rfl ?_);dsimp only[DS];rw[eo];exact R _ v a b ra cs ls ps o' _ _ g7 (f1.mono g7) (g7 _ _ f2) ho' λH8 _=>q _
end K27
namespace PySem.W.Fast
def tw14328737798073715908:Nat:=0
def tw13592118293806726293:Nat:=0
def tw10062418322199251644:Nat:=0
def tw4068968195212636987:Nat:=0
def tw9585208881277982062:Nat:=0
def tw3619148732890847596:Nat:=0
def tw2274106393910400829:Nat:=0
def tw8778609580835659652:Nat:=0
def tw8956457051938170547:Nat:=0
def tw13283284548490989390:Nat:=0
def tw9080694461351410165:Nat:=0
def tw14559350897544817364:Nat:=0
def tw2396083264468432535:Nat:=0
def tw13243379878477673791:Nat:=0
def tw18004880173373311947:Nat:=0
def tw10306122704338124006:Nat:=0
def tw5492325322211771714:Nat:=0
def tw16397337237359410057:Nat:=0
def tw1596328391774027528:Nat:=0
def tw720433013968203504:Nat:=0
def tw6026769416547633035:Nat:=0
def tw18263066681846731900:Nat:=0
def tw17435679640161063355:Nat:=0
def tw11391032329751319390:Nat:=0
def tw17832787366681590232:Nat:=0
def tw13716687790487243404:Nat:=0
def tw13647365833827752430:Nat:=0
def tw17237807963162095438:Nat:=0
def tw9773448752214843587:Nat:=0
def tw7513656972104258589:Nat:=0
def tw16804368370337599256:Nat:=0
def tw3815828594724030497:Nat:=0
def tw5316148016905181307:Nat:=0
def tw5946533423076119727:Nat:=0
def tw1891479537092855505:Nat:=0
def tw9113277801218665946:Nat:=0
def tw5977006992400752088:Nat:=0
def tw16802833054488643822:Nat:=0
def tw202122806233691241:Nat:=0
def tw1879875727763312310:Nat:=0
def tw5446163161928713802:Nat:=0
def tw13167828260876976597:Nat:=0
def tw7900285535127410158:Nat:=0
def tw4019932661423317325:Nat:=0
def tw5255733343813122190:Nat:=0
def tw17153941030497185745:Nat:=0
def tw17103108530193950047:Nat:=0
def tw8686803959131922852:Nat:=0
def tw15015583629091188326:Nat:=0
def tw9064808910743950852:Nat:=0
def tw4465703256118918795:Nat:=0
def tw2276860828831313127:Nat:=0
def tw3224762226229313278:Nat:=0
def tw15412164080160822272:Nat:=0
def tw8977255615214572512:Nat:=0
def tw2193696456834779930:Nat:=0
def tw10395940291159453531:Nat:=0
def tw8802694991334762037:Nat:=0
def tw11201971605062686892:Nat:=0
def tw563239780014358205:Nat:=0
def tw8289677922087776662:Nat:=0
def tw6072824233260399743:Nat:=0
def tw12859140120822659670:Nat:=0
def tw17942922778194292617:Nat:=0
def tw2734671480885845065:Nat:=0
def tw4439890694551765234:Nat:=0
def tw10928681919616433608:Nat:=0
def tw6307642141066967071:Nat:=0
def tw4201945510477966695:Nat:=0
def tw14876989863195777904:Nat:=0
def tw4790053415844008133:Nat:=0
def tw17440456109491014490:Nat:=0
def tw9736163575001785266:Nat:=0
def tw8716284590314527510:Nat:=0
def tw14619864695310049527:Nat:=0
def tw2781840544455125788:Nat:=0
def tw5108936696954933638:Nat:=0
def tw3011854232492127912:Nat:=0
def tw10628426233292187533:Nat:=0
def tw3905432758225093706:Nat:=0
def tw10668282906823591516:Nat:=0
def tw8789812680113808064:Nat:=0
def tw11175875628461771988:Nat:=0
def tw14264215373618018398:Nat:=0
def tw14396211174114872098:Nat:=0
def tw3644511175960580750:Nat:=0
def tw12091774517107402025:Nat:=0
def tw4666240625726572741:Nat:=0
def tw3548759305996486359:Nat:=0
def tw5665956123543416134:Nat:=0
def tw10134519277398473806:Nat:=0
def tw1406630669090556942:Nat:=0
def tw2162103385280639240:Nat:=0
def tw5147106843554008363:Nat:=0
def tw8005624769445849547:Nat:=0
def tw341898113624084397:Nat:=0
def tw95293853689946733:Nat:=0
def tw5127962178437379912:Nat:=0
def tw11262845935855787277:Nat:=0
def tw10584680426843197745:Nat:=0
def tw15169885195867161213:Nat:=0
def tw13415019857218355255:Nat:=0
def tw9821860818434404223:Nat:=0
def tw8986655325006278692:Nat:=0
def tw8703064767124632085:Nat:=0
def tw16123432900951268661:Nat:=0
def tw13567380134608517779:Nat:=0
def tw6894313129241011440:Nat:=0
def tw4688522109397886630:Nat:=0
def tw15735078842649227408:Nat:=0
def tw9307093113591047569:Nat:=0
def tw4239099146541022245:Nat:=0
def tw10567401022142814326:Nat:=0
def tw7212139014685597443:Nat:=0
def tw11730797309049130870:Nat:=0
def tw3379009205070044914:Nat:=0
def tw10238857528592463521:Nat:=0
def tw15814226275063455917:Nat:=0
def tw2546723703805695503:Nat:=0
def tw11710360611064333553:Nat:=0
def tw2053335453908159242:Nat:=0
def tw10460556718172393522:Nat:=0
def tw11908603259267031427:Nat:=0
def tw13491928285876709921:Nat:=0
def tw12159170603075764469:Nat:=0
def tw13398673645620536873:Nat:=0
def tw12939861711550930121:Nat:=0
def tw7841792122891242638:Nat:=0
def tw730433487184002906:Nat:=0
def tw13733859344087627951:Nat:=0
def tw13594734166104654211:Nat:=0
def tw12825771549888800936:Nat:=0
def tw12528540669166838875:Nat:=0
def tw7403804429914122997:Nat:=0
def tw7746493510159762279:Nat:=0
def tw2773440205164263548:Nat:=0
def tw16995728976935992807:Nat:=0
def tw13418530677401678563:Nat:=0
def tw17504879296952618343:Nat:=0
def tw11907088374038781152:Nat:=0
def tw14243129328770698273:Nat:=0
def tw16168595020614381654:Nat:=0
def tw11560008382307116255:Nat:=0
def tw15497003504559846576:Nat:=0
def tw6022216743435871431:Nat:=0
def tw14620488093108967358:Nat:=0
def tw8253157755956356160:Nat:=0
def tw13090041129472909726:Nat:=0
def tw3194817406763898447:Nat:=0
def tw16418061757076593270:Nat:=0
def tw8968568766223106668:Nat:=0
def tw4745955911159990406:Nat:=0
def tw785340678360766873:Nat:=0
def tw16114135118745526939:Nat:=0
def tw10523407060874284162:Nat:=0
def tw7140784804262820346:Nat:=0
def tw3931780086355210731:Nat:=0
def tw16548585084194502574:Nat:=0
def tw6318073162114818428:Nat:=0
def tw14731251497979784799:Nat:=0
def tw18329018185736256730:Nat:=0
def tw5983086855916568087:Nat:=0
def tw9559560117891535371:Nat:=0
def tw4384653646674896291:Nat:=0
def tw11521829118200134221:Nat:=0
def tw10718281892838239331:Nat:=0
def tw10186664900004216162:Nat:=0
def tw1457689172147513286:Nat:=0
def tw13485354558917010307:Nat:=0
def tw17334650872849000238:Nat:=0
def tw14359723523257503028:Nat:=0
def tw13453610846038640860:Nat:=0
def tw16620559454179048607:Nat:=0
def tw226675906862097903:Nat:=0
def tw9008129695522564673:Nat:=0
def tw7825792073630907843:Nat:=0
def tw8628963156617587101:Nat:=0
def tw8435596878545844243:Nat:=0
def tw7894412898448807744:Nat:=0
def tw9002475253814520424:Nat:=0
def tw16378140756154482247:Nat:=0
def tw17727521248136799715:Nat:=0
def tw8373274081862825612:Nat:=0
def tw12881565191744640078:Nat:=0
def tw17091733022629613686:Nat:=0
def tw16533407250551370475:Nat:=0
def tw6239168642762143349:Nat:=0
def tw11197410394097493753:Nat:=0
def tw6621719736613714364:Nat:=0
def tw1631124689974418009:Nat:=0
def tw12284203492770574099:Nat:=0
def tw14182418976416061900:Nat:=0
def tw14227655939991253087:Nat:=0
def tw4379104847174284453:Nat:=0
def tw14714827042424400913:Nat:=0
def tw10038997113379187808:Nat:=0
def tw8001424345785530842:Nat:=0
end PySem.W.Fast
namespace L2
open PySem
theorem len0{p:List Value->Prop}(h:p []):∀us:List Value,us.length=0->p us
 |[],_=>h
theorem mO{n:Nat}{p:List Value->Prop}(h:∀a us,us.length=n->p (a::us)):∀us:List Value,us.length=n+1->p us
 |a::us,e=>h a us (Nat.succ.inj e)
theorem TV{p:List Value->Prop}(h:∀a,p [a]):∀us:List Value,us.length=1->p us:=mO λa=>len0 (h a)
theorem TU{p:List Value->Prop}(h:∀a b,p [a,b]):∀us:List Value,us.length=2->p us:=mO λa=>mO λb=>len0 (h a b)
theorem RU{p:List Value->Prop}(h:∀a b c,p [a,b,c]):∀us:List Value,us.length=3->p us:=mO λa=>mO λb=>mO λc=>len0 (h a b c)
theorem TR{p:List Value->Prop}(h:∀a b c d,p [a,b,c,d]):∀us:List Value,us.length=4->p us:=mO λa=>mO λb=>mO λc=>mO λd=>len0 (h a b c d)
theorem TQ{p:List Value->Prop}(h:∀a b c d e,p [a,b,c,d,e]):∀us:List Value,us.length=5->p us:=mO λa=>mO λb=>mO λc=>mO λd=>mO λe=>len0 (h a b c d e)
end L2
open PySem PySem.W PyProof.Rows L2
set_option maxRecDepth 100000 in
set_option maxHeartbeats 0 in
theorem PySem.Challenge.cw_fewbends_k27_shapes_shown_fewest_holds : PySem.Challenge.rw_fewbends_k27_shapes_shown_fewest.Holds := by
 w_on;o_law;k_head;(case hw=>w_witness2)
 k_fill
 refine QR K27.prg 91 (l:=PySem.Challenge.rw_fewbends_k27_shapes_shown_fewest) (sp:=K27.NI) rfl rfl ⟨rfl,by decide,by decide,rfl⟩ rfl rfl (λw h Y=>PySem.W.kIn_of Y) (λa ns H hl _ hS=>⟨a,ns,rfl,hS,hl,λ_=>rfl⟩) (k:=K27.lawK) K27.PJ ?wk ?wf ?wz ?wg ?wc ?wx
 all_goals intro w
 (case wx=>exact⟨_,_,_,_,_,_,_,_,_,_,_,_,rfl,by k_is,by k_is,by k_is,by k_is,by k_is,by k_is,by k_is,by k_is,by k_is,by k_is,by k_is,by k_is,by k_is,by k_is,by k_is,by k_is,by k_is,λ_ _ _ _ _ _=>RU λ_ _ _=>rfl⟩)
 (case wk=>rfl)
 (case wf=>repeat' first | exact trivial | refine⟨⟨⟨_,by k_is,_,_,_,_,_,_,_,_,_,by k_is,by k_is,by k_is⟩,by first | exact⟨1,rfl,λ_ _ _ _ _ _=>TV λ_=>rfl⟩ | exact⟨2,rfl,λ_ _ _ _ _ _=>TU λ_ _=>rfl⟩ | exact⟨3,rfl,λ_ _ _ _ _ _=>RU λ_ _ _=>rfl⟩ | exact⟨4,rfl,λ_ _ _ _ _ _=>TR λ_ _ _ _=>rfl⟩ | exact⟨5,rfl,λ_ _ _ _ _ _=>TQ λ_ _ _ _ _=>rfl⟩ | exact⟨0,rfl,λ_ _ _ _ _ _=>len0 rfl⟩,scm⟩,?_⟩)
 (case wz=>repeat' first | exact trivial | refine⟨show PySem.W.nsIn _ _ _=_ by k_is,?_⟩)
 (case wg=>repeat' first | exact trivial | refine⟨⟨_,by k_is⟩,?_⟩)
 (case wc=>repeat' first | exact trivial | refine⟨⟨_,by k_is⟩,?_⟩)
