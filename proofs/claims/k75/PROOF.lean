import PyProof.Rows.All
import Wide.All
import OpenK.AllK
import Wide.FinOn
import Lean
import PyProof.EqAt
import PyProof.EqKinds
import PyProof.TupleCall
import KE.BitLaws
import KE.KSortTup
import PyProof.MeetsSeq3
import PyProof.FactsAll.list_2
import PyProof.Rows.SortRuns
import PyProof.Rows.SortShell
import PyProof.Rows.SortRev
import PyProof.Rows.SortWalk
import PyProof.FactsAll.tuple_1
import PyProof.DictItems
import KE.KDictSum
import PyProof.SetKind
import PyProof.TupleKey
import PyProof.IsRules
import PyProof.DictKinds
import PyProof.Rows.SetFrom
import PyProof.FactsAll.set_1
import PyProof.FactsAll.set_2
import PySem.Challenge.RW_fewbends_k75_other_texts_that_are_none
open PySem renaming wpAny_bind→ZZ,wpAny_pure→ZY,wpAny_mono→ZX,sizeLine→ZW,mainGlobals→ZV,wpAny_holding→ZU
open PySem.Str renaming ofString→ZT
open Classical renaming byContradiction→ZS
open List renaming length_map→Zq,getElem?_eq_getElem→Zz,getElem?_eq_some_iff→Zj,getElem?_map→Zk,getD_eq_getElem?_getD→Zv,mem_cons_of_mem→Zw,getElem?_append_left→Zx,getElem?_append_right→Zy,mem_of_getElem?→Zg,mem_map→Zh,mem_singleton→Zb,mem_cons_self→Zd,mem_append→Zf,length_append→Zm,mem_cons→Zn,getElem_mem→Zp,getElem?_eq_none→Zr,mem_range→Zs,map_append→Zt,length_singleton→ZQ,length_cons→Yq,mem_filter→Yz,length_range→Yj,mem_flatMap→Yk,getElem?_range→Yv,take_length→Yw,length_take→Yx,getElem?_concat_length→Yy,mem_iff_getElem→Yg,length_eq_zero_iff→Yh,map_map→Yb,getElem?_reverse→Yd,append_assoc→Yf,length_drop→Ym,mem_map_of_mem→Yn,map_congr_left→Yp,ext_getElem?→Yr,ext_getElem→Ys,length_reverse→Yt
open Nat renaming le_trans→YQ,lt_of_le_of_lt→Xq,lt_of_lt_of_le→Xz,lt_succ_of_lt→Xj
open Option renaming map_eq_some_iff→Xk
open Int renaming emod_nonneg→Xv,emod_lt_of_pos→Xw,eq_ofNat_of_zero_le→Xx
open Bool renaming and_eq_true→Xy,eq_iff_iff→Xg
set_option Elab.async false
set_option linter.all false
set_option maxRecDepth 100000
section
variable{A B C D E F G H I J:Type}
theorem xPW{K:Prop}{R:A→Prop}(k:K)(a:A)(r:R a):K∧∃a,R a:=⟨k,a,r⟩
theorem xPP{K L R:Prop}(k:K)(l:L)(r:R):K∧L∧R:=⟨k,l,r⟩
theorem xWW{R:A→B→Prop}(a:A)(b:B)(r:R a b):∃a b,R a b:=⟨a,b,r⟩
theorem xWP{K R:A→Prop}(a:A)(k:K a)(r:R a):∃a,K a∧R a:=⟨a,k,r⟩
theorem MT{K:Prop}{L R:A→Prop}(k:K)(a:A)(l:L a)(r:R a):K∧∃a,L a∧R a:=⟨k,a,l,r⟩
theorem SY{K L M R:Prop}(k:K)(l:L)(m:M)(r:R):K∧L∧M∧R:=⟨k,l,m,r⟩
theorem U1{R:A→B→C→Prop}(a:A)(b:B)(c:C)(r:R a b c):∃a b c,R a b c:=⟨a,b,c,r⟩
theorem GI{K R:A→B→Prop}(a:A)(b:B)(k:K a b)(r:R a b):∃a b,K a b∧R a b:=⟨a,b,k,r⟩
theorem MS{K L R:A→Prop}(a:A)(k:K a)(l:L a)(r:R a):∃a,K a∧L a∧R a:=⟨a,k,l,r⟩
theorem dB{R:A→B→C→D→E→Prop}(a:A)(b:B)(c:C)(d:D)(e:E)(r:R a b c d e):∃a b c d e,R a b c d e:=xWW a b (U1 c d e r)
theorem bJ{K:Prop}{L:A→Prop}{M R:A→B→Prop}(k:K)(a:A)(l:L a)(b:B)(m:M a b)(r:R a b):K∧∃a,L a∧∃b,M a b∧R a b:=MT k a l (xWP b m r)
theorem aI{K R:A→B→C→D→Prop}(a:A)(b:B)(c:C)(d:D)(k:K a b c d)(r:R a b c d):∃a b c d,K a b c d∧R a b c d:=xWW a b (GI c d k r)
theorem lQ{K L M N R:A→Prop}(a:A)(k:K a)(l:L a)(m:M a)(n:N a)(r:R a):∃a,K a∧L a∧M a∧N a∧R a:=xWP a k (SY l m n r)
theorem uQ{K:Prop}{L M N R:A→Prop}(k:K)(a:A)(l:L a)(m:M a)(n:N a)(r:R a):K∧∃a,L a∧M a∧N a∧R a:=MT k a l (xPP m n r)
theorem fT{K L:Prop}{M N R:A→Prop}(k:K)(l:L)(a:A)(m:M a)(n:N a)(r:R a):K∧L∧∃a,M a∧N a∧R a:=xPP k l (MS a m n r)
theorem cF{K:Prop}{L R:A→B→C→Prop}(k:K)(a:A)(b:B)(c:C)(l:L a b c)(r:R a b c):K∧∃a b c,L a b c∧R a b c:=xPW k a (GI b c l r)
theorem bN{K:Prop}{L M R:A→B→Prop}(k:K)(a:A)(b:B)(l:L a b)(m:M a b)(r:R a b):K∧∃a b,L a b∧M a b∧R a b:=xPW k a (MS b l m r)
theorem cL{K:A→Prop}{L M R:A→B→Prop}(a:A)(k:K a)(b:B)(l:L a b)(m:M a b)(r:R a b):∃a,K a∧∃b,L a b∧M a b∧R a b:=xWP a k (MS b l m r)
theorem QA{K:A→B→Prop}{L R:A→B→C→Prop}(a:A)(b:B)(k:K a b)(c:C)(l:L a b c)(r:R a b c):∃a b,K a b∧∃c,L a b c∧R a b c:=GI a b k (xWP c l r)
theorem aN{K L:Prop}{M R:A→B→Prop}(k:K)(l:L)(a:A)(b:B)(m:M a b)(r:R a b):K∧L∧∃a b,M a b∧R a b:=xPP k l (GI a b m r)
theorem bE{K L:A→Prop}{M R:A→B→Prop}(a:A)(k:K a)(l:L a)(b:B)(m:M a b)(r:R a b):∃a,K a∧L a∧∃b,M a b∧R a b:=xWP a k (MT l b m r)
theorem a9{K L M R:A→B→Prop}(a:A)(b:B)(k:K a b)(l:L a b)(m:M a b)(r:R a b):∃a b,K a b∧L a b∧M a b∧R a b:=GI a b k (xPP l m r)
theorem aJ{K:A→Prop}{L R:A→B→C→Prop}(a:A)(k:K a)(b:B)(c:C)(l:L a b c)(r:R a b c):∃a,K a∧∃b c,L a b c∧R a b c:=xWP a k (GI b c l r)
theorem aU{K L M:Prop}{N R:A→Prop}(k:K)(l:L)(m:M)(a:A)(n:N a)(r:R a):K∧L∧M∧∃a,N a∧R a:=xPP k l (MT m a n r)
theorem cQ{K L R:A→B→C→Prop}(a:A)(b:B)(c:C)(k:K a b c)(l:L a b c)(r:R a b c):∃a b c,K a b c∧L a b c∧R a b c:=xWW a b (MS c k l r)
theorem bF{K L M N O R:Prop}(k:K)(l:L)(m:M)(n:N)(o:O)(r:R):K∧L∧M∧N∧O∧R:=xPP k l (SY m n o r)
end
namespace L2
open PySem PySem.Spec PyProof.Rows
abbrev Key:=Sum Int Str
def PX:Key→Value→Bool
 |.inl k,v=>Value.isInt k v
 |.inr x,v=>Value.isStrOf x v
def VT(w:World):Key→Int
 |.inl k=>hashInt k
 |.inr x=>hashStr w x
theorem dG:∀{k:Key}{v:Value},PX k v=true→(∃i t,k=Sum.inl i∧v=Value.int i t)∨(∃x t,k=Sum.inr x∧v=Value.str x t)
 |.inl i,v,h=>by
  obtain⟨t,e⟩:=Value.isInt_shape (k:=i) (v:=v) h;exact .inl ⟨i,t,rfl,e⟩
 |.inr x,v,h=>by
  obtain⟨t,e⟩:=Value.isStrOf_shape (x:=x) (v:=v) h;exact .inr ⟨x,t,rfl,e⟩
theorem RV(a b:Int):decide ((Sum.inl a:Key)=Sum.inl b)=(a==b):=by
 by_cases e:a=b
 ·subst e;simp
 ·have h:¬(Sum.inl a:Key)=Sum.inl b:=fun q=>e (Sum.inl.inj q);rw[decide_eq_false h];exact(beq_eq_false_iff_ne.mpr e).symm
theorem RS(a b:Str):decide ((Sum.inr a:Key)=Sum.inr b)=decide (a=b):=by
 by_cases e:a=b
 ·subst e;simp
 ·have h:¬(Sum.inr a:Key)=Sum.inr b:=fun q=>e (Sum.inr.inj q);rw[decide_eq_false h,decide_eq_false e]
theorem RU(a:Int)(b:Str):decide ((Sum.inl a:Key)=Sum.inr b)=false:=decide_eq_false (fun q=>nomatch q)
theorem RT(a:Str)(b:Int):decide ((Sum.inr a:Key)=Sum.inl b)=false:=decide_eq_false (fun q=>nomatch q)
def AJ(prog:Program)(w:World):PySem.KeyKind prog w Key where
 is:=PX
 hash:=VT w
 inj:=fun v a b ha hb=>by
  rcases dG ha with⟨i,t,rfl,rfl⟩ | ⟨x,t,rfl,rfl⟩
  ·rcases dG hb with⟨j,u,rfl,e⟩ | ⟨y,u,rfl,e⟩
   ·injection e with e1 _;rw[e1]
   ·exact nomatch e
  ·rcases dG hb with⟨j,u,rfl,e⟩ | ⟨y,u,rfl,e⟩
   ·exact nomatch e
   ·injection e with e1 _;rw[e1]
 byValue:=fun k v h=>by
  rcases dG h with⟨i,t,rfl,rfl⟩ | ⟨x,t,rfl,rfl⟩<;>rfl
 pyHash:=fun hv h=>by
  rcases dG hv with⟨i,t,rfl,rfl⟩ | ⟨x,t,rfl,rfl⟩
  ·exact wpAny_pyHash_int h
  ·exact wpAny_pyHash_str h
 eqBool:=fun hu hv h=>by
  rcases dG hu with⟨i,t,rfl,rfl⟩ | ⟨x,t,rfl,rfl⟩
  ·rcases dG hv with⟨j,u,rfl,rfl⟩ | ⟨y,u,rfl,rfl⟩
   ·rw[RV]at h;exact wpAny_eqBool_int h
   ·rw[RU]at h;exact SeqAt.EqAt.int_str i t y u _ _ _ _ h
  ·rcases dG hv with⟨j,u,rfl,rfl⟩ | ⟨y,u,rfl,rfl⟩
   ·rw[RT]at h;exact SeqAt.EqAt.str_int x t j u _ _ _ _ h
   ·rw[RS]at h;exact wpAny_eqBool_str h
 «strs»:=fun k x t v h=>by
  rcases dG h with⟨i,u,rfl,e⟩ | ⟨y,u,rfl,e⟩
  ·exact nomatch e
  ·injection e with e1 _;subst e1;cases v<;>rfl
inductive V where
 |non | bl (b:Bool) | int (i:Int) | str (x:Str) | byt (b:Array UInt8) | flt (b:UInt64) | ref (a:Addr) | ty (n:String)
 deriving DecidableEq
def RelV:V→Value→Prop
 |.non,u=>u=Value.none
 |.bl b,u=>u=Value.bool b
 |.int i,u=>∃t,u=Value.int i t
 |.str x,u=>∃t,u=Value.str x t
 |.byt b,u=>∃t,u=Value.bytes b t
 |.flt b,u=>∃t,u=Value.float b t
 |.ref a,u=>u=Value.ref a
 |.ty n,u=>u=Value.type n
abbrev b7:List V→List Value→Prop:=Paired RelV
theorem b7.length{xs:List V}{us:List Value}(r:b7 xs us):xs.length=us.length:=Paired.length r
theorem b7.get:∀{xs:List V}{us:List Value}{i:Nat}{x:V},b7 xs us→xs[i]?=some x→∃u,us[i]?=some u∧RelV x u
 |_,_,_,_,.nil,e=>by simp at e
 |_,_,0,_,.cons r _,e=>by simp at e;subst e;exact⟨_,rfl,r⟩
 |_,_,i+1,x,.cons _ t,e=>by
  obtain⟨u,h1,h2⟩:=b7.get (i:=i) (x:=x) t (by simpa using e);exact⟨u,by simpa using h1,h2⟩
theorem b7.set{x:V}{u:Value}(r:RelV x u):∀{xs:List V}{us:List Value}(i:Nat),b7 xs us→b7 (xs.set i x) (us.set i u)
 |_,_,_,.nil=>.nil
 |_,_,0,.cons _ t=>.cons r t
 |_,_,i+1,.cons q t=>.cons q (b7.set r i t)
theorem b7.append:∀{xs ys:List V}{us ws:List Value},b7 xs us→b7 ys ws→b7 (xs++ys) (us++ws)
 |_,_,_,_,.nil,s=>s
 |_,_,_,_,.cons r t,s=>.cons r (b7.append t s)
theorem b7.take:∀{xs:List V}{us:List Value}(n:Nat),b7 xs us→b7 (xs.take n) (us.take n)
 |_,_,0,_=>.nil
 |_,_,_+1,.nil=>.nil
 |_,_,n+1,.cons r t=>.cons r (b7.take n t)
theorem b7.drop:∀{xs:List V}{us:List Value}(n:Nat),b7 xs us→b7 (xs.drop n) (us.drop n)
 |_,_,0,r=>r
 |_,_,_+1,.nil=>.nil
 |_,_,n+1,.cons _ t=>b7.drop n t
def SK:Option V→Option Value→Prop
 |some v,some u=>RelV v u
 |none,none=>True
 |_,_=>False
def KV{κ:Type}:List (κ×V)→List (κ×Value)→Prop:=Paired fun (p:κ×V) (q:κ×Value)=>p.1=q.1∧RelV p.2 q.2
def kV:Key→V
 |.inl i=>.int i
 |.inr x=>.str x
inductive HO where
 |lst (xs:List V)
 |tup (xs:List V)
 |dK (kvs:List (Key×V)) | dT (kvs:List (List Key×V))
 |set (S:Int→Bool) (n:Nat)
 |ins (C dx:Addr) (fs:List (Str×V))
 |own (x:Addr)
 |xd (fs:List (Str×V))
 |met (f x:Addr)
 |rng (lo hi:Int)
 |frz (o:Obj) (u:HO)
 |tbl (ps:Array Value)
 |ext (φ:Heap→Prop)
abbrev Hp:=Addr→Option HO
def upd(H:Hp)(a:Addr)(o:HO):Hp:=fun b=>if b=a then some o else H b
theorem aB{H:Hp}{a:Addr}{o:HO}:upd H a o a=some o:=by unfold upd;rw[if_pos rfl]
theorem aP{H:Hp}{a b:Addr}{o:HO}(h:b≠a):upd H a o b=H b:=by unfold upd;rw[if_neg h]
theorem cM{H:Hp}{a b:Addr}{o:HO}(h:H a=some o)(h':H b=none):a≠b:=by
 intro e;subst e;rw[h]at h';cases h'
section
variable(P:Program)(w:World)
def dM(H:Hp)(h:Heap)(a:Addr):HO→Prop
 |.lst xs=>xs.length≤ZW∧∃(its:List Value) (n:Nat),b7 xs its∧h.get? a=some { cls:=.type "list",data:=.seq its.toArray n }
 |.tup xs=>xs.length≤ZW∧∃its:List Value,b7 xs its∧IsTup h a its.toArray
 |.dK kvs=>kvs.length≤ZW∧(a==sysModules)=false∧∃vs,KV kvs vs∧h.DictOf (AJ P w) a vs
 |.dT kvs=>kvs.length≤ZW∧(a==sysModules)=false∧∃xs:List (List Key×Addr×Value),
   Paired (fun (p:List Key×V) (q:List Key×Addr×Value)=>p.1=q.1∧H q.2.1=some (.tup (p.1.map kV))∧RelV p.2 q.2.2) kvs xs ∧
   ∃o es ep,h.get? a=some o∧o.ExactDict∧o.data=.dict es ep∧es.toList=xs.map (entryOfKey (tupleKind (AJ P w)))∧(xs.map (·.1)).Nodup
 |.set S n=>h.SetOf (intKind P w) a S n
 |.ins C dx fs=>H dx=some (.own a)∧fs.length≤1000∧dx≠a∧h.get? a=some (PySem.W.instObj C dx) ∧
   ∃mA,h.Ns1 dx mA∧(∀f,SK (fs.lookup f) (mA f))∧PySem.Within mA (fs.map (·.1))
 |.own _=>∃o,h.get? a=some o
 |.xd fs=>∃mA,h.Ns1 a mA∧∀f,SK (fs.lookup f) (mA f)
 |.rng lo hi=>∃t u v,h.get? a=some { cls:=.type "range",data:=.fields #[.int lo t,.int hi u,.int 1 v] }
 |.frz o u=>h.get? a=some o∧dM H h a u
 |.tbl ps=>h.get? a=some { cls:=.none,data:=.fields ps }
 |.met f x=>h.get? a=some (PySem.W.methodObj (.ref f) (.ref x))
 |.ext φ=>φ h∧(∃o,h.get? a=some o)∧∀h1 h2:Heap,φ h1→(∀o,h1.get? a=some o→h2.get? a=some o)→φ h2
def HOk(H:Hp)(h:Heap):Prop:=∀a o,H a=some o→dM P w H h a o
end
section
variable{P:Program}{w:World}{H H':Hp}{h h':Heap}{a:Addr}{o:HO}
theorem dM.lt(x:dM P w H h a o):a<h.objs.size:=by
 cases o with
 |lst xs=>obtain⟨_,_,_,_,e⟩:=x;exact Heap.lt_size e
 |tup xs=>obtain⟨_,_,_,p⟩:=x;exact p.lt
 |dK kvs=>obtain⟨_,_,_,_,o,_,_,e,_⟩:=x;exact Heap.lt_size e
 |dT kvs=>obtain⟨_,_,_,_,o,_,_,e,_⟩:=x;exact Heap.lt_size e
 |set S n=>obtain⟨o,_,_,_,e,_⟩:=x;exact Heap.lt_size e
 |ins C dx fs=>obtain⟨_,_,_,e,_⟩:=x;exact Heap.lt_size e
 |own y=>obtain⟨_,e⟩:=x;exact Heap.lt_size e
 |xd fs=>obtain⟨_,⟨_,_,_,e,_⟩,_⟩:=x;exact Heap.lt_size e
 |rng lo hi=>obtain⟨_,_,_,e⟩:=x;exact Heap.lt_size e
 |frz ob u=>obtain⟨e,_⟩:=x;exact Heap.lt_size e
 |tbl ps=>exact Heap.lt_size (show h.get? a=some _ from x)
 |met f y=>exact Heap.lt_size (show h.get? a=some _ from x)
 |ext φ=>obtain⟨_,⟨_,e⟩,_⟩:=x;exact Heap.lt_size e
theorem Paired.mapP{α β:Type}{F G:α→β→Prop}:∀{l₁:List α}{l₂:List β},Paired F l₁ l₂→(∀a b,F a b→G a b)→Paired G l₁ l₂
 |_,_,.nil,_=>.nil
 |_,_,.cons r t,f=>.cons (f _ _ r) (Paired.mapP t f)
theorem dM.stay(x:dM P w H h a o)(k:∀b u,(b=a∨H b=some (.own a))→h.get? b=some u→h'.get? b=some u)
  (ho:∀b,H b=some (.own a)→H' b=some (.own a)) (ht:∀b xs,H b=some (.tup xs)→H' b=some (.tup xs)):dM P w H' h' a o:=by
 induction o with
 |lst xs=>obtain⟨z,its,n,r,e⟩:=x;exact⟨z,its,n,r,k _ _ (.inl rfl) e⟩
 |tup xs=>obtain⟨z,its,r,ob,e,c⟩:=x;exact⟨z,its,r,ob,k _ _ (.inl rfl) e,c⟩
 |dK kvs=>obtain⟨z,y,vs,r,ob,es,ep,e,c⟩:=x;exact⟨z,y,vs,r,ob,es,ep,k _ _ (.inl rfl) e,c⟩
 |dT kvs =>
  obtain⟨z,y,xs,r,ob,es,ep,e,c⟩:=x;exact⟨z,y,xs,Paired.mapP r fun p q z=>⟨z.1,ht _ _ z.2.1,z.2.2⟩,ob,es,ep,k _ _ (.inl rfl) e,c⟩
 |set S n=>obtain⟨ob,es,ep,t,e,c⟩:=x;exact⟨ob,es,ep,t,k _ _ (.inl rfl) e,c⟩
 |ins C dx fs =>
  obtain⟨d,z,ne,e,mA,⟨od,es,ep,e2,c⟩,r⟩:=x;exact⟨ho _ d,z,ne,k _ _ (.inl rfl) e,mA,⟨od,es,ep,k _ _ (.inr d) e2,c⟩,r⟩
 |own y=>obtain⟨ob,e⟩:=x;exact⟨ob,k _ _ (.inl rfl) e⟩
 |xd fs=>obtain⟨mA,⟨od,es,ep,e,c⟩,r⟩:=x;exact⟨mA,⟨od,es,ep,k _ _ (.inl rfl) e,c⟩,r⟩
 |rng lo hi=>obtain⟨t,u,v,e⟩:=x;exact⟨t,u,v,k _ _ (.inl rfl) e⟩
 |frz ob u ih=>obtain⟨e,q⟩:=x;exact⟨k _ _ (.inl rfl) e,ih q⟩
 |tbl ps =>
  have e:h.get? a=some { cls:=.none,data:=.fields ps }:=x;show h'.get? a=some { cls:=.none,data:=.fields ps };exact k a _ (.inl rfl) e
 |met f y =>
  have e:h.get? a=some (PySem.W.methodObj (.ref f) (.ref y)):=x;show h'.get? a=some (PySem.W.methodObj (.ref f) (.ref y));exact k a _ (.inl rfl) e
 |ext φ=>obtain⟨p,⟨o,e⟩,st⟩:=x;exact⟨st _ _ p fun o q=>k _ _ (.inl rfl) q,⟨o,k _ _ (.inl rfl) e⟩,st⟩
theorem HOk.lt(x:HOk P w H h)(e:H a=some o):a<h.objs.size:=(x a o e).lt
theorem HOk.fresh(x:HOk P w H h)(e:h.objs.size≤a):H a=none:=by
 cases q:H a with
 |none=>rfl
 |some u=>exact absurd (Xz (x.lt q) e) (Nat.lt_irrefl _)
theorem HOk.kept(x:HOk P w H h)(k:∀b u,h.get? b=some u→h'.get? b=some u):HOk P w H h':=fun a o e =>
 (x a o e).stay (fun b u _ q=>k b u q) (fun _ q=>q) fun _ _ q=>q
theorem HOk.laid(x:HOk P w H h)(k:∀b u,h.get? b=some u→h'.get? b=some u)(hp:h.objs.size≤a)(new:dM P w (upd H a o) h' a o):HOk P w (upd H a o) h':=fun b u e=>by
 have hn:=x.fresh hp;by_cases hb:b=a
 ·subst hb;rw[aB]at e;cases e;exact new
 ·rw[aP hb]at e;exact(x b u e).stay (fun c v _ q=>k c v q) (fun c q=>by rw[aP (cM q hn)];exact q) fun c xs q=>by rw[aP (cM q hn)];exact q
end
def Rd(H:Hp)(a:Addr)(u:HO):Prop:=H a=some u∨∃o,H a=some (.frz o u)
theorem Rd.ok{P:Program}{w:World}{H:Hp}{h:Heap}{a:Addr}{u:HO}(r:Rd H a u)(x:HOk P w H h):dM P w H h a u:=by
 rcases r with r | ⟨o,r⟩
 ·exact x a u r
 ·obtain⟨_,q⟩:=x a _ r;exact q
def Mut:Option HO→Prop
 |some (.lst _)=>True
 |some (.dK _)=>True
 |some (.dT _)=>True
 |some (.set _ _)=>True
 |some (.ins _ _ _)=>True
 |some (.ext _)=>True
 |_=>False
section
variable{P:Program}{w:World}{H:Hp}{h h':Heap}{x e:Addr}{o':HO}
theorem HOk.write(ok:HOk P w H h)(mu:Mut (H x))(he:e=x∨H e=some (.own x))(k:∀b u,b≠e→h.get? b=some u→h'.get? b=some u)(heo:∃u,h'.get? e=some u)
  (new:dM P w (upd H x o') h' x o'):HOk P w (upd H x o') h':=fun b u q=>by
 have nown:∀c y,H c=some (.own y)→c≠x:=fun c y r z=>by subst z;rw[r]at mu;exact mu
 have ntup:∀c xs,H c=some (.tup xs)→c≠x:=fun c xs r z=>by subst z;rw[r]at mu;exact mu
 by_cases hb:b=x
 ·subst hb;rw[aB]at q;cases q;exact new
 ·rw[aP hb]at q;by_cases hbe:b=e
  ·have q':H b=some (.own x):=by
    rcases he with z | z
    ·exact absurd (hbe.trans z) hb
    ·rw[hbe];exact z
   rw[q]at q';cases q';obtain⟨v,hv⟩:=heo;exact⟨v,by rw[hbe];exact hv⟩
  ·refine(ok b u q).stay (fun c v hc r=>k c v ?_ r) (fun c r=>by rw[aP (nown c b r)];exact r) fun c xs r=>by rw[aP (ntup c xs r)];exact r
   rcases hc with rfl | hc
   ·exact hbe
   ·rintro rfl;rcases he with z | z
    ·exact nown c b hc z
    ·rw[hc]at z;cases z;exact hb rfl
end
structure Un(fs ex:List Addr)(H H':Hp)(h h':Heap):Prop where
 keep:∀b o,h.get? b=some o→H b=none→b∉fs→b∉ex→h'.get? b=some o
 slot:∀b o,h.get? b=some o→H b=none→b∈fs→b∉ex→∃sl,h'.get? b=some { o with slots:=sl }
 free:∀b o,h.get? b=some o→H b=none→b∉ex→H' b=none
 there:∀b o,h.get? b=some o→b∉ex→∃o',h'.get? b=some o'
 tups:∀b xs,H b=some (.tup xs)→H' b=some (.tup xs)
 frzs:∀b o u,H b=some (.frz o u)→H' b=some (.frz o u)
 tbls:∀b ps,H b=some (.tbl ps)→∃more,H' b=some (.tbl (ps++more))
section
variable{fs fs' ex ex':List Addr}{H H1 H2:Hp}{h h1 h2 h':Heap}{a x e:Addr}{o:HO}
theorem Un.any(u:Un fs ex H H1 h h1){b:Addr}{ob:Obj}(q:h.get? b=some ob)(n:H b=none)(hx:b∉ex):∃sl,h1.get? b=some { ob with slots:=sl }:=by
 by_cases hb:b∈fs
 ·exact u.slot b ob q n hb hx
 ·exact⟨ob.slots,u.keep b ob q n hb hx⟩
theorem Un.kept(k:∀b u,h.get? b=some u→h'.get? b=some u):Un fs ex H H h h' :=
 ⟨fun b ob q _ _ _=>k b ob q,fun b ob q _ _ _=>⟨ob.slots,k b ob q⟩,fun _ _ _ n _=>n,fun b ob q _=>⟨ob,k b ob q⟩,fun _ _ q=>q,fun _ _ _ q=>q,fun _ ps q=>⟨#[],by rw[q];simp⟩⟩
theorem Un.refl:Un fs ex H H h h:=Un.kept fun _ _ q=>q
theorem Un.laid(k:∀b u,h.get? b=some u→h'.get? b=some u)(hp:h.objs.size≤a)(hn:H a=none):Un fs ex H (upd H a o) h h' where
 keep:=fun b u q _ _ _=>k b u q
 slot:=fun b u q _ _ _=>⟨u.slots,k b u q⟩
 free:=fun b u q n _=>by rw[aP (Nat.ne_of_lt (Xz (Heap.lt_size q) hp))];exact n
 there:=fun b u q _=>⟨u,k b u q⟩
 tups:=fun b xs q=>by rw[aP (cM q hn)];exact q
 frzs:=fun b u xs q=>by rw[aP (cM q hn)];exact q
 tbls:=fun b ps q=>⟨#[],by rw[aP (cM q hn),q];simp⟩
theorem Un.write(mu:Mut (H x))(he:e=x∨H e=some (.own x))(k:∀b u,b≠e→h.get? b=some u→h'.get? b=some u)(heo:∃u,h'.get? e=some u):Un fs ex H (upd H x o) h h':=by
 have hx:∀b,H b=none→b≠x:=fun b n z=>by subst z;rw[n]at mu;exact mu
 have hb:∀b,H b=none→b≠e:=fun b n z=>by
  subst z;rcases he with r | r
  ·exact hx b n r
  ·rw[n]at r;cases r
 have hm:∀b u,H b=some u→¬Mut (some u)→b≠x:=fun b u q nm z=>by subst z;rw[q]at mu;exact nm mu
 refine⟨fun b u q n _ _=>k b u (hb b n) q,fun b u q n _ _=>⟨u.slots,k b u (hb b n) q⟩,fun b u q n _=>by rw[aP (hx b n)];exact n,fun b u q _=>?_,
  fun b xs q=>by rw[aP (hm b _ q fun z=>z)];exact q,fun b u xs q=>by rw[aP (hm b _ q fun z=>z)];exact q,fun b ps q=>⟨#[],by rw[aP (hm b _ q fun z=>z),q];simp⟩⟩
 by_cases hbe:b=e
 ·subst hbe;exact heo
 ·exact⟨u,k b u hbe q⟩
end
def trk(h:Heap)(H:Hp):List Addr:=(List.range h.objs.size).filter fun a=>(H a).isSome
def AR(h:Heap)(H:Hp):Heap:=PySem.W.hideAll h (trk h H)
theorem HP(h:Heap)(H:Hp):(AR h H).objs.size=h.objs.size:=PySem.W.hideAll_size _ _
theorem LI{h:Heap}{H:Hp}{b:Addr}{o:Obj}(e:h.get? b=some o)(n:H b=none):(AR h H).get? b=some o :=
 PySem.W.hideAll_get _ e fun hm=>by
  have q:(H b).isSome=true:=(Yz.mp hm).2;rw[n]at q;simp at q
theorem OA{h:Heap}{H:Hp}{b:Addr}{o:Obj}(e:(AR h H).get? b=some o):h.get? b=some o∧H b=none:=by
 have e':h.get? b=some o:=PySem.W.of_hideAll (trk h H) e;refine⟨e',?_⟩;cases q:H b with
 |none=>rfl
 |some x =>
  have hm:b∈trk h H:=Yz.mpr ⟨Zs.mpr (Heap.lt_size e'),by simp[q]⟩;have z:(AR h H).get? b=none:=PySem.W.hideAll_none (trk h H) hm;rw[z]at e;cases e
end L2
namespace L2
open PySem PySem.Spec PyProof.Rows
structure Mod(K:PySem.W.Frag)(mg:Str→Option Value)(base:Heap):Prop where
 kin:K.In base
 glob:base.Ns ZV mg
 blt:∃mb,base.Ns builtinsNs mb∧∀x:Str,x≠"__name__"→mb x=bootBuiltins x
 nolimit:base.NoLimit
structure Cx where
 prog:Program
 w:World
 K:PySem.W.Frag
 mg:Str→Option Value
 base:Heap
 A:Around
 N:List Str
 s₀:Shared
 H₀:Hp
 env:Env
 outer:List Env
 stack:List Env
 ex:List Addr
 fn:Str→Bool
 calm:Bool
 pn:List (Addr×Obj)
 xe:Value→Shared→Prop
def frs(l:List Env):List Addr:=l.filterMap (·.frame)
abbrev Cx.fs(X:Cx):List Addr:=frs X.outer
def Vis(sc:Scope)(x:Str):Prop:=sc.names.lookup x=some .local∨sc.names.lookup x=some .cell∨sc.names.lookup x=some .free
def Loc(sc:Scope)(x:Str):Prop:=sc.names.lookup x=some .local∨sc.names.lookup x=some .cell
def Look(env:Env)(h:Heap)(m:Str→Option Value)(x:Str)(u:Value):Prop :=
 (env.kindOf x=some .local∧m x=some u)∨((env.kindOf x=some .cell∨env.kindOf x=some .free)∧∃c,env.cells.lookup x=some c∧h.IsCell c (some u))
structure Cx.Ok(X:Cx):Prop where
 mod:Mod X.K X.mg X.base
 kind:X.env.scope.kind=.function
 glob:X.env.globals=ZV
 blt:X.env.builtins=builtinsNs
 above:X.s₀.heap.objs.size≤X.env.locals
 inj:∀x y c,X.env.cells.lookup x=some c→X.env.cells.lookup y=some c→x=y
 has:∀x,(X.env.kindOf x=some .cell∨X.env.kindOf x=some .free)→∃c,X.env.cells.lookup x=some c
 cab:∀x c,X.fn x=true→X.env.cells.lookup x=some c→X.s₀.heap.objs.size≤c
 hd:X.calm=true→X.A.handled=none
 frames:X.A.frames=some X.stack
 stk:X.stack=X.outer∨(X.stack=X.env::X.outer∧X.env.frame=some X.env.locals)
 exf:∀b∈X.ex,b≠X.env.locals∧∀x c,X.env.cells.lookup x=some c→c≠b
 bs:∀b o,X.base.get? b=some o→X.s₀.heap.get? b=some o∧X.H₀ b=none
 bsz:X.base.objs.size≤X.s₀.heap.objs.size
 noex:∀b o,X.base.get? b=some o→b∉X.ex
 exfs:∀b∈X.ex,b∉X.fs
 funs:X.s₀.heap.FunFrames X.base X.outer
 frf:∀b∈X.fs,X.H₀ b=none
structure Inv(X:Cx)(pins:List (Addr×Obj))(σ:List (Option V))(H:Hp)(s:Shared):Prop where
 ok:X.Ok
 os:s.os=X.s₀.os
 bare:AllBare s.gens
 base:Un X.fs X.ex X.H₀ H X.s₀.heap s.heap
 loc:∃m,s.heap.Ns X.env.locals m∧∀(i:Nat) (x:Str) (v:V),X.N[i]?=some x→σ[i]?=some (some v)→Vis X.env.scope x→∃u,RelV v u∧Look X.env s.heap m x u
 cell:∀x c,X.env.cells.lookup x=some c→∃v,s.heap.IsCell c v
 free:H X.env.locals=none
 freeC:∀x c,X.env.cells.lookup x=some c→H c=none
 pin:∀p∈X.pn++pins,s.heap.get? p.1=some p.2∧H p.1=none∧p.1≠X.env.locals∧p.1∉X.fs∧∀v,p.2.data≠.cell v
 hok:HOk X.prog X.w H s.heap
 len:σ.length=X.N.length
section
variable{X:Cx}{pins:List (Addr×Obj)}{σ:List (Option V)}{H H':Hp}{s:Shared}{h':Heap}
theorem Cx.Ok.nofr(ok:X.Ok){b:Addr}{o:Obj}(e:X.base.get? b=some o):b∉X.fs:=fun hb=>by
 have:=(ok.funs.mem hb).1;rw[e]at this;cases this
theorem Inv.bs(I:Inv X pins σ H s):∀b o,X.base.get? b=some o→s.heap.get? b=some o∧H b=none:=fun b o e =>
 ⟨I.base.keep b o (I.ok.bs b o e).1 (I.ok.bs b o e).2 (I.ok.nofr e) (I.ok.noex b o e),I.base.free b o (I.ok.bs b o e).1 (I.ok.bs b o e).2 (I.ok.noex b o e)⟩
theorem Inv.bk(I:Inv X pins σ H s):∀b o,X.base.get? b=some o→s.heap.get? b=some o:=fun b o e=>(I.bs b o e).1
theorem Inv.mod(I:Inv X pins σ H s):Mod X.K X.mg X.base:=I.ok.mod
theorem Inv.kIn(I:Inv X pins σ H s):X.K.In s.heap:=I.ok.mod.kin.keeps I.bk
theorem Inv.fr(I:Inv X pins σ H s):∃m,Fr X.base X.env.locals s.heap m :=
 let⟨m,hn,_⟩:=I.loc
 ⟨m,hn,I.bk,YQ I.ok.bsz I.ok.above⟩
theorem Inv.lt(I:Inv X pins σ H s):X.env.locals<s.heap.objs.size:=let⟨_,hn,_⟩:=I.loc;hn.lt
theorem Inv.sz(I:Inv X pins σ H s):X.s₀.heap.objs.size≤s.heap.objs.size:=YQ I.ok.above (Nat.le_of_lt I.lt)
theorem Inv.nofs(I:Inv X pins σ H s){a:Addr}(h:s.heap.objs.size≤a):a∉X.fs:=fun hb=>by
 obtain⟨_,o,ho,_⟩:=I.ok.funs.mem hb;exact absurd (Xz (Heap.lt_size ho) (YQ I.sz h)) (Nat.lt_irrefl _)
theorem Inv.cne(I:Inv X pins σ H s):∀x c,X.env.cells.lookup x=some c→c≠X.env.locals:=fun x c e z=>by
 obtain⟨v,o,ho,hd⟩:=I.cell x c e;obtain⟨m,⟨o',es,ep,ho',hd',_⟩,_⟩:=I.loc;rw[z,ho']at ho;cases ho;rw[hd']at hd;cases hd
theorem Inv.funs(I:Inv X pins σ H s):s.heap.FunFrames X.base X.outer:=by
 have all:∀(l:List Env),(∀b∈frs l,b∈X.fs)→X.s₀.heap.FunFrames X.base l→s.heap.FunFrames X.base l:=by
  intro l;induction l with
  |nil=>intro _ _;trivial
  |cons env r ih =>
   intro hs hl;obtain⟨hk,⟨L,o,hf,hn,ho,hd⟩,hr⟩:=hl;have hL:L∈X.fs:=hs L (by unfold frs;rw[List.filterMap_cons,hf];exact Zd);obtain⟨sl,e⟩:=I.base.slot L o ho (I.ok.frf L hL) hL fun z=>I.ok.exfs L z hL;exact⟨hk,⟨L,_,hf,hn,e,hd⟩,ih (fun b hb=>hs b (by unfold frs;rw[List.filterMap_cons,hf];exact Zw _ hb)) hr⟩
 exact all X.outer (fun _ hb=>hb) I.ok.funs
theorem Inv.stack(I:Inv X pins σ H s):s.heap.FunFrames X.base X.stack:=by
 rcases I.ok.stk with e | ⟨e,hf⟩
 ·rw[e];exact I.funs
 ·rw[e];obtain⟨m,hn,_⟩:=I.loc;refine .cons (by rw[I.ok.kind];decide) hf hn ?_ I.funs;exact Heap.get?_none_of_le (YQ I.ok.bsz I.ok.above)
theorem Inv.stkSub(I:Inv X pins σ H s):∀b∈frs X.stack,b∈X.env.locals::X.fs:=fun b hb=>by
 rcases I.ok.stk with e | ⟨e,hf⟩
 ·rw[e]at hb;exact Zw _ hb
 ·rw[e]at hb;unfold frs at hb;rw[List.filterMap_cons,hf]at hb;exact hb
theorem Inv.stkFree(I:Inv X pins σ H s):∀b∈frs X.stack,H b=none:=fun b hb=>by
 rcases Zn.mp (I.stkSub b hb) with e | hb
 ·rw[e];exact I.free
 ·obtain⟨_,o,ho,_⟩:=I.ok.funs.mem hb;exact I.base.free b o ho (I.ok.frf b hb) fun z=>I.ok.exfs b z hb
theorem Inv.step{g':Array GenState}{t':Nat}{d':Drawn}{ch:List Addr}(I:Inv X pins σ H s)
  (hch:∀b∈ch,(b∈X.ex∨X.s₀.heap.objs.size≤b)∧b≠X.env.locals∧(∀x c,X.env.cells.lookup x=some c→c≠b)∧∀p∈X.pn++pins,p.1≠b)
  (keep:∀b o,b≠X.env.locals→b∉X.fs→b∉ch→s.heap.get? b=some o→H b=none→h'.get? b=some o)
  (slot:∀b o,b≠X.env.locals→b∈X.fs→b∉ch→s.heap.get? b=some o→H b=none→∃sl,h'.get? b=some { o with slots:=sl }) (free:∀b o,b∉ch→s.heap.get? b=some o→H b=none→H' b=none)
  (there:∀b o,b∉ch→s.heap.get? b=some o→∃o',h'.get? b=some o')
  (tups:∀b xs,H b=some (.tup xs)→H' b=some (.tup xs)) (frzs:∀b o u,H b=some (.frz o u)→H' b=some (.frz o u)) (tbls:∀b ps,H b=some (.tbl ps)→∃more,H' b=some (.tbl (ps++more)))
  (ns:∀m,s.heap.Ns X.env.locals m→h'.Ns X.env.locals m) (hok:HOk X.prog X.w H' h') (hg:AllBare g') :
  Inv X pins σ H' { s with heap:=h',gens:=g',drawn:=d',toks:=t' }:=by
 have neL:∀b o,X.s₀.heap.get? b=some o→b≠X.env.locals:=fun b o e=>Nat.ne_of_lt (Xz (Heap.lt_size e) I.ok.above);have neC:∀b o,X.s₀.heap.get? b=some o→b∉X.ex→b∉ch:=fun b o e hx hb=>by
  rcases(hch b hb).1 with z | z
  ·exact hx z
  ·exact absurd (Xz (Heap.lt_size e) z) (Nat.lt_irrefl _)
 have cellK:∀x c,X.env.cells.lookup x=some c→∀v,s.heap.IsCell c v→h'.IsCell c v:=fun x c e v ⟨o,ho,hd⟩=>by
  have nch:c∉ch:=fun z=>(hch c z).2.2.1 x c e rfl;by_cases hc:c∈X.fs
  ·obtain⟨sl,q⟩:=slot c o (I.cne x c e) hc nch ho (I.freeC x c e);exact⟨_,q,hd⟩
  ·exact⟨o,keep c o (I.cne x c e) hc nch ho (I.freeC x c e),hd⟩
 refine⟨I.ok,I.os,hg,⟨fun b o e n hb hx=>?_,fun b o e n hb hx=>?_,fun b o e n hx=>?_,fun b o e hx=>?_,fun b xs e=>tups b xs (I.base.tups b xs e),fun b o xs e=>frzs b o xs (I.base.frzs b o xs e),fun b ps e=>?_⟩,?_,fun x c e=>?_,?_,fun x c e=>?_,fun p hp=>?_,hok,I.len⟩
 ·exact keep b o (neL b o e) hb (neC b o e hx) (I.base.keep b o e n hb hx) (I.base.free b o e n hx)
 ·obtain⟨sl,e1⟩:=I.base.slot b o e n hb hx;obtain⟨sl',e2⟩:=slot b _ (neL b o e) hb (neC b o e hx) e1 (I.base.free b o e n hx);exact⟨sl',e2⟩
 ·obtain⟨o',e1⟩:=I.base.there b o e hx;exact free b o' (neC b o e hx) e1 (I.base.free b o e n hx)
 ·obtain⟨o',e1⟩:=I.base.there b o e hx;exact there b o' (neC b o e hx) e1
 ·obtain⟨m1,e1⟩:=I.base.tbls b ps e;obtain⟨m2,e2⟩:=tbls b _ e1;exact⟨m1++m2,by rw[e2,Array.append_assoc]⟩
 ·obtain⟨m,hn,hl⟩:=I.loc;refine⟨m,ns m hn,fun i x v e1 e2 e3=>?_⟩;obtain⟨u,r,l⟩:=hl i x v e1 e2 e3;refine⟨u,r,?_⟩;rcases l with l | ⟨k,c,e,z⟩
  ·exact .inl l
  ·exact .inr ⟨k,c,e,cellK x c e _ z⟩
 ·obtain⟨v,z⟩:=I.cell x c e;exact⟨v,cellK x c e v z⟩
 ·obtain⟨m,⟨o,_,_,ho,_⟩,_⟩:=I.loc;exact free _ o (fun z=>(hch _ z).2.1 rfl) ho I.free
 ·obtain⟨v,o,ho,hd⟩:=I.cell x c e;exact free c o (fun z=>(hch c z).2.2.1 x c e rfl) ho (I.freeC x c e)
 ·obtain⟨e,n,ne,nf,d⟩:=I.pin p hp;have nch:p.1∉ch:=fun z=>(hch p.1 z).2.2.2 p hp rfl;exact⟨keep p.1 p.2 ne nf nch e n,free p.1 p.2 nch e n,ne,nf,d⟩
theorem Inv.un{t':Nat}(I:Inv X pins σ H s)(u:Un X.fs [] H H' s.heap h')(hok:HOk X.prog X.w H' h'):Inv X pins σ H' { s with heap:=h',toks:=t' }:=by
 obtain⟨m,⟨o,es,ep,ho,r⟩,_⟩:=id I.loc;obtain⟨sl,hL⟩:=u.any ho I.free (by simp);exact I.step (g':=s.gens) (d':=s.drawn) (ch:=[]) (fun _ z=>nomatch z) (fun b o _ hb _ e n=>u.keep b o e n hb (by simp)) (fun b o _ hb _ e n=>u.slot b o e n hb (by simp)) (fun b o _ e n=>u.free b o e n (by simp)) (fun b o _ e=>u.there b o e (by simp)) u.tups u.frzs u.tbls (fun m' hm=>by
  obtain⟨o',es',ep',ho',r'⟩:=hm;rw[ho]at ho';cases ho';exact⟨_,es',ep',hL,r'⟩) hok I.bare
theorem Inv.call{g':Array GenState}{t':Nat}{d':Drawn}{ch:List Addr}(I:Inv X pins σ H s)(u:Un (frs X.stack) ch H H' s.heap h')(hok:HOk X.prog X.w H' h')(hg:AllBare g')
  (hch:∀b∈ch,(b∈X.ex∨X.s₀.heap.objs.size≤b)∧b≠X.env.locals∧(∀x c,X.env.cells.lookup x=some c→c≠b)∧∀p∈X.pn++pins,p.1≠b) :
  Inv X pins σ H' { s with heap:=h',gens:=g',drawn:=d',toks:=t' }:=by
 obtain⟨m,⟨o,es,ep,ho,r⟩,_⟩:=id I.loc;obtain⟨sl,hL⟩:=u.any ho I.free fun z=>(hch _ z).2.1 rfl;exact I.step (ch:=ch) hch (fun b o hL hb hc e n=>u.keep b o e n (fun z=>(Zn.mp (I.stkSub b z)).elim hL hb) hc) (fun b o _ _ hc e n=>u.any e n hc) (fun b o hc e n=>u.free b o e n hc) (fun b o hc e=>u.there b o e hc) u.tups u.frzs u.tbls (fun m' hm=>by
  obtain⟨o',es',ep',ho',r'⟩:=hm;rw[ho]at ho';cases ho';exact⟨_,es',ep',hL,r'⟩) hok hg
theorem Inv.turned{t':Nat}{it:Addr}(I:Inv X pins σ H s)(k:∀b o,b≠it→s.heap.get? b=some o→h'.get? b=some o)(hn:H it=none)(hL:it≠X.env.locals)
  (h1:it∈X.ex∨X.s₀.heap.objs.size≤it) (h2:∀x c,X.env.cells.lookup x=some c→c≠it) (h3:∀p∈X.pn++pins,p.1≠it):Inv X pins σ H { s with heap:=h',toks:=t' }:=by
 have nit:∀b u,H b=some u→b≠it:=fun b u e z=>by rw[z,hn]at e;cases e
 refine I.step (g':=s.gens) (d':=s.drawn) (ch:=[it]) (fun b hb=>?_) (fun b o _ _ hc e _=>k b o (fun z=>hc (by simp[z])) e) (fun b o _ _ hc e _=>⟨o.slots,k b o (fun z=>hc (by simp[z])) e⟩) (fun _ _ _ _ n=>n)
  (fun b o hc e=>⟨o,k b o (fun z=>hc (by simp[z])) e⟩) (fun _ _ e=>e) (fun _ _ _ e=>e) (fun b ps e=>⟨#[],by rw[e];simp⟩) (fun m hm=>?_) (fun b u e=>?_) I.bare
 ·have e:b=it:=by simpa using hb
  subst e;exact⟨h1,hL,h2,h3⟩
 ·obtain⟨o,es,ep,ho,r⟩:=hm;exact⟨o,es,ep,k _ o (Ne.symm hL) ho,r⟩
 ·refine(I.hok b u e).stay (fun c v hc q=>k c v ?_ q) (fun _ q=>q) fun _ _ q=>q;rcases hc with z | z
  ·rw[z];exact nit b u e
  ·exact nit c _ z
theorem Inv.tok(I:Inv X pins σ H s)(t:Nat):Inv X pins σ H { s with toks:=t }:=I.un (h':=s.heap) (t':=t) Un.refl I.hok
theorem Inv.kept{t':Nat}(I:Inv X pins σ H s)(k:∀b u,s.heap.get? b=some u→h'.get? b=some u):Inv X pins σ H { s with heap:=h',toks:=t' }:=I.un (Un.kept k) (I.hok.kept k)
theorem Inv.laid{a:Addr}{o:HO}{t':Nat}(I:Inv X pins σ H s)(k:∀b u,s.heap.get? b=some u→h'.get? b=some u)(hp:s.heap.objs.size≤a)(new:dM X.prog X.w (upd H a o) h' a o) :
  Inv X pins σ (upd H a o) { s with heap:=h',toks:=t' }:=I.un (Un.laid k hp (I.hok.fresh hp)) (I.hok.laid k hp new)
theorem Inv.write{x e:Addr}{o:HO}{t':Nat}(I:Inv X pins σ H s)(mu:Mut (H x))(he:e=x∨H e=some (.own x))(k:∀b u,b≠e→s.heap.get? b=some u→h'.get? b=some u)(heo:∃u,h'.get? e=some u)
  (new:dM X.prog X.w (upd H x o) h' x o):Inv X pins σ (upd H x o) { s with heap:=h',toks:=t' }:=I.un (Un.write mu he k heo) (I.hok.write mu he k heo new)
theorem Inv.weak{σ':List (Option V)}(I:Inv X pins σ H s)(hl:σ'.length=σ.length)(w:∀(i:Nat) v,σ'[i]?=some (some v)→σ[i]?=some (some v)):Inv X pins σ' H s :=
 ⟨I.ok,I.os,I.bare,I.base,let⟨m,hn,hl'⟩:=I.loc;⟨m,hn,fun i x v e1 e2 e3=>hl' i x v e1 (w i v e2) e3⟩,I.cell,I.free,I.freeC,I.pin,I.hok,hl.trans I.len⟩
theorem Inv.pins_of{pins':List (Addr×Obj)}(I:Inv X pins σ H s)(h:∀p∈pins',s.heap.get? p.1=some p.2∧H p.1=none∧p.1≠X.env.locals∧p.1∉X.fs∧∀v,p.2.data≠.cell v):Inv X pins' σ H s :=
 ⟨I.ok,I.os,I.bare,I.base,I.loc,I.cell,I.free,I.freeC,fun p hp=>(Zf.mp hp).elim (fun z=>I.pin p (List.mem_append_left _ z)) (h p),I.hok,I.len⟩
theorem vT{N:List Str}(hN:N.Nodup){i j:Nat}{x:Str}(a:N[i]?=some x)(b:N[j]?=some x):i=j:=by
 obtain⟨h1,e1⟩:=Zj.mp a;obtain⟨h2,e2⟩:=Zj.mp b;exact(List.getElem_inj hN).mp (e1.trans e2.symm)
theorem GO{M:Model}{A:Around}{E:Value→Shared→Prop}{i:Nat}{x:Str}{v:V}{u:Value}{Q:Unit→Shared→Prop}(I:Inv X pins σ H s)(hN:X.N.Nodup)(hi:X.N[i]?=some x)(hx:Loc X.env.scope x)(r:RelV v u)
  (h:∀s',Inv X pins (σ.set i (some v)) H s'→(∃a,Heap.SameBut a s.heap s'.heap∧(a=X.env.locals∨X.env.cells.lookup x=some a))→Q () s') (hf:X.fn x=true∨X.env.scope.names.lookup x=some .local:=by first | exact .inl rfl | exact .inr rfl | assumption):wpAny M A (storeName X.env x u) Q E s:=by
 obtain⟨m,hn,hl⟩:=id I.loc;have hcls:(X.env.scope.kind==.class||(X.env.scope.kind==.module&&X.env.locals != X.env.globals))=false:=by rw[I.ok.kind];rfl
 have hiσ:i<σ.length:=by rw[I.len];exact(Zj.mp hi).1
 have cne:=I.cne;have tracked:∀{a:Addr}{h':Heap},(∃o,s.heap.get? a=some o∧H a=none)→Heap.SameBut a s.heap h'→HOk X.prog X.w H h':=fun {a h'} ha hs b ob e=>by
  obtain⟨_,_,hfree⟩:=ha;refine(I.hok b ob e).stay (fun c w' hc q=>(hs.2 c ?_).trans q) (fun _ q=>q) fun _ _ q=>q;rintro rfl;rcases hc with rfl | hc
  ·rw[hfree]at e;cases e
  ·rw[hfree]at hc;cases hc
 rcases hx with hk | hk
 ·refine wpAny_storeName_local hk hn (fun h' hn' hs=>?_) hcls;obtain⟨oL,_,_,hoL,_⟩:=id hn;refine h _ ⟨I.ok,I.os,I.bare,⟨fun b o e n hb hx=>?_,fun b o e n hb hx=>?_,I.base.free,fun b o e hx=>?_,I.base.tups,I.base.frzs,I.base.tbls⟩,⟨_,hn',fun j y v' e1 e2 e3=>?_⟩,fun y c e=>?_,I.free,I.freeC,fun p hp=>?_,tracked ⟨oL,hoL,I.free⟩ hs,by simpa using I.len⟩ ⟨_,hs,.inl rfl⟩
  ·exact(hs.2 b (Nat.ne_of_lt (Xz (Heap.lt_size e) I.ok.above))).trans (I.base.keep b o e n hb hx)
  ·obtain⟨sl,e1⟩:=I.base.slot b o e n hb hx;exact⟨sl,(hs.2 b (Nat.ne_of_lt (Xz (Heap.lt_size e) I.ok.above))).trans e1⟩
  ·obtain⟨o',e1⟩:=I.base.there b o e hx;exact⟨o',(hs.2 b (Nat.ne_of_lt (Xz (Heap.lt_size e) I.ok.above))).trans e1⟩
  ·by_cases hj:j=i
   ·subst hj;rw[hi]at e1;cases e1;rw[List.getElem?_set_self hiσ]at e2;cases e2;exact⟨u,r,.inl ⟨hk,by simp⟩⟩
   ·rw[List.getElem?_set_ne (Ne.symm hj)]at e2;obtain⟨u',r',q⟩:=hl j y v' e1 e2 e3;refine⟨u',r',?_⟩;rcases q with⟨k,e⟩ | ⟨k,c,e,z⟩
    ·refine .inl ⟨k,?_⟩;have:y≠x:=fun e=>hj (vT hN e1 (e▸hi));simp[this,e]
    ·exact .inr ⟨k,c,e,z.sameBut hs (cne y c e)⟩
  ·obtain⟨w',z⟩:=I.cell y c e;exact⟨w',z.sameBut hs (cne y c e)⟩
  ·obtain⟨e,n,ne,nf,d⟩:=I.pin p hp;exact⟨(hs.2 p.1 ne).trans e,n,ne,nf,d⟩
 ·have hfn:X.fn x=true:=by
   rcases hf with z | z
   ·exact z
   ·rw[z]at hk;cases hk
  obtain⟨c,hc⟩:=I.ok.has x (.inl hk);obtain⟨w',z⟩:=I.cell x c hc;refine wpAny_storeName_cell I.ok.kind hk hc z (fun h' hc' hs=>?_);obtain⟨oc,hoc,hocd⟩:=id z;refine h { s with heap:=h' } ⟨I.ok,I.os,I.bare,⟨fun b o e n hb hx=>?_,fun b o e n hb hx=>?_,I.base.free,fun b o e hx=>?_,I.base.tups,I.base.frzs,I.base.tbls⟩,⟨m,hn.sameBut hs (Ne.symm (cne x c hc)),fun j y v' e1 e2 e3=>?_⟩,fun y c' e=>?_,I.free,I.freeC,fun p hp=>?_,tracked ⟨oc,hoc,I.freeC x c hc⟩ hs,by simpa using I.len⟩ ⟨c,hs,.inr hc⟩
  ·exact(hs.2 b (Nat.ne_of_lt (Xz (Heap.lt_size e) (I.ok.cab x c hfn hc)))).trans (I.base.keep b o e n hb hx)
  ·obtain⟨sl,e1⟩:=I.base.slot b o e n hb hx;exact⟨sl,(hs.2 b (Nat.ne_of_lt (Xz (Heap.lt_size e) (I.ok.cab x c hfn hc)))).trans e1⟩
  ·obtain⟨o',e1⟩:=I.base.there b o e hx;exact⟨o',(hs.2 b (Nat.ne_of_lt (Xz (Heap.lt_size e) (I.ok.cab x c hfn hc)))).trans e1⟩
  ·by_cases hj:j=i
   ·subst hj;rw[hi]at e1;cases e1;rw[List.getElem?_set_self hiσ]at e2;cases e2;exact⟨u,r,.inr ⟨.inl hk,c,hc,hc'⟩⟩
   ·rw[List.getElem?_set_ne (Ne.symm hj)]at e2;obtain⟨u',r',q⟩:=hl j y v' e1 e2 e3;refine⟨u',r',?_⟩;rcases q with q | ⟨k,c',e,z'⟩
    ·exact .inl q
    ·refine .inr ⟨k,c',e,z'.sameBut hs ?_⟩;rintro rfl;exact hj (vT hN e1 (I.ok.inj _ _ _ e hc▸hi))
  ·by_cases hcc:c'=c
   ·subst hcc;exact⟨_,hc'⟩
   ·obtain⟨w2,z2⟩:=I.cell y c' e;exact⟨w2,z2.sameBut hs hcc⟩
  ·obtain⟨e,n,ne,nf,d⟩:=I.pin p hp;refine⟨(hs.2 p.1 ?_).trans e,n,ne,nf,d⟩;intro q;rw[q,hoc]at e;have q':oc=p.2:=Option.some.inj e;exact d w' (by rw[←q'];exact hocd)
theorem jO{M:Model}{A:Around}{E:Value→Shared→Prop}{i:Nat}{x:Str}{v:V}{u:Value}{Q:Unit→Shared→Prop}(I:Inv X pins σ H s)(hN:X.N.Nodup)(hi:X.N[i]?=some x)(hx:Loc X.env.scope x)(r:RelV v u)
  (h:∀s',Inv X pins (σ.set i (some v)) H s'→Q () s') (hf:X.fn x=true∨X.env.scope.names.lookup x=some .local:=by first | exact .inl rfl | exact .inr rfl | assumption):wpAny M A (storeName X.env x u) Q E s :=
 GO I hN hi hx r (fun s' I' _=>h s' I') hf
theorem Inv.call'{s':Shared}{ch:List Addr}(I:Inv X pins σ H s)(ho:s'.os=s.os)(u:Un (frs X.stack) ch H H' s.heap s'.heap)(hok:HOk X.prog X.w H' s'.heap)(hg:AllBare s'.gens)
  (hch:∀b∈ch,(b∈X.ex∨X.s₀.heap.objs.size≤b)∧b≠X.env.locals∧(∀x c,X.env.cells.lookup x=some c→c≠b)∧∀p∈X.pn++pins,p.1≠b):Inv X pins σ H' s':=by
 obtain⟨h',g',d',t',o'⟩:=s';have e:o'=s.os:=ho;subst e;exact I.call (g':=g') (t':=t') (d':=d') u hok hg hch
end
abbrev XK:=Value→Option Addr→Hp→Prop
abbrev St:=List (Option V)
abbrev VK:=V→Hp→Prop
abbrev TE:=St→Hp→VK→Prop
abbrev TT:=St→Hp→(Bool→Hp→Prop)→Prop
abbrev TA:=St→Hp→(List V→Hp→Prop)→Prop
structure Ends where
 nx:St→Hp→Prop
 rt:VK
 bk:St→Hp→Prop:=fun _ _=>False
 ct:St→Hp→Prop:=fun _ _=>False
abbrev TS:=Ends→St→Hp→Prop
def EP(X:Cx)(pins:List (Addr×Obj))(σ:St)(Q:VK)(u:Value)(s':Shared):Prop:=∃v H',Inv X pins σ H' s'∧RelV v u∧Q v H'
def TP(X:Cx)(pins:List (Addr×Obj))(σ:St)(Q:Bool→Hp→Prop)(b:Bool)(s':Shared):Prop:=∃H',Inv X pins σ H' s'∧Q b H'
def AP(X:Cx)(pins:List (Addr×Obj))(σ:St)(Q:List V→Hp→Prop)(us:List Value)(s':Shared):Prop:=∃vs H',Inv X pins σ H' s'∧b7 vs us∧Q vs H'
def SP(X:Cx)(pins:List (Addr×Obj))(D:Ends)(f:Flow)(s':Shared):Prop :=
 match f with
 |.next=>∃σ' H',Inv X pins σ' H' s'∧D.nx σ' H'
 |.brk=>∃σ' H',Inv X pins σ' H' s'∧D.bk σ' H'
 |.cont=>∃σ' H',Inv X pins σ' H' s'∧D.ct σ' H'
 |.ret u=>∃v σ' H',Inv X pins σ' H' s'∧RelV v u∧D.rt v H'
def PE(X:Cx)(e:Expr)(t:TE):Prop :=
 ∀(pins:List (Addr×Obj)) (s:Shared) (σ:St) (H:Hp) (Q:VK),Inv X pins σ H s→t σ H Q→wpAny (model X.prog X.w) X.A (eval e X.env) (EP X pins σ Q) X.xe s
def PT(X:Cx)(e:Expr)(t:TT):Prop :=
 ∀(pins:List (Addr×Obj)) (s:Shared) (σ:St) (H:Hp) (Q:Bool→Hp→Prop),Inv X pins σ H s→t σ H Q→wpAny (model X.prog X.w) X.A (isTrue e X.env (eval e X.env)) (TP X pins σ Q) X.xe s
def PW(X:Cx)(e:Expr)(t:TT):Prop :=
 ∀(whole:Sem Value) (pins:List (Addr×Obj)) (s:Shared) (σ:St) (H:Hp) (Q:Bool→Hp→Prop),Inv X pins σ H s→t σ H Q→wpAny (model X.prog X.w) X.A (isTrue e X.env whole) (TP X pins σ Q) X.xe s
theorem PW.pt{X:Cx}{e:Expr}{t:TT}(h:PW X e t):PT X e t:=h _
def PA(X:Cx)(es:List Expr)(t:TA):Prop :=
 ∀(pos:Pos) (pins:List (Addr×Obj)) (s:Shared) (σ:St) (H:Hp) (Q:List V→Hp→Prop),Inv X pins σ H s→t σ H Q→wpAny (model X.prog X.w) X.A (spliced (backTo pos (starEach es X.env))) (AP X pins σ Q) X.xe s
def PS(X:Cx)(st:Stmt)(t:TS):Prop :=
 ∀(pins:List (Addr×Obj)) (s:Shared) (σ:St) (H:Hp) (D:Ends),Inv X pins σ H s→t D σ H→wpAny (model X.prog X.w) X.A (exec st X.env) (SP X pins D) X.xe s
def PSs(X:Cx)(st:List Stmt)(t:TS):Prop :=
 ∀(pins:List (Addr×Obj)) (s:Shared) (σ:St) (H:Hp) (D:Ends),Inv X pins σ H s→t D σ H→wpAny (model X.prog X.w) X.A (execs st X.env) (SP X pins D) X.xe s
theorem thn{α:Type}{t:Sem α}{Q Q':α→Shared→Prop}{M:Model}{A:Around}{E:Value→Shared→Prop}{s:Shared}(h:wpAny M A t Q E s)(hQ:∀a s,Q a s→Q' a s):wpAny M A t Q' E s:=ZX h hQ fun _ _ x=>x
end L2
namespace L2
open PySem PySem.Spec PyProof.Rows
section
variable{X:Cx}
theorem bin{a b:Expr}{ta tb:TE}(ha:PE X a ta)(hb:PE X b tb){pins:List (Addr×Obj)}{s:Shared}{σ:St}{H:Hp}{R:V→V→Hp→Prop}(I:Inv X pins σ H s)(h:ta σ H fun x H1=>tb σ H1 fun y H2=>R x y H2)
  {α:Type}{Q:α→Shared→Prop}{f:Value→Value→Sem α}
  (hf:∀v u s2 x y H2,Inv X pins σ H2 s2→RelV x v→RelV y u→R x y H2→wpAny (model X.prog X.w) X.A (f v u) Q X.xe s2) :
  wpAny (model X.prog X.w) X.A (eval a X.env) (fun v s₁=>wpAny (model X.prog X.w) X.A (eval b X.env) (fun u s₂=>wpAny (model X.prog X.w) X.A (f v u) Q X.xe s₂) X.xe s₁) X.xe s:=by
 refine thn (ha pins s σ H _ I h) fun v s1 ⟨x,H1,I1,r1,q1⟩=>?_;refine thn (hb pins s1 σ H1 _ I1 q1) fun u s2 ⟨y,H2,I2,r2,q2⟩=>?_;exact hf v u s2 x y H2 I2 r1 r2 q2
def QJ(i:Nat):TE:=fun σ H Q=>∃v,σ[i]?=some (some v)∧Q v H
def tC(v:V):TE:=fun _ H Q=>Q v H
theorem Q9{i:Nat}{x:Str}{pos:Pos}(hN:X.N[i]?=some x)(hv:Vis X.env.scope x)(hd:(x==("__debug__" : Str))=false:=by decide)(hcd:(x==("__classdict__" : Str))=false:=by decide):PE X (.Name x pos) (QJ i):=by
 intro pins s σ H Q I h;obtain⟨v,e,h⟩:=h;obtain⟨m,hn,hl⟩:=I.loc;obtain⟨u,r,l⟩:=hl i x v hN e hv;have fin:EP X pins σ Q u s:=⟨v,H,I,r,h⟩
 rcases l with⟨hk,hm⟩ | ⟨hk,c,hc,hcell⟩
 ·exact wpAny_Name (wpAny_loadName_local I.ok.kind hk hn hm fin) hd
 ·rcases hk with hk | hk
  ·exact wpAny_Name (wpAny_loadName_cell I.ok.kind hk hc hcell fin) hd
  ·exact wpAny_Name (wpAny_loadName_free I.ok.kind hk hc hcell fin hcd) hd
theorem aE{i j pos}:PE X (.Constant (.int i) j pos) (tC (.int i)):=fun _ _ _ H _ I h=>wpAny_Constant_int ⟨.int i,H,I.tok _,⟨_,rfl⟩,h⟩
theorem tH{b j pos}:PE X (.Constant (.bool b) j pos) (tC (.bl b)):=fun _ _ _ H _ I h=>Constant_bool ⟨.bl b,H,I,rfl,h⟩
theorem eE{j pos}:PE X (.Constant .none j pos) (tC .non):=fun _ _ _ H _ I h=>Constant_none ⟨.non,H,I,rfl,h⟩
theorem aY{x j pos}:PE X (.Constant (.str x) j pos) (tC (.str x)):=fun _ _ _ H _ I h=>Calls.Constant_str ⟨.str x,H,I.tok _,⟨_,rfl⟩,h⟩
def Gl(X:Cx)(x:Str):Prop:=X.env.kindOf x=some .globalImplicit
theorem qG{E:Value→Shared→Prop}{pins:List (Addr×Obj)}{s:Shared}{σ:St}{H:Hp}{x:Str}{u:Value}{pos:Pos}{Q:Value→Shared→Prop}(I:Inv X pins σ H s)(hg:Gl X x)(hm:X.mg x=some u)(h:Q u s)
  (hd:(x==("__debug__" : Str))=false:=by decide):wpAny (model X.prog X.w) X.A (eval (.Name x pos) X.env) Q E s :=
 Calls.Name_function_global I.ok.kind hg (Calls.loadGlobal_global (by rw[I.ok.glob];exact I.mod.glob.keeps I.bk) hm h) hd
theorem sG{E:Value→Shared→Prop}{pins:List (Addr×Obj)}{s:Shared}{σ:St}{H:Hp}{x:Str}{u:Value}{pos:Pos}{Q:Value→Shared→Prop}(I:Inv X pins σ H s)(hg:Gl X x)(hm:X.mg x=none)(hv:bootBuiltins x=some u)(h:Q u s)
  (hn:x≠"__name__":=by decide) (hd:(x==("__debug__" : Str))=false:=by decide):wpAny (model X.prog X.w) X.A (eval (.Name x pos) X.env) Q E s:=by
 obtain⟨mb,h1,h2⟩:=I.mod.blt;exact Calls.Name_function_global I.ok.kind hg (Calls.loadGlobal_builtin (by rw[I.ok.glob];exact I.mod.glob.keeps I.bk) hm (by rw[I.ok.blt];exact h1.keeps I.bk) ((h2 x hn).trans hv) h) hd
theorem dF{x:Str}{v:V}{u:Value}{pos:Pos}(hg:Gl X x)(hm:X.mg x=some u)(r:RelV v u)(hd:(x==("__debug__" : Str))=false:=by decide):PE X (.Name x pos) (tC v) :=
 fun _ _ _ H _ I h=>qG I hg hm ⟨v,H,I,r,h⟩ hd
theorem E8{x:Str}{v:V}{u:Value}{pos:Pos}(hg:Gl X x)(hm:X.mg x=none)(hv:bootBuiltins x=some u)(r:RelV v u)(hn:x≠"__name__":=by decide)(hd:(x==("__debug__" : Str))=false:=by decide):PE X (.Name x pos) (tC v) :=
 fun _ _ _ H _ I h=>sG I hg hm hv ⟨v,H,I,r,h⟩ hn hd
variable{a b:Expr}{ta tb:TE}{pos:Pos}
variable{tA tB':TT}{rest:List Expr}
def U8(t u:TT):TT:=fun σ H Q=>t σ H fun c H1=>if c=true then u σ H1 Q else Q false H1
def tOr(t u:TT):TT:=fun σ H Q=>t σ H fun c H1=>if c=true then Q true H1 else u σ H1 Q
def U6(t:TT):TT:=fun σ H Q=>t σ H fun c H1=>Q (!c) H1
theorem iZ(ha:PT X a tA):PW X (.BoolOp .And [a] pos) tA:=by
 intro wh pins s σ H Q I h;refine isTrue_and (thn (ha pins s σ H Q I h) fun c s1 e=>?_);cases c with
 |true=>exact isTrue_and_nil e
 |false=>exact e
theorem jF(ha:PT X a tA):PW X (.BoolOp .Or [a] pos) tA:=by
 intro wh pins s σ H Q I h;refine isTrue_or (thn (ha pins s σ H Q I h) fun c s1 e=>?_);cases c with
 |false=>exact isTrue_or_nil e
 |true=>exact e
theorem kS(ha:PT X a tA)(hb:PW X (.BoolOp .And (b::rest) pos) tB'):PW X (.BoolOp .And (a::b::rest) pos) (U8 tA tB'):=by
 intro wh pins s σ H Q I h;refine isTrue_and (thn (ha pins s σ H _ I h) fun c s1 ⟨H1,I1,q1⟩=>?_);cases c with
 |true=>exact hb wh pins s1 σ H1 Q I1 q1
 |false=>exact⟨H1,I1,q1⟩
theorem iY(ha:PT X a tA)(hb:PW X (.BoolOp .Or (b::rest) pos) tB'):PW X (.BoolOp .Or (a::b::rest) pos) (tOr tA tB'):=by
 intro wh pins s σ H Q I h;refine isTrue_or (thn (ha pins s σ H _ I h) fun c s1 ⟨H1,I1,q1⟩=>?_);cases c with
 |true=>exact⟨H1,I1,q1⟩
 |false=>exact hb wh pins s1 σ H1 Q I1 q1
theorem rS(ha:PT X a tA):PT X (.UnaryOp .Not a pos) (U6 tA):=by
 intro pins s σ H Q I h;exact isTrue_not (ha pins s σ H (fun c H1=>Q (!c) H1) I h)
def S7(ta tb:TE):TE:=fun σ H Q=>ta σ H fun x H1=>∃c,x=.bl c∧if c=true then tb σ H1 Q else Q (.bl false) H1
theorem rX{op}{t:TE}(h:PE X a t):PE X (.BoolOp op [a] pos) t:=fun pins s σ H Q I hw=>BoolOp_one (h pins s σ H Q I hw)
theorem vN(ha:PE X a ta)(hb:PE X (.BoolOp .And (b::rest) pos) tb):PE X (.BoolOp .And (a::b::rest) pos) (S7 ta tb):=by
 intro pins s σ H Q I h;refine BoolOp_and (thn (ha pins s σ H _ I h) fun v s1 ⟨x,H1,I1,r1,q1⟩=>?_);obtain⟨c,rfl,q1⟩:=q1;cases r1;refine wpAny_truthy_bool ?_;cases c with
 |true=>exact hb pins s1 σ H1 Q I1 q1
 |false=>exact⟨.bl false,H1,I1,rfl,q1⟩
def tIf(t:TT)(ta tb:TE):TE:=fun σ H Q=>t σ H fun c H1=>if c=true then ta σ H1 Q else tb σ H1 Q
theorem JW{c:Expr}(hc:PT X c tA)(ha:PE X a ta)(hb:PE X b tb):PE X (.IfExp c a b pos) (tIf tA ta tb):=by
 intro pins s σ H Q I h;refine wpAny_IfExp (thn (hc pins s σ H _ I h) fun d s1 ⟨H1,I1,q1⟩=>?_);cases d with
 |true=>exact ha pins s1 σ H1 Q I1 q1
 |false=>exact hb pins s1 σ H1 Q I1 q1
end
end L2
namespace L2
open PySem PySem.Spec PyProof.Rows
def SqL(K:PySem.W.Frag)(H:Hp)(a:Addr)(xs:List V):Prop :=
 Rd H a (.lst xs) ∨
  ∃(o:Obj) (its:Array Value) (n:Nat),K.lookup a=some o∧o.cls=.type "list"∧o.dict=none∧o.data=.seq its n∧its.size≤ZW∧b7 xs its.toList
def SqT(K:PySem.W.Frag)(H:Hp)(a:Addr)(xs:List V):Prop :=
 Rd H a (.tup xs) ∨
  ∃(o:Obj) (its:Array Value) (n:Nat),K.lookup a=some o∧o.cls=.type "tuple"∧o.data=.seq its n∧its.size≤ZW∧b7 xs its.toList
def V0:Value→Option V
 |.none=>some .non
 |.bool b=>some (.bl b)
 |.int i _=>some (.int i)
 |.str x _=>some (.str x)
 |.bytes b _=>some (.byt b)
 |.float b _=>some (.flt b)
 |.ref a=>some (.ref a)
 |.type n=>some (.ty n)
 |_=>none
theorem RelV.abs{x:V}{u:Value}(r:RelV x u):V0 u=some x:=by
 cases x with
 |non=>cases r;rfl
 |bl _=>cases r;rfl
 |int _=>obtain⟨t,rfl⟩:=r;rfl
 |str _=>obtain⟨t,rfl⟩:=r;rfl
 |byt _=>obtain⟨t,rfl⟩:=r;rfl
 |flt _=>obtain⟨t,rfl⟩:=r;rfl
 |ref _=>cases r;rfl
 |ty _=>cases r;rfl
theorem RelV.inj{x y:V}{u:Value}(r:RelV x u)(q:RelV y u):x=y:=Option.some.inj (r.abs.symm.trans q.abs)
theorem b7.inj:∀{xs ys:List V}{us:List Value},b7 xs us→b7 ys us→xs=ys
 |_,_,_,.nil,.nil=>rfl
 |_,_,_,.cons r t,.cons r' t'=>by rw[r.inj r',b7.inj t t']
section
variable{X:Cx}{pins:List (Addr×Obj)}{σ:St}{H:Hp}{s:Shared}{a:Addr}{xs ys:List V}
theorem SqL.of{K:PySem.W.Frag}(h:H a=some (.lst xs)):SqL K H a xs:=.inl (.inl h)
theorem SqT.of{K:PySem.W.Frag}(h:H a=some (.tup xs)):SqT K H a xs:=.inl (.inl h)
theorem Inv.list(I:Inv X pins σ H s)(h:SqL X.K H a xs):∃its:List Value,b7 xs its∧PlainL s.heap a its.toArray∧xs.length≤ZW:=by
 rcases h with h | ⟨o,its,n,hk,hc,hd,hs,hz,r⟩
 ·obtain⟨z,its,n,r,e⟩:=h.ok I.hok;exact⟨its,r,⟨_,n,e,rfl,rfl,rfl⟩,z⟩
 ·refine⟨its.toList,r,⟨o,n,I.kIn a o hk,hc,hd,by simpa using hs⟩,?_⟩;have e:=r.length;simp only[Array.length_toList]at e
  lia
theorem Inv.tuple(I:Inv X pins σ H s)(h:SqT X.K H a xs):∃its:List Value,b7 xs its∧IsTup s.heap a its.toArray∧xs.length≤ZW:=by
 rcases h with h | ⟨o,its,n,hk,hc,hs,hz,r⟩
 ·obtain⟨z,its,r,p⟩:=h.ok I.hok;exact⟨its,r,p,z⟩
 ·refine⟨its.toList,r,⟨o,I.kIn a o hk,hc,n,by simpa using hs⟩,?_⟩;have e:=r.length;simp only[Array.length_toList]at e
  lia
theorem Inv.list_inj(I:Inv X pins σ H s)(h:SqL X.K H a xs)(h':SqL X.K H a ys):xs=ys:=by
 obtain⟨its,r,⟨o,n,e,_,_,d⟩,_⟩:=I.list h;obtain⟨its',r',⟨o',n',e',_,_,d'⟩,_⟩:=I.list h';rw[e]at e';cases e';rw[d]at d';injection d' with d1 _;have:its=its':=by simpa using congrArg Array.toList d1
 subst this;exact r.inj r'
end
abbrev Cx.wish(X:Cx)(E:Value→Shared→Prop):Cx:={ X with xe:=E }
abbrev Cx.nox(X:Cx):Cx:=X.wish fun _ _=>False
theorem Cx.Ok.wish{X:Cx}(ok:X.Ok)(E:Value→Shared→Prop):(X.wish E).Ok :=
 ⟨ok.mod,ok.kind,ok.glob,ok.blt,ok.above,ok.inj,ok.has,ok.cab,ok.hd,ok.frames,ok.stk,ok.exf,ok.bs,ok.bsz,ok.noex,ok.exfs,ok.funs,ok.frf⟩
theorem Cx.Ok.unwish{X:Cx}{E:Value→Shared→Prop}(ok:(X.wish E).Ok):X.Ok :=
 ⟨ok.mod,ok.kind,ok.glob,ok.blt,ok.above,ok.inj,ok.has,ok.cab,ok.hd,ok.frames,ok.stk,ok.exf,ok.bs,ok.bsz,ok.noex,ok.exfs,ok.funs,ok.frf⟩
section
variable{X:Cx}{pins:List (Addr×Obj)}{σ:St}{H:Hp}{s:Shared}{E:Value→Shared→Prop}
theorem Inv.wish(I:Inv X pins σ H s)(E:Value→Shared→Prop):Inv (X.wish E) pins σ H s:=⟨I.ok.wish E,I.os,I.bare,I.base,I.loc,I.cell,I.free,I.freeC,I.pin,I.hok,I.len⟩
theorem Inv.unwish(I:Inv (X.wish E) pins σ H s):Inv X pins σ H s:=⟨I.ok.unwish,I.os,I.bare,I.base,I.loc,I.cell,I.free,I.freeC,I.pin,I.hok,I.len⟩
theorem SP.unwish{D:Ends}{f:Flow}{s':Shared}(h:SP (X.wish E) pins D f s'):SP X pins D f s':=by
 cases f with
 |next=>obtain⟨σ',H',I,q⟩:=h;exact⟨σ',H',I.unwish,q⟩
 |brk=>obtain⟨σ',H',I,q⟩:=h;exact⟨σ',H',I.unwish,q⟩
 |cont=>obtain⟨σ',H',I,q⟩:=h;exact⟨σ',H',I.unwish,q⟩
 |ret u=>obtain⟨v,σ',H',I,r,q⟩:=h;exact⟨v,σ',H',I.unwish,r,q⟩
theorem PSs.nox{st:List Stmt}{t:TS}(h:PSs X.nox st t):PSs X st t:=fun pins s σ H D I hw =>
 ZX (h pins s σ H D (I.wish _) hw) (fun _ _ q=>q.unwish) fun _ _ z=>False.elim z
end
section
variable{X:Cx}{st:Stmt}{rest:List Stmt}{t u:TS}{e:Expr}{te:TE}{pos:Pos}
def PB:TS:=fun D σ H=>D.nx σ H
def DV(t u:TS):TS:=fun D σ H=>t { D with nx:=u D } σ H
theorem bG:PSs X [] PB:=fun _ _ σ H _ I h=>wpAny_execs_nil ⟨σ,H,I,h⟩
theorem aG(h1:PS X st t)(h2:PSs X rest u):PSs X (st::rest) (DV t u):=by
 intro pins s σ H D I h;refine wpAny_execs_cons (thn (h1 pins s σ H { D with nx:=u D } I h) fun f s1 q=>?_);cases f with
 |next =>
  obtain⟨σ',H',I',q⟩:=q;exact h2 pins s1 σ' H' D I' q
 |ret v=>exact q
 |brk=>exact q
 |cont=>exact q
theorem aL(h1:PS X st t):PSs X [st] t:=by
 intro pins s σ H D I h;refine wpAny_execs_cons (thn (h1 pins s σ H D I h) fun f s1 q=>?_);cases f with
 |next=>exact wpAny_execs_nil q
 |ret v=>exact q
 |brk=>exact q
 |cont=>exact q
theorem Inv.quiet{pins:List (Addr×Obj)}{σ:St}{H:Hp}{s:Shared}(I:Inv X pins σ H s):interactive X.env=false:=by simp[interactive,I.ok.kind]
def S6(te:TE):TS:=fun D σ H=>te σ H fun _ H1=>D.nx σ H1
theorem bQ(he:PE X e te)(hs:swapsWith e none pos.line X.env=pure false:=by rfl):PS X (.Expr e pos) (S6 te):=by
 intro pins s σ H D I h;exact wpAny_Expr_any (thn (he pins s σ H _ I h) fun v s1 ⟨x,H1,I1,r1,q1⟩=>⟨σ,H1,I1,q1⟩) I.quiet hs
def U5(te:TE):TS:=fun D σ H=>te σ H D.rt
theorem a8(he:PE X e te):PS X (.Return (some e) pos) (U5 te):=by
 intro pins s σ H D I h;exact wpAny_Return_some (thn (he pins s σ H _ I h) fun v s1 ⟨x,H1,I1,r1,q1⟩=>⟨x,σ,H1,I1,r1,q1⟩)
def QM(c:TT)(t u:TS):TS:=fun D σ H=>c σ H fun b H1=>if b=true then t D σ H1 else u D σ H1
theorem cH{c:Expr}{a b:List Stmt}{tc:TT}(hc:PT X c tc)(ha:PSs X a t)(hb:PSs X b u):PS X (.If c a b pos) (QM tc t u):=by
 intro pins s σ H D I h;refine wpAny_If (thn (hc pins s σ H _ I h) fun d s1 ⟨H1,I1,q1⟩=>?_);cases d with
 |true=>exact ha pins s1 σ H1 D I1 q1
 |false=>exact hb pins s1 σ H1 D I1 q1
end
abbrev TG:=V→St→Hp→(St→Hp→Prop)→Prop
abbrev TGs:=List V→St→Hp→(St→Hp→Prop)→Prop
def PG(X:Cx)(target:Expr)(t:TG):Prop :=
 ∀(pins:List (Addr×Obj)) (s:Shared) (σ:St) (H:Hp) (v:V) (u:Value) (Q:St→Hp→Prop),Inv X pins σ H s→RelV v u→t v σ H Q →
  wpAny (model X.prog X.w) X.A (assign target X.env u) (fun _ s'=>∃σ' H',Inv X pins σ' H' s'∧Q σ' H') X.xe s
def PGs(X:Cx)(ts:List Expr)(t:TGs):Prop :=
 ∀(pins:List (Addr×Obj)) (s:Shared) (σ:St) (H:Hp) (vs:List V) (us:List Value) (Q:St→Hp→Prop),Inv X pins σ H s→b7 vs us→t vs σ H Q →
  wpAny (model X.prog X.w) X.A (assignInOrder ((assignEach ts X.env).map (·.2)) us) (fun _ s'=>∃σ' H',Inv X pins σ' H' s'∧Q σ' H') X.xe s
abbrev SI:=V→V→V→Hp→(Hp→Prop)→Prop
def UY(X:Cx)(t:SI):Prop :=
 ∀(pins:List (Addr×Obj)) (s:Shared) (σ:St) (H:Hp) (o i v:V) (ov iv u:Value) (Q:Hp→Prop),Inv X pins σ H s→RelV o ov→RelV i iv→RelV v u→t o i v H Q →
  wpAny (model X.prog X.w) X.A (setItem ov iv u) (fun _ s'=>∃H',Inv X pins σ H' s'∧Q H') X.xe s
section
variable{X:Cx}{pos:Pos}
def bT(i:Nat):TG:=fun v σ H Q=>Q (σ.set i (some v)) H
theorem aX{i:Nat}{x:Str}(hN:X.N.Nodup)(hi:X.N[i]?=some x)(hx:Loc X.env.scope x)(hf:X.fn x=true∨X.env.scope.names.lookup x=some .local:=by first | exact .inl rfl | exact .inr rfl | assumption):PG X (.Name x pos) (bT i):=by
 intro pins s σ H v u Q I r h;exact wpAny_assign_Name (jO I hN hi hx r (fun s' I'=>⟨_,H,I',h⟩) hf)
def VW:TGs:=fun vs σ H Q=>vs=[]∧Q σ H
def UO(t:TG)(u:TGs):TGs:=fun vs σ H Q=>∃v r,vs=v::r∧t v σ H fun σ' H'=>u r σ' H' Q
theorem e7:PGs X [] VW:=by
 intro pins s σ H vs us Q I r h;obtain⟨e,h⟩:=h;subst e;cases r;exact assignInOrder_nil ⟨σ,H,I,h⟩
theorem b8{e:Expr}{es:List Expr}{t:TG}{u:TGs}(h1:PG X e t)(h2:PGs X es u)
  (hs:(assignEach (e::es) X.env).map (·.2)=assign e X.env::(assignEach es X.env).map (·.2):=by rfl):PGs X (e::es) (UO t u):=by
 intro pins s σ H vs us Q I r h;obtain⟨v,vr,e1,h⟩:=h;subst e1;cases r with
 |cons r rr =>
  rw[hs];refine assignInOrder_cons (thn (h1 pins s σ H _ _ _ I r h) fun _ s1 ⟨σ1,H1,I1,q1⟩=>?_);exact h2 pins s1 σ1 H1 _ _ Q I1 rr q1
def UN(K:PySem.W.Frag)(n:Nat)(t:TGs):TG:=fun v σ H Q=>∃a xs,v=.ref a∧SqT K H a xs∧xs.length=n∧t xs σ H Q
theorem mE{es:List Expr}{k:Nat}{t:TGs}{n:Nat}(hc:X.calm=true)(h:PGs X es t)
  (hn:(assignEach es X.env).length=n:=by rfl) (hst:(assignEach es X.env).findIdx? (·.1)=none:=by rfl):PG X (.Tuple es k pos) (UN X.K n t):=by
 intro pins s σ H v u Q I r hw;obtain⟨a,xs,e1,hq,hl,hw⟩:=hw;subst e1;cases r;obtain⟨its,rv,ht,hz⟩:=I.tuple hq;refine assign_Tuple_tuple (I.ok.hd hc) ht (by simp[hn,←hl,rv.length]) hst fun h' hx=>?_;have I1:Inv X pins σ H { s with heap:=h' }:=I.kept (t':=s.toks) fun b o e=>hx b o (Nat.ne_of_lt (Heap.lt_size e)) e;exact h pins _ σ H xs _ Q I1 (by simpa using rv) hw
def VV(to ti:TE)(t:SI):TG:=fun v σ H Q=>to σ H fun o H1=>ti σ H1 fun i H2=>t o i v H2 fun H3=>Q σ H3
theorem JV{o i:Expr}{to ti:TE}{t:SI}(ho:PE X o to)(hi:PE X i ti)(hs:UY X t)
  (ha:∀v,assign (.Subscript o i pos) X.env v=(do
   let ov ←holding [v] (eval o X.env)
   let iv ←holding [v,ov] (eval i X.env)
   standAt pos
   holding [v,ov,iv] (setItem ov iv v)
   release [v,ov,iv] []):=by intro _;rfl):PG X (.Subscript o i pos) (VV to ti t):=by
 intro pins s σ H v u Q I r h;rw[ha];refine ZZ (ZU (thn (ho pins s σ H _ I h) fun ov s1 ⟨x,H1,I1,r1,q1⟩=>?_));refine ZZ (ZU (thn (hi pins s1 σ H1 _ I1 q1) fun iv s2 ⟨y,H2,I2,r2,q2⟩=>?_));refine ZZ (wpAny_standAt (ZZ (ZU (thn (hs pins s2 σ H2 x y v ov iv u _ I2 r1 r2 r q2) fun _ s3 ⟨H3,I3,q3⟩=>?_))));exact wpAny_release ⟨σ,H3,I3,q3⟩
def GM(te:TE)(g:TG):TS:=fun D σ H=>te σ H fun x H1=>g x σ H1 D.nx
theorem D5{tg e:Expr}{te:TE}{g:TG}(he:PE X e te)(hg:PG X tg g)(hs:swapsWithSole [tg] e pos.line X.env=pure false:=by rfl)(hw:swappedStores [tg] e X.env=pure none:=by rfl)
  (h1:(assignEach [tg] X.env).map (·.2)=[assign tg X.env]:=by rfl):PS X (.Assign [tg] e pos) (GM te g):=by
 intro pins s σ H D I h;refine wpAny_Assign_stores (thn (he pins s σ H _ I h) fun v s1 ⟨x,H1,I1,r1,q1⟩=>?_) hs hw;rw[h1];exact thn (hg pins s1 σ H1 x v _ I1 r1 q1) fun _ s2 q=>q
theorem vI{i:Nat}{x:Str}{e:Expr}{te:TE}{pos':Pos}(hN:X.N.Nodup)(hi:X.N[i]?=some x)(hx:Loc X.env.scope x)(he:PE X e te)(hs:swapsWith e (some (.Name x pos')) pos.line X.env=pure false:=by rfl)(hf:X.fn x=true∨X.env.scope.names.lookup x=some .local:=by first | exact .inl rfl | exact .inr rfl | assumption) :
  PS X (.Assign [.Name x pos'] e pos) (GM te (bT i)):=by
 intro pins s σ H D I h;refine wpAny_Assign_Name (thn (he pins s σ H _ I h) fun v s1 ⟨y,H1,I1,r1,q1⟩=>?_) hs;exact jO I1 hN hi hx r1 (fun s2 I2=>⟨_,H1,I2,q1⟩) hf
end
section
variable{X:Cx}{pos:Pos}
def QI(c:TT)(tb:TS):TS:=fun D σ H=>∃W:Nat→St→Hp→Prop,(∃m,W m σ H)∧∀m σ H,W m σ H →
 c σ H fun b H1=>if b=true then ∃N:St→Hp→Prop,(∀σ' H',N σ' H'→∃m',m' < m∧W m' σ' H')∧tb { D with nx:=N,ct:=N,bk:=D.nx } σ H1 else D.nx σ H1
theorem JQ{c:Expr}{body:List Stmt}{tc:TT}{tb:TS}(hp:PassesOwn (model X.prog X.w) X.A X.env X.xe)(hc:PT X c tc)(hb:PSs X body tb):PS X (.While c body [] pos) (QI tc tb):=by
 intro pins s σ H D I h;obtain⟨W,⟨m0,w0⟩,turn⟩:=h;refine wpAny_While (codeAny_whileLoop (fun n s'=>∃σ' H',Inv X pins σ' H' s'∧W n σ' H') ?_ m0 ⟨σ,H,I,w0⟩);rintro n s1 ⟨σ1,H1,I1,w1⟩;refine wpAny_passesOwn hp (thn (hc pins s1 σ1 H1 _ I1 (turn n σ1 H1 w1)) fun b s2 ⟨H2,I2,q2⟩=>?_);cases b with
 |true =>
  obtain⟨N,hN,q2⟩:=q2;rw[if_pos rfl];refine wpAny_passesOwn hp (thn (hb pins s2 σ1 H2 _ I2 q2) fun f s3 q3=>?_);cases f with
  |next =>
   obtain⟨σ3,H3,I3,n3⟩:=q3;obtain⟨m',hm,w3⟩:=hN σ3 H3 n3;exact⟨m',hm,σ3,H3,I3,w3⟩
  |cont =>
   obtain⟨σ3,H3,I3,n3⟩:=q3;obtain⟨m',hm,w3⟩:=hN σ3 H3 n3;exact⟨m',hm,σ3,H3,I3,w3⟩
  |brk=>exact q3
  |ret v=>exact q3
 |false =>
  rw[if_neg Bool.false_ne_true];exact wpAny_execs_nil ⟨σ1,H2,I2,q2⟩
end
structure It where
 go:Nat→Hp→Prop
 yld:Nat→Hp→V→Hp→Prop
 stop:Nat→Hp→Prop
def rB(X:Cx)(pins:List (Addr×Obj))(H:Hp)(b:Addr):Prop :=
 H b=none∧b≠X.env.locals∧b∉X.fs∧(b∈X.ex∨X.s₀.heap.objs.size≤b)∧(∀x c,X.env.cells.lookup x=some c→c≠b)∧∀p∈X.pn++pins,p.1≠b
theorem Inv.fpOk{X:Cx}{pins:List (Addr×Obj)}{σ:St}{H H':Hp}{s:Shared}{b:Addr}(I:Inv X pins σ H s)(hb:s.heap.objs.size≤b)(hn:H' b=none):rB X pins H' b:=by
 refine⟨hn,Nat.ne_of_gt (Xz I.lt hb),I.nofs hb,.inr (YQ I.sz hb),fun x c e z=>?_,fun p hp z=>?_⟩
 ·obtain⟨v,q⟩:=I.cell x c e;exact absurd (Xz q.lt (by rw[z];exact hb)) (Nat.lt_irrefl _)
 ·exact absurd (Xz (Heap.lt_size (I.pin p hp).1) (by rw[z];exact hb)) (Nat.lt_irrefl _)
structure Turn(P:Program)(w:World)(K:PySem.W.Frag)(tg:Expr)(J:It)(fp:List Addr)(it:Addr)(tn:Nat→Heap→Prop):Prop where
 mem:it∈fp
 obj:∀i h,tn i h→∀b∈fp,∃o,h.get? b=some o∧∀v,o.data≠.cell v
 keep:∀i h h',tn i h→(∀b∈fp,∀o,h.get? b=some o→h'.get? b=some o)→tn i h'
 item:∀(X:Cx),X.prog=P→X.w=w→X.K=K→X.calm=true→∀(i:Nat) (pins:List (Addr×Obj)) (s:Shared) (σ:St) (H:Hp) (E:Value→Shared→Prop),Inv X pins σ H s→(∀b∈fp,rB X pins H b)→tn i s.heap→J.go i H →
  wpAny (model P w) X.A (pyNext (.ref it)) (fun r s1=>∃u,r=some u ∧
   wpAny (model P w) X.A (letOwnedTupleGo tg (.ref it) u) (fun _ s2=>∃x H',Inv X pins σ H' s2∧RelV x u∧J.yld i H x H'∧tn (i+1) s2.heap∧∀b∈fp,H' b=none) E s1) E s
 done:∀(X:Cx),X.prog=P→X.w=w→X.K=K→X.calm=true→∀(i:Nat) (pins:List (Addr×Obj)) (s:Shared) (σ:St) (H:Hp) (E:Value→Shared→Prop),Inv X pins σ H s→(∀b∈fp,rB X pins H b)→tn i s.heap→J.stop i H →
  wpAny (model P w) X.A (pyNext (.ref it)) (fun r s1=>r=none∧Inv X pins σ H s1) E s
 self:∀(A:Around) (i:Nat) (s:Shared) (Q:Value→Shared→Prop) (E:Value→Shared→Prop),tn i s.heap→Q (.ref it) s→wpAny (model P w) A (pyIter (.ref it)) Q E s
abbrev TI:=St→Hp→(It→Hp→Prop)→Prop
def PIE(X:Cx)(pins:List (Addr×Obj))(σ:St)(tg:Expr)(R:It→Hp→Prop)(itv:Value)(s2:Shared):Prop :=
 ∃(it:Addr) (fp:List Addr) (tn:Nat→Heap→Prop) (J:It) (H':Hp),itv=.ref it∧Inv X pins σ H' s2∧Turn X.prog X.w X.K tg J fp it tn∧tn 0 s2.heap∧(∀b∈fp,rB X pins H' b)∧R J H'
def PI(X:Cx)(tg iter:Expr)(wi:TI):Prop :=
 ∀(pins:List (Addr×Obj)) (s:Shared) (σ:St) (H:Hp) (R:It→Hp→Prop),Inv X pins σ H s→wi σ H R →
  wpAny (model X.prog X.w) X.A (eval iter X.env) (fun v s1=>wpAny (model X.prog X.w) X.A (pyIter v) (PIE X pins σ tg R) X.xe s1) X.xe s
theorem LK{M:Model}{A:Around}{E:Value→Shared→Prop}{s:Shared}{tg:Expr}{it:Addr}{u:Value}{o:Obj}{n:String}{vs:Array Value}{Q:Unit→Shared→Prop}(ho:s.heap.get? it=some o)(hc:o.cls=.type n)(hd:o.data=.fields vs)
  (hn:["enumerate","zip","dict_itemiterator","dict_reverseitemiterator","odict_iterator","itertools.zip_longest","itertools.pairwise"].contains n=false) (hQ:Q () s):wpAny M A (letOwnedTupleGo tg (.ref it) u) Q E s:=by
 unfold letOwnedTupleGo;cases tg<;>first
  |exact ZY hQ
  |(cases u<;>first
    |exact ZY hQ
    |(refine ZZ (wpAny_load ho ?_);rw[hc,hd];show wpAny M A (if (["enumerate","zip","dict_itemiterator","dict_reverseitemiterator","odict_iterator","itertools.zip_longest","itertools.pairwise"].contains n&&vs[0]?==some (rawInt _))=true then _ else _) Q E s;rw[if_neg (by intro h;rw[hn,Bool.false_and]at h;cases h)];exact ZY hQ))
def Itl(K:PySem.W.Frag)(a:Addr):It :=
 ⟨fun i H=>∃xs x,SqL K H a xs∧xs[i]?=some x,fun i H x H'=>H'=H∧∀xs,SqL K H a xs→xs[i]?=some x,fun i H=>∃xs,SqL K H a xs∧xs.length≤i⟩
def Itr(lo:Int)(n:Nat):It:=⟨fun i _=>i<n,fun i H x H'=>H'=H∧x=.int (lo+i),fun i _=>n≤i⟩
theorem GJ{P:Program}{w:World}{K:PySem.W.Frag}{tg:Expr}(a it:Addr):Turn P w K tg (Itl K a) [it] it (fun i h=>h.IsListIter it a i) where
 mem:=by simp
 obj:=fun i h st b hb=>by
  have e:b=it:=by simpa using hb
  subst e;obtain⟨o,e,c,d⟩:=st;exact⟨o,e,fun v z=>by rw[d]at z;cases z⟩
 keep:=fun i h h' st k=>st.at fun o e=>k it (by simp) o e
 item:=by
  intro X hP hw hK hc i pins s σ H E I hf st hg;subst hP hw hK;obtain⟨xs,x,hq,hx⟩:=hg;obtain⟨its,rv,p,hz⟩:=I.list hq;obtain⟨u,hu,ru⟩:=rv.get hx;obtain⟨f0,f1,f2,f3,f4,f5⟩:=hf it (by simp);refine wpAny_pyNext_list_item st p.isList (x:=u) (by simpa using hu) fun h' st' sb=>?_;have I1:Inv X pins σ H { s with heap:=h' }:=I.turned (t':=s.toks) (fun b o hb e=>(sb.2 b hb).trans e) f0 f1 f3 f4 f5;obtain⟨o,e,c,d⟩:=id st';exact⟨u,rfl,LK (s:={ s with heap:=h' }) e c d (by decide) ⟨x,H,I1,ru,⟨rfl,fun ys hy=>by rw[I.list_inj hy hq];exact hx⟩,st',fun b hb=>(hf b hb).1⟩⟩
 done:=by
  intro X hP hw hK hc i pins s σ H E I hf st hg;subst hP hw hK;obtain⟨xs,hq,hx⟩:=hg;obtain⟨its,rv,p,hz⟩:=I.list hq;obtain⟨f0,f1,f2,f3,f4,f5⟩:=hf it (by simp);have hl:=rv.length;exact wpAny_pyNext_list_end (I.ok.hd hc) st p.isList (by simp;lia) fun h' eb=>⟨rfl,I.turned (t':=s.toks) (fun b o hb e=>eb b o hb e) f0 f1 f3 f4 f5⟩
 self:=fun _ _ _ _ _ st h=>wpAny_pyIter_listiter st h
theorem DR{P:Program}{w:World}{K:PySem.W.Frag}{tg:Expr}(it:Addr)(lo:Int)(n:Nat):Turn P w K tg (Itr lo n) [it] it (fun i h=>IsRangeIter h it (lo+(i:Nat)*1) ((n:Int)-(i:Nat)) 1) where
 mem:=by simp
 obj:=fun i h st b hb=>by
  have e:b=it:=by simpa using hb
  subst e;exact⟨_,st,fun v z=>by
   have z':Data.fields _=Data.cell v:=z;cases z'⟩
 keep:=fun i h h' st k=>k it (by simp) _ st
 item:=by
  intro X hP hw hK hc i pins s σ H E I hf st hg;subst hP hw hK;obtain⟨f0,f1,f2,f3,f4,f5⟩:=hf it (by simp);have W:=Walks.range (prog:=X.prog) (w:=X.w) (I.ok.hd hc) it lo 1 n;refine W.item i s _ _ hg st fun v h' tk hv st' kk=>?_;obtain⟨t,rfl⟩:=hv;have I1:Inv X pins σ H { s with heap:=h',toks:=tk }:=I.turned (fun b o hb e=>kk b o (by simpa using hb) e) f0 f1 f3 f4 f5;refine⟨_,rfl,LK (s:={ s with heap:=h',toks:=tk }) (n:="range_iterator") st' rfl rfl (by decide) ⟨.int (lo+i),H,I1,⟨t,?_⟩,⟨rfl,rfl⟩,st',fun b hb=>(hf b hb).1⟩⟩;rw[Int.mul_one]
 done:=by
  intro X hP hw hK hc i pins s σ H E I hf st hg;subst hP hw hK;obtain⟨f0,f1,f2,f3,f4,f5⟩:=hf it (by simp);exact wpAny_pyNext_range_end (I.ok.hd hc) st (by have:n≤i:=hg;lia) fun h' eb=>⟨rfl,I.turned (t':=s.toks) (fun b o hb e=>eb b o hb e) f0 f1 f3 f4 f5⟩
 self:=fun _ _ _ _ _ st h=>wpAny_pyIter_rangeiter st h
end L2
namespace L2
open PySem PySem.Spec PyProof.Rows
section
variable{X:Cx}{tg:Expr}
def UL(K:PySem.W.Frag)(tl:TE):TI:=fun σ H R=>tl σ H fun x H1=>∃a,x=.ref a∧(∃xs,SqL K H1 a xs)∧R (Itl K a) H1
theorem cD{l:Expr}{tl:TE}(hl:PE X l tl):PI X tg l (UL X.K tl):=by
 intro pins s σ H R I h;refine thn (hl pins s σ H _ I h) fun v s1 ⟨x,H1,I1,r1,q1⟩=>?_;obtain⟨a,e,⟨xs,hq⟩,q⟩:=q1;subst e;cases r1;obtain⟨its,rv,p,hz⟩:=I1.list hq;refine wpAny_pyIter_list p.isList ?_;refine⟨s1.heap.objs.size,[s1.heap.objs.size],_,_,H1,rfl,I1.kept (t':=s1.toks) fun b o e=>Heap.get?_push_of_some _ e,GJ a _,⟨_,Heap.get?_push_size _ rfl,rfl,rfl⟩,fun b hb=>?_,q⟩;have e:b=s1.heap.objs.size:=by simpa using hb
 subst e;exact I1.fpOk (Nat.le_refl _) (I1.hok.fresh (Nat.le_refl _))
theorem BV{pins:List (Addr×Obj)}{σ:St}{H:Hp}{s:Shared}{R:It→Hp→Prop}{E:Value→Shared→Prop}{lo hi:Int}{t u v:Tok}{tk:Nat}(I:Inv X pins σ H s)(h1 : -(2 ^ 62)≤lo)(h2:lo<2 ^ 62)(h3 : -(2 ^ 62)≤hi)(h4:hi<2 ^ 62)
  (q:R (Itr lo (hi-lo).toNat) H):wpAny (model X.prog X.w) X.A (pyIter (.ref s.heap.objs.size)) (PIE X pins σ tg R) E { s with heap:=s.heap.push { cls:=.type "range",data:=.fields #[.int lo t,.int hi u,.int 1 v] },toks:=tk }:=by
 refine wpAny_pyIter_range (IsRange.new ..) (small_one h1 h2 h3 h4) ?_;have I1:Inv X pins σ H { s with heap:=s.heap.push { cls:=.type "range",data:=.fields #[.int lo t,.int hi u,.int 1 v] },toks:=tk }:=I.kept fun b o e=>Heap.get?_push_of_some _ e;refine⟨(s.heap.push { cls:=.type "range",data:=.fields #[.int lo t,.int hi u,.int 1 v] }).objs.size,[(s.heap.push { cls:=.type "range",data:=.fields #[.int lo t,.int hi u,.int 1 v] }).objs.size],_,_,H,rfl,
  I1.kept (t':=tk) fun b o e=>Heap.get?_push_of_some _ e,DR _ lo (hi-lo).toNat,?_,fun b hb=>?_,q⟩
 ·have e1:lo+((0:Nat):Int)*1=lo:=by simp
  have e2:(((hi-lo).toNat:Nat):Int)-((0:Nat):Int)=Builtin.Range.rangeSize lo hi 1:=by rw[rangeSize_one];split<;>lia
  show IsRangeIter _ _ (lo+((0:Nat):Int)*1) ((((hi-lo).toNat:Nat):Int)-((0:Nat):Int)) 1;rw[e1,e2];exact Heap.get?_push_size _ rfl
 ·have e:b=(s.heap.push { cls:=.type "range",data:=.fields #[.int lo t,.int hi u,.int 1 v] }).objs.size:=by simpa using hb
  subst e;exact I1.fpOk (Nat.le_refl _) (I1.hok.fresh (Nat.le_refl _))
def UK(ta:TA):TI:=fun σ H R=>ta σ H fun vs H1=>∃j:Int,vs=[.int j]∧-(2 ^ 62)≤j∧j<2 ^ 62∧R (Itr 0 j.toNat) H1
def UJ(ta:TA):TI:=fun σ H R=>ta σ H fun vs H1=>∃i j:Int,vs=[.int i,.int j]∧(-(2 ^ 62)≤i∧i<2 ^ 62∧-(2 ^ 62)≤j∧j<2 ^ 62)∧R (Itr i (j-i).toNat) H1
theorem dC{a:Expr}{ta:TA}{p pos:Pos}(hg:Gl X "range")(hm:X.mg "range" = none)(ha:PA X [a] ta)(hs:starEach [a] X.env=[(false,eval a X.env)]:=by rfl):PI X tg (.Call (.Name "range" p) [a] [] pos) (UK ta):=by
 intro pins s σ H R I h;refine Call_ (sG I hg hm boot_range (PyProof.Rows.callWith_type1 (thn (ha pos pins s σ H _ I h) fun us s1 ⟨vs,H1,I1,r1,q1⟩=>?_) hs rfl));obtain⟨j,e,q1,q2,q⟩:=q1;subst e;cases r1 with
 |cons r rr =>
  cases rr;obtain⟨t,rfl⟩:=r;exact call_range_1 (BV I1 (by lia) (by lia) q1 q2 (by simpa using q))
theorem yM{a b:Expr}{ta:TA}{p pos:Pos}(hg:Gl X "range")(hm:X.mg "range" = none)(ha:PA X [a,b] ta)(hs:starEach [a,b] X.env=[(false,eval a X.env),(false,eval b X.env)]:=by rfl)(hs2:starEach [b] X.env=[(false,eval b X.env)]:=by rfl) :
  PI X tg (.Call (.Name "range" p) [a,b] [] pos) (UJ ta):=by
 intro pins s σ H R I h;refine Call_ (sG I hg hm boot_range (PyProof.Rows.callWith_type1 (thn (ha pos pins s σ H _ I h) fun us s1 ⟨vs,H1,I1,r1,q1⟩=>?_) (by rw[hs,hs2]) (by rw[hs2];rfl)));obtain⟨i,j,e,⟨q1,q2,q3,q4⟩,q⟩:=q1;subst e;cases r1 with
 |cons r rr =>
  cases rr with
  |cons r' rr =>
   cases rr;obtain⟨t,rfl⟩:=r;obtain⟨t',rfl⟩:=r';exact call_range_2 (BV I1 q1 q2 q3 q4 q)
def U7(wi:TI)(g:TG)(tb:TS):TS:=fun D σ H=>wi σ H fun J H1=>∃W:Nat→Nat→St→Hp→Prop,(∃m,W 0 m σ H1)∧∀i m σ H,W i m σ H →
 (J.stop i H∧D.nx σ H)∨(J.go i H∧∃N:St→Hp→Prop,(∀σ' H',N σ' H'→∃m',m' < m∧W (i+1) m' σ' H')∧∀x H',J.yld i H x H'→g x σ H' fun σ2 H2=>tb { D with nx:=N,ct:=N,bk:=D.nx } σ2 H2)
def rT(fp:List Addr)(h:Heap):List (Addr×Obj):=fp.filterMap fun b=>(h.get? b).map fun o=>(b,o)
theorem gD{fp:List Addr}{h:Heap}{b:Addr}{o:Obj}(hb:b∈fp)(e:h.get? b=some o):(b,o)∈rT fp h:=List.mem_filterMap.mpr ⟨b,hb,by rw[e];rfl⟩
theorem G9{fp:List Addr}{h:Heap}{p:Addr×Obj}(hp:p∈rT fp h):p.1∈fp∧h.get? p.1=some p.2:=by
 obtain⟨b,hb,e⟩:=List.mem_filterMap.mp hp;cases q:h.get? b with
 |none=>rw[q]at e;cases e
 |some o =>
  rw[q]at e;have e':(b,o)=p:=Option.some.inj e;subst e';exact⟨hb,q⟩
theorem Inv.pinned{pins:List (Addr×Obj)}{σ:St}{H:Hp}{s:Shared}{fp:List Addr}(I:Inv X pins σ H s)(hf:∀b∈fp,rB X pins H b)(ho:∀b∈fp,∃o,s.heap.get? b=some o∧∀v,o.data≠.cell v):Inv X (pins++rT fp s.heap) σ H s :=
 I.pins_of fun p hp=>(Zf.mp hp).elim (fun z=>I.pin p (List.mem_append_right _ z)) fun z=>by
  obtain⟨hb,e⟩:=G9 z;obtain⟨f0,f1,f2,_⟩:=hf p.1 hb;obtain⟨o,e',d⟩:=ho p.1 hb;rw[e]at e';cases e';exact⟨e,f0,f1,f2,d⟩
theorem Inv.unpinned{pins pl:List (Addr×Obj)}{σ:St}{H:Hp}{s:Shared}(I:Inv X (pins++pl) σ H s):Inv X pins σ H s:=I.pins_of fun p hp=>I.pin p (List.mem_append_right _ (List.mem_append_left _ hp))
theorem cR{iter:Expr}{body:List Stmt}{wi:TI}{g:TG}{tb:TS}{pos:Pos}(hp:PassesOwn (model X.prog X.w) X.A X.env X.xe)(hc:X.calm=true)(hi:PI X tg iter wi)(hg:PG X tg g)(hb:PSs X body tb)
  (hs:∀x,foldedSetIterable iter X.env x=pure x:=by intro _;rfl):PS X (.For tg iter body [] pos) (U7 wi g tb):=by
 intro pins s σ H D I h;refine wpAny_For (thn (hi pins s σ H _ I h) fun v s1 h1=>thn h1 fun itv s2 h2=>?_) hs;obtain⟨it,fp,tn,J,H2,e,I2,T,st2,f2,W,⟨m0,w0⟩,turn⟩:=h2;subst e;have stat:∀{H':Hp},(∀b∈fp,H' b=none)→∀b∈fp,rB X pins H' b:=fun hn b hb=>⟨hn b hb,(f2 b hb).2⟩
 refine codeAny_forLoop_any (fun n s'=>∃i σ' H',Inv X pins σ' H' s'∧tn i s'.heap∧(∀b∈fp,H' b=none)∧W i n σ' H') ?_ m0 ⟨0,σ,H2,I2,st2,fun b hb=>(f2 b hb).1,w0⟩;rintro n s3 ⟨i,σ3,H3,I3,st3,fr3,w3⟩;rcases turn i n σ3 H3 w3 with⟨stop,qn⟩ | ⟨go,N,hN,step⟩
 ·refine wpAny_passesOwn hp (thn (T.done X rfl rfl rfl hc i pins s3 σ3 H3 X.xe I3 (stat fr3) st3 stop) fun r s4 ⟨hr,I4⟩=>?_);subst hr;exact wpAny_execs_nil ⟨σ3,H3,I4,qn⟩
 ·refine wpAny_passesOwn hp (thn (T.item X rfl rfl rfl hc i pins s3 σ3 H3 X.xe I3 (stat fr3) st3 go) fun r s4 ⟨u,hr,h4⟩=>?_);subst hr;refine wpAny_passesOwn hp (thn h4 fun _ s5 ⟨x,H5,I5,r5,y5,st5,fr5⟩=>?_);have I5':=I5.pinned (stat fr5) (T.obj _ _ st5);refine wpAny_passesOwn hp (thn (hg _ s5 σ3 H5 x u _ I5' r5 (step x H5 y5)) fun _ s6 ⟨σ6,H6,I6,q6⟩=>?_);refine wpAny_passesOwn hp (thn (hb _ s6 σ6 H6 _ I6 q6) fun f s7 q7=>?_);have again:∀{σ7:St}{H7:Hp},Inv X (pins++rT fp s5.heap) σ7 H7 s7→N σ7 H7→∃m,m<n∧∃i σ' H',Inv X pins σ' H' s7∧tn i s7.heap∧(∀b∈fp,H' b=none)∧W i m σ' H':=fun {σ7 H7} I7 n7=>by
   obtain⟨m',hm,w7⟩:=hN σ7 H7 n7;refine⟨m',hm,i+1,σ7,H7,I7.unpinned,T.keep _ _ _ st5 fun b hb o e=>(I7.pin (b,o) (List.mem_append_right _ (List.mem_append_right _ (gD hb e)))).1,fun b hb=>?_,w7⟩;obtain⟨o,e,d⟩:=T.obj _ _ st5 b hb;exact(I7.pin (b,o) (List.mem_append_right _ (List.mem_append_right _ (gD hb e)))).2.1
  cases f with
  |next=>obtain⟨σ7,H7,I7,n7⟩:=q7;exact again I7 n7
  |cont=>obtain⟨σ7,H7,I7,n7⟩:=q7;exact again I7 n7
  |brk=>obtain⟨σ7,H7,I7,q7⟩:=q7;exact⟨σ7,H7,I7.unpinned,q7⟩
  |ret v=>obtain⟨x7,σ7,H7,I7,r7,q7⟩:=q7;exact⟨x7,σ7,H7,I7.unpinned,r7,q7⟩
end
theorem dR{K:PySem.W.Frag}{a:Addr}{xs:List V}{g:TG}{tb:TS}{D:Ends}{σ:St}{H:Hp}(Pv:Nat→St→Hp→Prop)(h0:Pv 0 σ H)(hl:∀i σ H,i≤xs.length→Pv i σ H→SqL K H a xs)
  (hs:∀i x σ H,xs[i]?=some x→Pv i σ H→g x σ H fun σ2 H2=>tb { D with nx:=Pv (i+1),ct:=Pv (i+1),bk:=D.nx } σ2 H2) (hd:∀σ H,Pv xs.length σ H→D.nx σ H) :
  ∃W:Nat→Nat→St→Hp→Prop,(∃m,W 0 m σ H)∧∀i m σ H,W i m σ H →
   ((Itl K a).stop i H∧D.nx σ H)∨((Itl K a).go i H∧∃N:St→Hp→Prop,(∀σ' H',N σ' H'→∃m',m' < m∧W (i+1) m' σ' H')∧∀x H',(Itl K a).yld i H x H'→g x σ H' fun σ2 H2=>tb { D with nx:=N,ct:=N,bk:=D.nx } σ2 H2):=by
 refine⟨fun i m σ H=>m=xs.length-i∧i≤xs.length∧Pv i σ H,⟨xs.length,by simp,Nat.zero_le _,h0⟩,?_⟩;rintro i m σ H ⟨rfl,hi,p⟩;have q:=hl i σ H hi p;by_cases hlt:i<xs.length
 ·refine .inr ⟨⟨xs,xs[i],q,by simp[hlt]⟩,Pv (i+1),fun σ' H' p'=>⟨xs.length-(i+1),by omega,rfl,hlt,p'⟩,fun x H' y=>?_⟩;obtain⟨e,y⟩:=y;subst e;exact hs i x σ _ (y xs q) p
 ·have e:i=xs.length:=by lia
  subst e;exact .inl ⟨⟨xs,q,Nat.le_refl _⟩,hd σ H p⟩
theorem dD{lo:Int}{n:Nat}{g:TG}{tb:TS}{D:Ends}{σ:St}{H:Hp}(Pv:Nat→St→Hp→Prop)(h0:Pv 0 σ H)
  (hs:∀i σ H,i<n→Pv i σ H→g (.int (lo+i)) σ H fun σ2 H2=>tb { D with nx:=Pv (i+1),ct:=Pv (i+1),bk:=D.nx } σ2 H2) (hd:∀σ H,Pv n σ H→D.nx σ H) :
  ∃W:Nat→Nat→St→Hp→Prop,(∃m,W 0 m σ H)∧∀i m σ H,W i m σ H →
   ((Itr lo n).stop i H∧D.nx σ H)∨((Itr lo n).go i H∧∃N:St→Hp→Prop,(∀σ' H',N σ' H'→∃m',m' < m∧W (i+1) m' σ' H')∧∀x H',(Itr lo n).yld i H x H'→g x σ H' fun σ2 H2=>tb { D with nx:=N,ct:=N,bk:=D.nx } σ2 H2):=by
 refine⟨fun i m σ H=>m=n-i∧i≤n∧Pv i σ H,⟨n,by simp,Nat.zero_le _,h0⟩,?_⟩;rintro i m σ H ⟨rfl,hi,p⟩;by_cases hlt:i<n
 ·refine .inr ⟨hlt,Pv (i+1),fun σ' H' p'=>⟨n-(i+1),by omega,rfl,hlt,p'⟩,fun x H' y=>?_⟩;obtain⟨e,y⟩:=y;subst e y;exact hs i σ _ hlt p
 ·have e:i=n:=by lia
  subst e;exact .inl ⟨Nat.le_refl _,hd σ H p⟩
end L2
namespace L2
open PySem PySem.Spec PyProof.Rows
abbrev R2:=V→V→Hp→VK→Prop
def OpR(X:Cx)(f:Value→Value→Sem Value)(r:R2):Prop :=
 ∀(pins:List (Addr×Obj)) (s:Shared) (σ:St) (H:Hp) (x y:V) (v u:Value) (Q:VK),Inv X pins σ H s→RelV x v→RelV y u→r x y H Q →
  wpAny (model X.prog X.w) X.A (f v u) (EP X pins σ Q) X.xe s
def UnR(X:Cx)(f:Value→Sem Value)(r:V→Hp→VK→Prop):Prop :=
 ∀(pins:List (Addr×Obj)) (s:Shared) (σ:St) (H:Hp) (x:V) (v:Value) (Q:VK),Inv X pins σ H s→RelV x v→r x H Q →
  wpAny (model X.prog X.w) X.A (f v) (EP X pins σ Q) X.xe s
def gW(X:Cx)(f:Value)(r:List V→Hp→VK→Prop):Prop :=
 ∀(pins:List (Addr×Obj)) (s:Shared) (σ:St) (H:Hp) (xs:List V) (us:List Value) (Q:VK),Inv X pins σ H s→b7 xs us→r xs H Q →
  wpAny (model X.prog X.w) X.A (call f us) (EP X pins σ Q) X.xe s
def V1(X:Cx)(r:V→Hp→(Bool→Hp→Prop)→Prop):Prop :=
 ∀(pins:List (Addr×Obj)) (s:Shared) (σ:St) (H:Hp) (x:V) (v:Value) (Q:Bool→Hp→Prop),Inv X pins σ H s→RelV x v→r x H Q →
  wpAny (model X.prog X.w) X.A (truthy v) (TP X pins σ Q) X.xe s
def tOp(r:R2)(ta tb:TE):TE:=fun σ H Q=>ta σ H fun x H1=>tb σ H1 fun y H2=>r x y H2 Q
def tUn(r:V→Hp→VK→Prop)(ta:TE):TE:=fun σ H Q=>ta σ H fun x H1=>r x H1 Q
def rI(C:Int→Int→Prop)(g:Int→Int→V):R2:=fun x y H Q=>∃i j,x=.int i∧y=.int j∧C i j∧Q (g i j) H
def rI0(g:Int→Int→V):R2:=fun x y H Q=>∃i j,x=.int i∧y=.int j∧Q (g i j) H
def rU(g:Int→V):V→Hp→VK→Prop:=fun x H Q=>∃i,x=.int i∧Q (g i) H
section
variable{X:Cx}{a b c:Expr}{ta tb tc:TE}{pos:Pos}
theorem R7(ha:PE X a ta)(hb:PE X b tb){pins:List (Addr×Obj)}{s:Shared}{σ:St}{H:Hp}{R:V→V→Hp→Prop}(I:Inv X pins σ H s)
  (h:ta σ H fun x H1=>tb σ H1 fun y H2=>R x y H2) {Q:Value→Shared→Prop}{f:Value→Value→Sem Value}
  (hf:∀v u s2 x y H2,Inv X pins σ H2 s2→RelV x v→RelV y u→R x y H2→wpAny (model X.prog X.w) X.A (f v u) Q X.xe s2) :
  wpAny (model X.prog X.w) X.A (eval a X.env) (fun v s₁=>wpAny (model X.prog X.w) X.A (eval b X.env) (fun u s₂=>wpAny (model X.prog X.w) X.A (f v u) Q X.xe s₂) X.xe s₁) X.xe s:=by
 refine thn (ha pins s σ H _ I h) fun v s1 ⟨x,H1,I1,r1,q1⟩=>?_;refine thn (hb pins s1 σ H1 _ I1 q1) fun u s2 ⟨y,H2,I2,r2,q2⟩=>?_;exact hf v u s2 x y H2 I2 r1 r2 q2
theorem aM{op:Operator}{r:R2}(ho:OpR X (binaryOp op) r)(ha:PE X a ta)(hb:PE X b tb):PE X (.BinOp a op b pos) (tOp r ta tb):=by
 intro pins s σ H Q I h;exact wpAny_BinOp (R7 ha hb I h fun v u s2 x y H2 I2 rx ry q=>ho pins s2 σ H2 x y v u Q I2 rx ry q)
theorem iH{op:UnaryOp}{r:V→Hp→VK→Prop}(ho:UnR X (unaryOp op) r)(ha:PE X a ta):PE X (.UnaryOp op a pos) (tUn r ta):=by
 intro pins s σ H Q I h;exact UnaryOp_ (thn (ha pins s σ H _ I h) fun v s1 ⟨x,H1,I1,r1,q1⟩=>ho pins s1 σ H1 x v Q I1 r1 q1)
theorem opI{f:Value→Value→Sem Value}{C:Int→Int→Prop}{g:Int→Int→Int}
  (rule:∀(i j:Int) (t u:Tok) (s:Shared) (Q:Value→Shared→Prop) (E:Value→Shared→Prop),C i j→Q (.int (g i j) s.toks) { s with toks:=s.toks+1 }→wpAny (model X.prog X.w) X.A (f (.int i t) (.int j u)) Q E s) :
  OpR X f (rI C fun i j=>.int (g i j)):=by
 intro pins s σ H x y v u Q I rx ry h;obtain⟨i,j,rfl,rfl,hc,q⟩:=h;obtain⟨t,rfl⟩:=rx;obtain⟨t',rfl⟩:=ry;exact rule i j t t' s _ _ hc ⟨.int (g i j),H,I.tok _,⟨_,rfl⟩,q⟩
theorem RF{f:Value→Value→Sem Value}{g:Int→Int→Int}
  (rule:∀(i j:Int) (t u:Tok) (s:Shared) (Q:Value→Shared→Prop) (E:Value→Shared→Prop),Q (.int (g i j) s.toks) { s with toks:=s.toks+1 }→wpAny (model X.prog X.w) X.A (f (.int i t) (.int j u)) Q E s) :
  OpR X f (rI0 fun i j=>.int (g i j)):=by
 intro pins s σ H x y v u Q I rx ry h;obtain⟨i,j,rfl,rfl,q⟩:=h;obtain⟨t,rfl⟩:=rx;obtain⟨t',rfl⟩:=ry;exact rule i j t t' s _ _ ⟨.int (g i j),H,I.tok _,⟨_,rfl⟩,q⟩
theorem NZ{f:Value→Value→Sem Value}{g:Int→Int→Bool}
  (rule:∀(i j:Int) (t u:Tok) (s:Shared) (Q:Value→Shared→Prop) (E:Value→Shared→Prop),Q (.bool (g i j)) s→wpAny (model X.prog X.w) X.A (f (.int i t) (.int j u)) Q E s) :
  OpR X f (rI0 fun i j=>.bl (g i j)):=by
 intro pins s σ H x y v u Q I rx ry h;obtain⟨i,j,rfl,rfl,q⟩:=h;obtain⟨t,rfl⟩:=rx;obtain⟨t',rfl⟩:=ry;exact rule i j t t' s _ _ ⟨.bl (g i j),H,I,rfl,q⟩
def V2(i j:Int):Prop:=0<j∧j<1073741824
def SQ(i j:Int):Prop:=0≤j∧j≤1000000∧i.natAbs<2 ^ 64
def SR(i j:Int):Prop:=(-(2 ^ 64)<i∧i<2 ^ 64)∨(-(2 ^ 64)<j∧j<2 ^ 64)
theorem SR.ok{i j:Int}(h:SR i j):IntMulOk i j:=by
 rcases h with⟨h1,h2⟩ | ⟨h1,h2⟩
 ·exact .of_left (intBits_le_64 h1 h2)
 ·exact .of_right (intBits_le_64 h1 h2)
theorem bM:OpR X (binaryOp .Add) (rI0 fun i j=>.int (i+j)):=RF fun _ _ _ _ _ _ _ q=>add_int q
theorem eG:OpR X (binaryOp .Sub) (rI0 fun i j=>.int (i-j)):=RF fun _ _ _ _ _ _ _ q=>sub_int q
theorem cW:OpR X (binaryOp .Mult) (rI SR fun i j=>.int (i*j)):=opI fun _ _ _ _ _ _ _ hc q=>mul_int q hc.ok
theorem c8:OpR X (binaryOp .FloorDiv) (rI V2 fun i j=>.int (i / j)):=opI fun i j _ _ _ _ _ hc q=>by
 have h1:(0:Int)<j:=hc.1;have h2:j<1073741824:=hc.2;exact floordiv_int (by lia) (by rw[Int.fdiv_eq_ediv_of_nonneg i (by lia)];exact q) (.inl (PyProof.noPylong_small (by omega)))
theorem cJ:OpR X (binaryOp .Mod) (rI (fun _ j=>0<j) fun i j=>.int (i%j)):=opI fun i j _ _ _ _ _ hc q=>by
 have h1:(0:Int)<j:=hc;exact mod_int' (by lia) (by rw[Int.fmod_eq_emod_of_nonneg i (by lia)];exact q)
theorem J0:OpR X (binaryOp .Pow) (rI SQ fun i j=>.int (i ^ j.toNat)):=opI fun _ _ _ _ _ _ _ hc q=>pow_int_small hc.1 hc.2.1 hc.2.2 q
theorem JZ:OpR X (binaryOp .LShift) (rI SQ fun i j=>.int (i*2 ^ j.toNat)):=opI fun _ _ _ _ _ _ _ hc q=>lshift_int_small hc.1 hc.2.1 hc.2.2 q
theorem J2:OpR X (binaryOp .BitOr) (rI0 fun i j=>.int (Builtin.bitOr i j)):=RF fun _ _ _ _ _ _ _ q=>or_int q
theorem unI{f:Value→Sem Value}{g:Int→Int}
  (rule:∀(i:Int) (t:Tok) (s:Shared) (Q:Value→Shared→Prop) (E:Value→Shared→Prop),Q (.int (g i) s.toks) { s with toks:=s.toks+1 }→wpAny (model X.prog X.w) X.A (f (.int i t)) Q E s) :
  UnR X f (rU fun i=>.int (g i)):=by
 intro pins s σ H x v Q I rx h;obtain⟨i,rfl,q⟩:=h;obtain⟨t,rfl⟩:=rx;exact rule i t s _ _ ⟨.int (g i),H,I.tok _,⟨_,rfl⟩,q⟩
theorem e8:UnR X (unaryOp .USub) (rU fun i=>.int (-i)):=unI fun _ _ _ _ _ q=>neg_int q
end
def TM:V→V→Bool
 |.non,.non=>true | .non,.int _=>true | .int _,.non=>true | .non,.bl _=>true | .bl _,.non=>true | .non,.str _=>true | .str _,.non=>true
 |.int _,.int _=>true | .bl _,.bl _=>true | .str _,.str _=>true | .byt _,.byt _=>true
 |.int _,.str _=>true | .str _,.int _=>true | .bl _,.str _=>true | .str _,.bl _=>true
 |_,_=>false
def rEq:R2:=fun x y H Q=>TM x y=true∧Q (.bl (decide (x=y))) H
def rNe:R2:=fun x y H Q=>TM x y=true∧Q (.bl (!decide (x=y))) H
theorem GA{i j:Int}:decide (V.int i=V.int j)=(i==j):=by
 rw[Xg];simp
theorem L6{i j:Bool}:decide (V.bl i=V.bl j)=(i==j):=by
 rw[Xg];simp
theorem F7{i j:Str}:decide (V.str i=V.str j)=(i==j):=by
 rw[Xg];simp
theorem GC{i j:Array UInt8}:decide (V.byt i=V.byt j)=(i.toList==j.toList):=by
 rw[Xg];cases i;cases j;simp
section
variable{X:Cx}{a b c:Expr}{ta tb tc:TE}{pos:Pos}
theorem cI{pins:List (Addr×Obj)}{σ:St}{H:Hp}{s:Shared}{Q:VK}{k k':Bool}(I:Inv X pins σ H s)(q:Q (.bl k) H)(e:k=k'):EP X pins σ Q (.bool k') s:=by
 subst e;exact⟨.bl k,H,I,rfl,q⟩
theorem dO:OpR X (compareOp .Eq) rEq:=by
 intro pins s σ H x y v u Q I rx ry h;obtain⟨hs,q⟩:=h;cases x with
 |non =>
  cases rx;cases y with
  |non=>cases ry;exact PySem.EqNone.eq_none_none (cI I q (by simp))
  |bl j=>cases ry;exact PySem.EqNone.eq_none_bool (cI I q (by simp))
  |int j=>obtain⟨t',rfl⟩:=ry;exact PySem.EqNone.eq_none_int (cI I q (by simp))
  |str j=>obtain⟨t',rfl⟩:=ry;exact PySem.EqNone.eq_none_str (cI I q (by simp))
  |_=>exact absurd (show false=true from hs) Bool.false_ne_true
 |bl i =>
  cases rx;cases y with
  |non=>cases ry;exact PySem.EqNone.eq_bool_none (cI I q (by simp))
  |bl j=>cases ry;exact eq_bool (cI I q L6)
  |str j=>obtain⟨t',rfl⟩:=ry;exact PySem.EqMixed.eq_bool_str (cI I q (by simp))
  |_=>exact absurd (show false=true from hs) Bool.false_ne_true
 |int i =>
  obtain⟨t,rfl⟩:=rx;cases y with
  |non=>cases ry;exact PySem.EqNone.eq_int_none (cI I q (by simp))
  |int j=>obtain⟨t',rfl⟩:=ry;exact eq_int (cI I q GA)
  |str j=>obtain⟨t',rfl⟩:=ry;exact PySem.EqMixed.eq_int_str (cI I q (by simp))
  |_=>exact absurd (show false=true from hs) Bool.false_ne_true
 |str i =>
  obtain⟨t,rfl⟩:=rx;cases y with
  |non=>cases ry;exact PySem.EqNone.eq_str_none (cI I q (by simp))
  |bl j=>cases ry;exact PySem.EqMixed.eq_str_bool (cI I q (by simp))
  |int j=>obtain⟨t',rfl⟩:=ry;exact PySem.EqMixed.eq_str_int (cI I q (by simp))
  |str j=>obtain⟨t',rfl⟩:=ry;exact eq_str (cI I q F7)
  |_=>exact absurd (show false=true from hs) Bool.false_ne_true
 |byt i =>
  obtain⟨t,rfl⟩:=rx;cases y with
  |byt j=>obtain⟨t',rfl⟩:=ry;exact PySem.W.eq_bytes (cI I q GC)
  |_=>exact absurd (show false=true from hs) Bool.false_ne_true
 |_=>cases y<;>exact absurd (show false=true from hs) Bool.false_ne_true
theorem oX:OpR X (compareOp .NotEq) rNe:=by
 intro pins s σ H x y v u Q I rx ry h;obtain⟨hs,q⟩:=h;cases x with
 |non =>
  cases rx;cases y with
  |non=>cases ry;exact PySem.EqNone.ne_none_none (cI I q (by simp))
  |bl j=>cases ry;exact PySem.EqNone.ne_none_bool (cI I q (by simp))
  |int j=>obtain⟨t',rfl⟩:=ry;exact PySem.EqNone.ne_none_int (cI I q (by simp))
  |str j=>obtain⟨t',rfl⟩:=ry;exact PySem.EqNone.ne_none_str (cI I q (by simp))
  |_=>exact absurd (show false=true from hs) Bool.false_ne_true
 |bl i =>
  cases rx;cases y with
  |non=>cases ry;exact PySem.EqNone.ne_bool_none (cI I q (by simp))
  |bl j=>cases ry;exact ne_bool (cI I q (congrArg not L6))
  |str j=>obtain⟨t',rfl⟩:=ry;exact PySem.EqMixed.ne_bool_str (cI I q (by simp))
  |_=>exact absurd (show false=true from hs) Bool.false_ne_true
 |int i =>
  obtain⟨t,rfl⟩:=rx;cases y with
  |non=>cases ry;exact PySem.EqNone.ne_int_none (cI I q (by simp))
  |int j=>obtain⟨t',rfl⟩:=ry;exact ne_int (cI I q (congrArg not GA))
  |str j=>obtain⟨t',rfl⟩:=ry;exact PySem.EqMixed.ne_int_str (cI I q (by simp))
  |_=>exact absurd (show false=true from hs) Bool.false_ne_true
 |str i =>
  obtain⟨t,rfl⟩:=rx;cases y with
  |non=>cases ry;exact PySem.EqNone.ne_str_none (cI I q (by simp))
  |bl j=>cases ry;exact PySem.EqMixed.ne_str_bool (cI I q (by simp))
  |int j=>obtain⟨t',rfl⟩:=ry;exact PySem.EqMixed.ne_str_int (cI I q (by simp))
  |str j=>obtain⟨t',rfl⟩:=ry;exact ne_str (cI I q (congrArg not F7))
  |_=>exact absurd (show false=true from hs) Bool.false_ne_true
 |byt i =>
  obtain⟨t,rfl⟩:=rx;cases y with
  |byt j=>obtain⟨t',rfl⟩:=ry;exact PySem.W.ne_bytes (cI I q (congrArg not GC))
  |_=>exact absurd (show false=true from hs) Bool.false_ne_true
 |_=>cases y<;>exact absurd (show false=true from hs) Bool.false_ne_true
theorem p9:OpR X (compareOp .Lt) (rI0 fun i j=>.bl (decide (i<j))):=NZ fun _ _ _ _ _ _ _ q=>lt_int q
theorem PR:OpR X (compareOp .LtE) (rI0 fun i j=>.bl (decide (i≤j))):=NZ fun _ _ _ _ _ _ _ q=>le_int q
theorem B0:OpR X (compareOp .Gt) (rI0 fun i j=>.bl (decide (j<i))):=NZ fun _ _ _ _ _ _ _ q=>gt_int q
theorem J3:OpR X (compareOp .GtE) (rI0 fun i j=>.bl (decide (j≤i))):=NZ fun _ _ _ _ _ _ _ q=>ge_int q
theorem G4:OpR X (compareOp .In) (fun x y H Q=>∃i j,x=.str i∧y=.str j∧Q (.bl (!(Builtin.Str.occurrences j i 0 j.length 1).isEmpty)) H):=by
 intro pins s σ H x y v u Q I rx ry h;obtain⟨i,j,rfl,rfl,q⟩:=h;obtain⟨t,rfl⟩:=rx;obtain⟨t',rfl⟩:=ry;exact in_str (cI I q rfl)
theorem AG:OpR X (compareOp .Is) (fun x y H Q=>y=.non∧Q (.bl (decide (x=.non))) H):=by
 intro pins s σ H x y v u Q I rx ry h;obtain⟨rfl,q⟩:=h;cases ry;refine is_none_gen (cI I q ?_);cases x<;>first
  |(cases rx;rfl)
  |(obtain⟨t,rfl⟩:=rx;rfl)
theorem p7:OpR X (compareOp .NotIn) (fun x y H Q=>∃i j,x=.str i∧y=.str j∧Q (.bl (!(!(Builtin.Str.occurrences j i 0 j.length 1).isEmpty))) H):=by
 intro pins s σ H x y v u Q I rx ry h;obtain⟨i,j,rfl,rfl,q⟩:=h;obtain⟨t,rfl⟩:=rx;obtain⟨t',rfl⟩:=ry;exact notIn_str (cI I q rfl)
theorem bA(b:Expr){op:CmpOp}(h:op≠.In:=by decide)(h2:op≠.NotIn:=by decide):behindInMarks op b=false:=by
 have e1:(op==CmpOp.In)=false:=by cases op<;>first | rfl | exact absurd rfl h
 have e2:(op==CmpOp.NotIn)=false:=by cases op<;>first | rfl | exact absurd rfl h2
 cases b<;>simp[behindInMarks,e1,e2]
theorem cZ{op:CmpOp}{r:R2}(ho:OpR X (compareOp op) r)(ha:PE X a ta)(hb:PE X b tb)(hm:behindInMarks op b=false):PE X (.Compare a [op] [b] pos) (tOp r ta tb):=by
 intro pins s σ H Q I h;exact wpAny_Compare1 (R7 ha hb I h fun v u s2 x y H2 I2 rx ry q=>ho pins s2 σ H2 x y v u Q I2 rx ry q) hm
def O9(t:TE):TT:=fun σ H Q=>t σ H fun x H'=>∃k,x=.bl k∧Q k H'
theorem aS{op:CmpOp}{r:R2}(ho:OpR X (compareOp op) r)(ha:PE X a ta)(hb:PE X b tb)(hm:behindInMarks op b=false):PT X (.Compare a [op] [b] pos) (O9 (tOp r ta tb)):=by
 intro pins s σ H Q I h;refine wpAny_isTrue_Compare1 (thn (ha pins s σ H _ I h) fun v s1 ⟨x,H1,I1,r1,q1⟩=>thn (hb pins s1 σ H1 _ I1 q1) fun u s2 ⟨y,H2,I2,r2,q2⟩ =>
  thn (ho pins s2 σ H2 x y v u _ I2 r1 r2 q2) fun c s3 ⟨z,H3,I3,r3,k,e,q3⟩=>?_) hm
 subst e;cases r3;exact wpAny_truthy_bool ⟨H3,I3,q3⟩
def IV(r r':R2)(ta tb tc:TE):TE:=fun σ H Q=>ta σ H fun x H1=>tb σ H1 fun y H2=>r x y H2 fun z H3=>∃k,z=.bl k ∧
 (if k=true then tc σ H3 fun w' H4=>r' y w' H4 Q else Q (.bl false) H3)
theorem JO{op op':CmpOp}{r r':R2}(ho:OpR X (compareOp op) r)(ho':OpR X (compareOp op') r')(ha:PE X a ta)(hb:PE X b tb)(hc:PE X c tc)
  (hm:lastMarks [op,op'] [b,c]=false:=by with_unfolding_all rfl):PT X (.Compare a [op,op'] [b,c] pos) (O9 (IV r r' ta tb tc)):=by
 intro pins s σ H Q I h;refine isTrue_chain (thn (ha pins s σ H _ I h) fun v s1 ⟨x,H1,I1,r1,q1⟩=>test_link (thn (hb pins s1 σ H1 _ I1 q1) fun u s2 ⟨y,H2,I2,r2,q2⟩ =>
  thn (ho pins s2 σ H2 x y v u _ I2 r1 r2 q2) fun d s3 ⟨z,H3,I3,r3,k,e,q3⟩=>?_)) hm
 subst e;cases r3;refine wpAny_truthy_bool ?_;cases k with
 |false =>
  obtain⟨k',e',q'⟩:=q3;cases e';exact ite_ff ⟨H3,I3,q'⟩
 |true =>
  refine ite_tt (test_last (thn (hc pins s3 σ H3 _ I3 q3) fun w' s4 ⟨z',H4,I4,r4,q4⟩=>thn (ho' pins s4 σ H4 y z' u w' _ I4 r2 r4 q4) fun d' s5 ⟨z2,H5,I5,r5,k2,e2,q5⟩=>?_));subst e2;cases r5;exact wpAny_truthy_bool ⟨H5,I5,q5⟩
def MN(K:PySem.W.Frag)(x:V)(H:Hp)(k:Bool):Prop :=
 match x with
 |.non=>k=false
 |.bl b=>k=b
 |.int i=>k=(i != 0)
 |.str y=>y.length≤ZW∧k=((y.length:Int) != 0)
 |.byt y=>y.size≤ZW∧k=((y.size:Int) != 0)
 |.ref p=>(∃xs,SqL K H p xs∧k=!xs.isEmpty)∨(∃xs,SqT K H p xs∧k=!xs.isEmpty)∨∃kvs,H p=some (.dK kvs)∧k=!kvs.isEmpty
 |_=>False
theorem EI{κ:Type}{kvs:List (κ×V)}{vs:List (κ×Value)}(r:KV kvs vs):(!vs.isEmpty)=!kvs.isEmpty:=by
 cases r<;>rfl
theorem wD{xs:List V}{its:List Value}(r:b7 xs its):(!its.toArray.isEmpty)=!xs.isEmpty:=by
 cases r<;>simp
theorem iL:(ZW:Nat)<2 ^ 63:=by rw[sizeLine_eq];decide
theorem IT:V1 X (fun x H Q=>∃k,MN X.K x H k∧Q k H):=by
 intro pins s σ H x v Q I rx h;obtain⟨k,e,q⟩:=h;have hl:=iL;have hs:ZW=16777216:=sizeLine_eq;cases x with
 |non =>
  cases rx;have e':k=false:=e;subst e';exact truthy_none ⟨H,I,q⟩
 |bl b =>
  cases rx;have e':k=b:=e;subst e';exact wpAny_truthy_bool ⟨H,I,q⟩
 |int i =>
  obtain⟨t,rfl⟩:=rx;have e':k=(i != 0):=e;subst e';exact PySem.P.truthy_int ⟨H,I,q⟩
 |str y =>
  obtain⟨t,rfl⟩:=rx;obtain⟨hy,e'⟩:y.length≤ZW∧k=((y.length:Int) != 0):=e;subst e';exact PySem.P.truthy_str (by lia) ⟨H,I.tok _,q⟩
 |byt y =>
  obtain⟨t,rfl⟩:=rx;obtain⟨hy,e'⟩:y.size≤ZW∧k=((y.size:Int) != 0):=e;subst e';exact PySem.W.truthy_bytes (by lia) ⟨H,I.tok _,q⟩
 |ref p =>
  cases rx;have e':(∃xs,SqL X.K H p xs∧k=!xs.isEmpty)∨(∃xs,SqT X.K H p xs∧k=!xs.isEmpty)∨∃kvs,H p=some (.dK kvs)∧k=!kvs.isEmpty:=e;rcases e' with⟨xs,hx,e'⟩ | ⟨xs,hx,e'⟩ | ⟨kvs,hx,e'⟩
  ·subst e';obtain⟨its,r,pl,hz⟩:=I.list hx;have hlen:=r.length;exact wpAny_truthy_list pl.isList (by simp only[List.size_toArray];lia) ⟨H,I.tok _,by rw[wD r];exact q⟩
  ·subst e';obtain⟨its,r,pl,hz⟩:=I.tuple hx;have hlen:=r.length;exact truthy_tuple pl (by simp only[List.size_toArray];lia) ⟨H,I.tok _,by rw[wD r];exact q⟩
  ·subst e';obtain⟨hz,hS,vs,r,m⟩:kvs.length≤ZW∧(p==sysModules)=false∧∃vs,KV kvs vs∧s.heap.DictOf (AJ X.prog X.w) p vs:=I.hok p _ hx;have hlen:kvs.length=vs.length:=Paired.length r;exact wpAny_truthy_dict hS m (by lia) ⟨H,I.tok _,by rw[EI r];exact q⟩
 |_=>exact(show False from e).elim
theorem gL(ha:PE X a ta)(he:∀whole,isTrue a X.env whole=(do let v ←whole;standAt a.pos;holding [v] (truthy v))) :
  PT X a (fun σ H Q=>ta σ H fun x H'=>∃k,MN X.K x H' k∧Q k H'):=by
 intro pins s σ H Q I h;exact isTrue_plain (thn (ha pins s σ H _ I h) fun v s1 ⟨x,H1,I1,r1,q1⟩=>IT pins s1 σ H1 x v Q I1 r1 q1) (he _)
theorem bO:OpR X (binaryOp .Add) (fun x y H Q=>∃i j,x=.str i∧y=.str j∧i.length+j.length≤ZW∧Q (.str (i++j)) H):=by
 intro pins s σ H x y v u Q I rx ry h;obtain⟨i,j,rfl,rfl,hz,q⟩:=h;obtain⟨t,rfl⟩:=rx;obtain⟨t',rfl⟩:=ry;exact add_str (fun t' tk=>⟨.str (i++j),H,I.tok _,⟨_,rfl⟩,q⟩) hz
theorem vals1{x:V}{us:List Value}(r:b7 [x] us):∃u,us=[u]∧RelV x u:=by
 cases r with
 |cons r1 r2=>cases r2;exact⟨_,rfl,r1⟩
theorem vals2{x y:V}{us:List Value}(r:b7 [x,y] us):∃u w',us=[u,w']∧RelV x u∧RelV y w':=by
 cases r with
 |cons r1 r2 =>
  cases r2 with
  |cons r3 r4=>cases r4;exact⟨_,_,rfl,r1,r3⟩
theorem DB:gW X (.builtin "abs") (fun xs H Q=>∃i,xs=[.int i]∧Q (.int (if i<0 then -i else i)) H):=by
 intro pins s σ H xs us Q I r h;obtain⟨i,rfl,q⟩:=h;obtain⟨u,rfl,t,rfl⟩:=vals1 r;exact call_abs_int fun u tk=>⟨.int (if i<0 then -i else i),H,I.tok _,⟨_,rfl⟩,q⟩
theorem j9:gW X (.type "int") (fun xs H Q=>(∃i,xs=[.int i]∧Q (.int i) H)∨∃k,xs=[.bl k]∧Q (.int (if k then 1 else 0)) H):=by
 intro pins s σ H xs us Q I r h;rcases h with⟨i,rfl,q⟩ | ⟨k,rfl,q⟩
 ·obtain⟨u,rfl,t,rfl⟩:=vals1 r;exact call_int_int ⟨.int i,H,I,⟨_,rfl⟩,q⟩
 ·obtain⟨u,rfl,r1⟩:=vals1 r;cases r1;exact call_int_bool ⟨.int (if k then 1 else 0),H,I.tok _,⟨_,rfl⟩,q⟩
theorem dJ:gW X (.type "str") (fun xs H Q=>∃i,xs=[.int i]∧i.natAbs.log2<1920∧Q (.str (toString i)) H):=by
 intro pins s σ H xs us Q I r h;obtain⟨i,rfl,hz,q⟩:=h;obtain⟨u,rfl,t,rfl⟩:=vals1 r;exact PySem.P.str_of_int hz ⟨.str _,H,I.tok _,⟨_,rfl⟩,q⟩
end
end L2
namespace L2
open PySem PySem.Spec PyProof.Rows
structure SN(h:Heap)(x dx C:Addr)(mA:Str→Option Value):Prop where
 obj:h.get? x=some (PySem.W.instObj C dx)
 ns:h.Ns1 dx mA
 ne:dx≠x
theorem HJ{h:Heap}{dx:Addr}{mA:Str→Option Value}(n:h.Ns1 dx mA):∃od,h.get? dx=some od∧∀name,PySem.W.lookIn name od=some (mA name):=by
 obtain⟨o,es,ep,ho,hd,hk,_,hm⟩:=n;refine⟨o,ho,fun name=>?_⟩;have e:=hm name;unfold nsFind findBy at e;rw[←Array.find?_toList]at e;unfold PySem.W.lookIn;rw[hd];dsimp only;split
 ·rename_i y q
  rw[q]at e;exact congrArg some e
 ·rename_i q
  rw[q]at e;have a:es.toList.any (·.refKey)=false:=by
   rw[List.any_eq_false];intro y hy;obtain⟨z,t,hkey⟩:=hk y (Array.mem_toList_iff.mp hy);simp[DictEntry.refKey,hkey]
  have a':¬es.toList.any (·.refKey)=true:=by rw[a];exact Bool.false_ne_true
  rw[if_neg a'];exact congrArg some e
theorem SN.look{h:Heap}{x dx C:Addr}{mA:Str→Option Value}(I:SN h x dx C mA):∃od,PySem.W.InstAt h x (PySem.W.instObj C dx) C (some od)∧∀name,PySem.W.lookIn name od=some (mA name) :=
 let⟨od,ho,hl⟩:=HJ I.ns
 ⟨od,⟨I.obj,rfl,rfl,ho⟩,hl⟩
section
variable{prog:Program}{w:World}{A:Around}{E:Value→Shared→Prop}{s:Shared}{K:PySem.W.Frag}{x dx C f:Addr}{mA:Str→Option Value}{name:Str}{v:Value}
end
section
variable{P:Program}{w:World}{H H':Hp}{h h':Heap}{a C dx:Addr}{fs fs':List (Str×V)}
theorem OO(hok:HOk P w H h)(e:H a=some (.ins C dx fs)):∃mA,SN h a dx C mA∧(∀f,SK (fs.lookup f) (mA f))∧PySem.Within mA (fs.map (·.1))∧fs.length≤1000∧H dx=some (.own a):=by
 obtain⟨d,z,ne,ob,mA,n,r,q⟩:=(show dM P w H h a (.ins C dx fs) from hok a _ e)
 exact⟨mA,⟨ob,n,ne⟩,r,q,z,d⟩
end
structure Cls(K:PySem.W.Frag)(C:Addr):Prop where
 pg:PySem.W.plainGet K C Str.empty=true
 hd:PySem.W.hasDictIn K C=true
 po:PySem.W.plainOver K C=true
 sa:PySem.W.findIn K (.ref C) "__setattr__" = some (some (.builtin "object.__setattr__"))
theorem Cls.get{K:PySem.W.Frag}{C:Addr}(c:Cls K C)(f:Str):PySem.W.plainGet K C f=true:=c.pg
section
variable{X:Cx}{pins:List (Addr×Obj)}{σ:St}{H:Hp}{s:Shared}{a C dx:Addr}{fs:List (Str×V)}{f:Str}{v:V}{A:Around}{E:Value→Shared→Prop}
end
section
variable{X:Cx}{o e value:Expr}{f:Str}{pos pos' tpos:Pos}{ta tv:TE}
end
section
variable{X:Cx}{pins:List (Addr×Obj)}{σ:St}{H:Hp}{s:Shared}{A:Around}{E:Value→Shared→Prop}{Q:Value→Shared→Prop}{c:Value}{b:Bool}
inductive sN(K:PySem.W.Frag)(H:Hp):V→Value→Prop where
 |non:sN K H .non (.type "NoneType")
 |bl (x:Bool):sN K H (.bl x) (.type "bool")
 |int (i:Int):sN K H (.int i) (.type "int")
 |str (x:Str):sN K H (.str x) (.type "str")
 |flt (x:UInt64):sN K H (.flt x) (.type "float")
 |lst {a:Addr}{xs:List V}(e:H a=some (.lst xs)):sN K H (.ref a) (.type "list")
 |frz {a:Addr}{o:Obj}{xs:List V}(e:H a=some (.frz o (.lst xs))):sN K H (.ref a) (.type "list")
 |tup {a:Addr}{xs:List V}(e:H a=some (.tup xs)):sN K H (.ref a) (.type "tuple")
 |dK {a:Addr}{kvs:List (Key×V)}(e:H a=some (.dK kvs)):sN K H (.ref a) (.type "dict")
 |dT {a:Addr}{kvs:List (List Key×V)}(e:H a=some (.dT kvs)):sN K H (.ref a) (.type "dict")
 |ins {a C dx:Addr}{fs:List (Str×V)}(e:H a=some (.ins C dx fs)) (cl:Cls K C) (ha:PySem.W.findIn K (.ref C) "__class__" = some (some (.builtin "object.__class__")))
   (hn:PySem.W.specialIn K (.builtin "object.__class__") "__get__" = some (some (.builtin "getset_descriptor.__get__"))) (htk:PySem.W.takesIn K (.builtin "object.__class__")=some true)
   (hm:PySem.W.mroIn K C (.type "object")=some true):sN K H (.ref a) (.ref C)
theorem HL{x:V}{u t:Value}(I:Inv X pins σ H s)(rx:RelV x u)(ty:sN X.K H x t)(e:PySem.W.kitOne X.K t c=some b)(h:∀tk,Q (.bool b) { s with toks:=tk }) :
  wpAny (model X.prog X.w) A (call (.builtin "isinstance") [u,c]) Q E s:=by
 cases ty with
 |non=>cases (show u=Value.none from rx);exact PySem.W.kia_one PySem.W.kitx_none I.kIn True.intro e (fun z=>nomatch z) h
 |bl y=>cases (show u=Value.bool y from rx);exact PySem.W.kia_one PySem.W.kitx_bool I.kIn True.intro e (fun z=>nomatch z) h
 |int i=>obtain⟨t,q⟩:=(show ∃t,u=Value.int i t from rx);cases q;exact PySem.W.kia_one PySem.W.kitx_int I.kIn True.intro e (fun z=>nomatch z) h
 |str y=>obtain⟨t,q⟩:=(show ∃t,u=Value.str y t from rx);cases q;exact PySem.W.kia_one PySem.W.kitx_str I.kIn True.intro e (fun z=>nomatch z) h
 |flt y=>obtain⟨t,q⟩:=(show ∃t,u=Value.float y t from rx);cases q;exact PySem.W.kia_one PySem.W.kitx_float I.kIn True.intro e (fun z=>nomatch z) h
 |@lst a xs ea =>
  cases (show u=Value.ref a from rx);obtain⟨_,_,n,_,h1⟩:=(show dM X.prog X.w H s.heap a (.lst xs) from I.hok a _ ea)
  exact PySem.W.kia_one PySem.W.kitx_list I.kIn ⟨_,h1,rfl⟩ e (fun z=>nomatch z) h
 |@frz a ob xs ea =>
  cases (show u=Value.ref a from rx);obtain⟨_,_,_,n,_,h1⟩:=(show dM X.prog X.w H s.heap a (.frz ob (.lst xs)) from I.hok a _ ea)
  exact PySem.W.kia_one PySem.W.kitx_list I.kIn ⟨_,h1,rfl⟩ e (fun z=>nomatch z) h
 |@tup a xs ea =>
  cases (show u=Value.ref a from rx);obtain⟨_,_,_,p⟩:=(show dM X.prog X.w H s.heap a (.tup xs) from I.hok a _ ea)
  obtain⟨o,h1,h2,_⟩:=p;exact PySem.W.kia_one PySem.W.kitx_tuple I.kIn ⟨o,h1,h2⟩ e (fun z=>nomatch z) h
 |@dK a kvs ea =>
  cases (show u=Value.ref a from rx);obtain⟨_,_,vs,_,p⟩:=(show dM X.prog X.w H s.heap a (.dK kvs) from I.hok a _ ea)
  obtain⟨o,es,ep,h1,h2,_⟩:=p;exact PySem.W.kia_one PySem.W.kitx_dict I.kIn ⟨o,h1,h2.1⟩ e (fun z=>nomatch z) h
 |@dT a kvs ea =>
  cases (show u=Value.ref a from rx);obtain⟨_,_,xs,_,o,es,ep,h1,h2,_⟩:=(show dM X.prog X.w H s.heap a (.dT kvs) from I.hok a _ ea)
  exact PySem.W.kia_one PySem.W.kitx_dict I.kIn ⟨o,h1,h2.1⟩ e (fun z=>nomatch z) h
 |@ins a C dx fs ea cl ha hn htk hm =>
  cases (show u=Value.ref a from rx);obtain⟨mA,O,_⟩:=OO I.hok ea;obtain⟨od,J,_⟩:=O.look;exact PySem.W.kia_one (PySem.W.kitx_own (cl.get _) cl.hd ha hn htk hm) I.kIn J e (fun z=>nomatch z) h
end
end L2
namespace L2
open PySem PySem.Spec PyProof.Rows
structure kD(k:Nat)(A:Around):Prop where
 hd:A.handled=none
 dp:A.depth+3*k+5<recursionLimit
 un:A.units+16*k+200<cLine
theorem kD.mono{j k:Nat}{A:Around}(r:kD k A)(h:j≤k):kD j A:=⟨r.hd,by have:=r.dp;lia,by have:=r.un;lia⟩
theorem kD.deeper{k:Nat}{A:Around}(r:kD (k+1) A)(env:Env):kD k (A.deeper env) :=
 ⟨r.hd,by have:=r.dp;show A.depth+1+3*k+5<_;lia,by have:=r.un;show A.units+3+16*k+200<_;lia⟩
theorem kD.depth{k:Nat}{A:Around}(r:kD k A):A.depth<recursionLimit:=by have:=r.dp;lia
theorem kD.units{k:Nat}{A:Around}(r:kD k A):A.units+64<cLine:=by have:=r.un;lia
def MX:TA:=fun _ H Q=>Q [] H
def uT(ta:TE)(tr:TA):TA:=fun σ H Q=>ta σ H fun x H1=>tr σ H1 fun xs H2=>Q (x::xs) H2
section
variable{X:Cx}{e:Expr}{es:List Expr}{te:TE}{t:TA}{pos:Pos}
theorem aC:PA X [] MX:=fun _ _ _ _ H Q I h=>Calls.spliced_nil ⟨[],H,I,.nil,h⟩
theorem aA(ha:PE X e te)(hr:PA X es t)(hs:starEach (e::es) X.env=(false,eval e X.env)::starEach es X.env:=by rfl):PA X (e::es) (uT te t):=by
 intro pos pins s σ H Q I h;rw[hs];show wpAny _ _ (spliced ((false,eval e X.env)::backTo pos (starEach es X.env))) _ _ s;refine Calls.spliced_cons (thn (ha pins s σ H _ I h) fun u s1 ⟨x,H1,I1,r1,q1⟩=>?_);exact thn (hr pos pins s1 σ H1 _ I1 q1) fun us s2 ⟨xs,H2,I2,r2,q2⟩=>⟨x::xs,H2,I2,.cons r1 r2,q2⟩
def QK(t:TA):TE:=fun σ H Q=>t σ H fun xs H1=>xs.length≤ZW∧∀p,H1 p=none→Q (.ref p) (upd H1 p (.tup xs))
def GL(t:TA):TE:=fun σ H Q=>t σ H fun xs H1=>xs.length≤ZW∧∀p,H1 p=none→Q (.ref p) (upd H1 p (.lst xs))
theorem cS{x1}(h:PA X es t):PE X (.Tuple es x1 pos) (QK t):=by
 intro pins s σ H Q I hq;refine wpAny_Tuple_spliced (thn (h pos pins s σ H _ I hq) fun us s1 ⟨xs,H1,I1,r,z,q⟩=>⟨by rw[←r.length];exact z,?_⟩);have hf:H1 s1.heap.objs.size=none:=I1.hok.fresh (Nat.le_refl _);refine⟨.ref s1.heap.objs.size,upd H1 s1.heap.objs.size (.tup xs),I1.laid (t':=s1.toks) (fun b u e=>Heap.get?_push_of_some _ e) (Nat.le_refl _) ?_,rfl,q _ hf⟩;exact⟨z,us,r,⟨_,Heap.get?_push_size _ rfl,rfl,_,rfl⟩⟩
theorem bI(h:PA X es t):PE X (.List es pos) (GL t):=by
 intro pins s σ H Q I hq;refine wpAny_List_spliced (thn (h pos pins s σ H _ I hq) fun us s1 ⟨xs,H1,I1,r,z,q⟩=>⟨by rw[←r.length];exact z,?_⟩);have hf:H1 s1.heap.objs.size=none:=I1.hok.fresh (Nat.le_refl _);refine⟨.ref s1.heap.objs.size,upd H1 s1.heap.objs.size (.lst xs),I1.laid (t':=s1.toks) (fun b u e=>Heap.get?_push_of_some _ e) (Nat.le_refl _) ?_,rfl,q _ hf⟩;exact⟨z,us,0,r,Heap.get?_push_size _ rfl⟩
end
abbrev Sp:=List V→Hp→VK→XK→Prop
abbrev CXT:=List Env→Hp→Shared→XK→Value→Shared→Prop
structure O5(P:Program)(w:World)(K:PySem.W.Frag)(mg:Str→Option Value)(base:Heap)(A:Around)(outer:List Env)(s:Shared)(H:Hp):Prop where
 frames:A.frames=some outer
 mod:Mod K mg base
 bs:∀b o,base.get? b=some o→s.heap.get? b=some o∧H b=none
 bsz:base.objs.size≤s.heap.objs.size
 funs:s.heap.FunFrames base outer
 frf:∀b∈frs outer,H b=none
 hok:HOk P w H s.heap
 bare:AllBare s.gens
def CE(outer:List Env)(P:Program)(w:World)(H:Hp)(s:Shared)(Q:VK)(u:Value)(s':Shared):Prop :=
 ∃v H',s'.os=s.os∧AllBare s'.gens∧Un (frs outer) [] H H' s.heap s'.heap∧HOk P w H' s'.heap∧RelV v u∧Q v H'
def CR(CX:CXT)(outer:List Env)(P:Program)(w:World)(H:Hp)(s:Shared)(Q:VK)(E:XK)(r:Result)(s':Shared):Prop :=
 match r with
 |.ok (.ret u)=>CE outer P w H s Q u s'
 |.ok _=>False
 |.error e=>CX outer H s E e s'
structure cU(P:Program)(w:World)(K:PySem.W.Frag)(mg:Str→Option Value)(base:Heap)(CX:CXT)(k:Nat)(f:Addr)(fd:FuncData)(ps:List Str)(sp:Sp):Prop where
 len:∀vs H Q E,sp vs H Q E→vs.length=ps.length
 run:∀(A:Around) (outer:List Env) (s:Shared) (H:Hp) (args:Args) (us:List Value) (vs:List V) (Q:VK) (E:XK),kD k A→O5 P w K mg base A outer s H→BindsTo s fd args (ps.zip us)→b7 vs us→sp vs H Q E →
  codeAny (model P w) A (.call (.ref f) args) (CR CX outer P w H s Q E) s
theorem cU.imp{P:Program}{w:World}{K:PySem.W.Frag}{mg:Str→Option Value}{base:Heap}{CX:CXT}{k:Nat}{f:Addr}{fd:FuncData}{ps:List Str}{sp sp':Sp}(F:cU P w K mg base CX k f fd ps sp)
  (h:∀vs H Q E,sp' vs H Q E→sp vs H Q E):cU P w K mg base CX k f fd ps sp' :=
 ⟨fun vs H Q E q=>F.len vs H Q E (h _ _ _ _ q),fun A outer s H args us vs Q E hr he hb hv hs=>F.run A outer s H args us vs Q E hr he hb hv (h _ _ _ _ hs)⟩
section
variable{X:Cx}{pins:List (Addr×Obj)}{σ:St}{H:Hp}{s s':Shared}
theorem Inv.env0(I:Inv X pins σ H s):O5 X.prog X.w X.K X.mg X.base X.A X.stack s H :=
 ⟨I.ok.frames,I.ok.mod,I.bs,YQ I.ok.bsz I.sz,I.stack,I.stkFree,I.hok,I.bare⟩
theorem Inv.after{Q:VK}{u:Value}(I:Inv X pins σ H s)(h:CE X.stack X.prog X.w H s Q u s'):EP X pins σ Q u s':=by
 obtain⟨v,H',os,bare,un,hok,r,q⟩:=h;obtain⟨hh,g,d,t,os'⟩:=s';obtain rfl:os'=s.os:=os;exact⟨v,H',I.call (h':=hh) (g':=g) (d':=d) (t':=t) (ch:=[]) un hok bare (fun b z=>absurd z (by simp)),r,q⟩
end
def IW(sp:Sp)(dvs:List V)(E:XK)(t:TA):TE:=fun σ H Q=>t σ H fun vs H1=>sp (vs++dvs) H1 Q E
def Binds(K:PySem.W.Frag)(fd:FuncData)(ps:List Str)(ds:List Value):Prop :=
 ∀(s:Shared) (us:List Value),K.In s.heap→(us++ds).length=ps.length→BindsTo s fd ⟨us,[]⟩ (ps.zip (us++ds))
theorem Binds.all{K:PySem.W.Frag}{fd:FuncData}{ps:List Str}(h:∀us:List Value,us.length=ps.length→bindArgs fd ⟨us,[]⟩=pure (ps.zip us)):Binds K fd ps []:=fun s us _ hl=>by
 rw[List.append_nil]at hl ⊢;exact .of_eq (h us hl)
def sO(CX:CXT)(X:Cx)(E:XK):Prop:=∀(pins:List (Addr×Obj)) (σ:St) (H:Hp) (s:Shared) (e:Value) (s':Shared),Inv X pins σ H s→CX X.stack H s E e s'→X.xe e s'
section
variable{X:Cx}{CX:CXT}{k:Nat}{f C:Addr}{fd:FuncData}{ps:List Str}{sp:Sp}{dvs:List V}{ds:List Value}{E:XK}{x m:Str}{p pos apos:Pos}{e o:Expr}{es:List Expr}{ta:TE}{t:TA}
theorem Q0{pins:List (Addr×Obj)}{σ:St}{H:Hp}{s:Shared}{Q:VK}{us:List Value}{vs:List V}(F:cU X.prog X.w X.K X.mg X.base CX k f fd ps sp)(hr:kD k X.A)(hb:Binds X.K fd ps ds)(hd:b7 dvs ds)(hx:sO CX X E)
  (I:Inv X pins σ H s) (r:b7 vs us) (h:sp (vs++dvs) H Q E):wpAny (model X.prog X.w) X.A (call (.ref f) us) (EP X pins σ Q) X.xe s:=by
 have r2:b7 (vs++dvs) (us++ds):=r.append hd;have hl:(us++ds).length=ps.length:=by rw[←r2.length];exact F.len _ _ _ _ h
 refine wpAny_call (codeAny_mono (F.run X.A X.stack s H ⟨us,[]⟩ (us++ds) (vs++dvs) Q E hr I.env0 (hb s us I.kIn hl) r2 h) fun r s' hq=>?_);cases r with
 |error e=>exact hx pins σ H s e s' I hq
 |ok fl =>
  cases fl with
  |ret u=>exact I.after hq
  |next=>exact False.elim hq
  |brk=>exact False.elim hq
  |cont=>exact False.elim hq
theorem NX(F:cU X.prog X.w X.K X.mg X.base CX k f fd ps sp)(hr:kD k X.A)(hg:Gl X x)(hm:X.mg x=some (.ref f))(hk:PySem.W.keepIn X.K (.ref f)=true)(hb:Binds X.K fd ps ds)(hd:b7 dvs ds)(hx:sO CX X E)
  (ha:PA X (e::es) t) (hdb:(x==("__debug__" : Str))=false:=by decide) (he:starEach (e::es) X.env=(false,eval e X.env)::starEach es X.env:=by rfl) (hpl:(backTo pos (starEach es X.env)).any (·.1)=false:=by rfl) :
  PE X (.Call (.Name x p) (e::es) [] pos) (IW sp dvs E t):=by
 intro pins s σ H Q I h;refine wpAny_Call_Name_kw (qG I hg hm ?_ hdb);refine PySem.W.callWith_K (h₀:=X.base) I.ok.mod.kin hk (thn (ha pos pins s σ H _ I h) fun us s1 ⟨vs,H1,I1,r,q⟩=>⟨I1.kIn,?_⟩) he hpl;exact Q0 F hr hb hd hx I1 r q
end
section
variable{X:Cx}{CX:CXT}{k:Nat}{f C:Addr}{fd:FuncData}{ps ks:List Str}{sp:Sp}{E:XK}{x m:Str}{p pos apos kpos:Pos}{e o:Expr}{es:List Expr}{kws:List Keyword}{te ta:TE}{t tk:TA}{nm:Option Str}
variable{g:List Value→List Value→List Value}{gV:List V→List V→List V}
end
structure bD(N P:List Str)(sc:Scope):Prop where
 kind:sc.kind=.function
 co:sc.isCoroutine=false
 gen:sc.isGenerator=false
 nd:N.Nodup
 pre:N.take P.length=P
 par:∀x∈P,sc.names.lookup x=some .local∨sc.names.lookup x=some .cell
 nofree:∀y∈sc.names,y.2≠.free
theorem zD{kindOf:Str→Option NameKind}{x:Str}:∀{binds:List (Str×Value)}{m:Str→Option Value},(∀v,(x,v)∉binds)→bindL kindOf binds m x=m x
 |[],_,_=>rfl
 |(n,v)::r,m,h=>by
  unfold bindL;rw[zD fun w hw=>h w (Zw _ hw)];split
  ·have:x≠n:=by rintro rfl;exact h v Zd
   simp[this]
  ·rfl
theorem zF{kindOf:Str→Option NameKind}{x:Str}:∀{binds:List (Str×Value)}{m:Str→Option Value},(∀v,(x,v)∉binds)→bindC kindOf binds m x=m x
 |[],_,_=>rfl
 |(n,v)::r,m,h=>by
  unfold bindC;rw[zF fun w hw=>h w (Zw _ hw)];split
  ·rfl
  ·have:x≠n:=by rintro rfl;exact h v Zd
   simp[this]
theorem zE{kindOf:Str→Option NameKind}{x:Str}{v:Value}:∀{P:List Str}{vs:List Value}{i:Nat}{m:Str→Option Value},P.Nodup→P[i]?=some x→vs[i]?=some v→kindOf x=some .local →
  bindL kindOf (P.zip vs) m x=some v
 |[],_,_,_,_,h,_,_=>by simp at h
 |_::_,[],_,_,_,_,h,_=>by simp at h
 |p::P,w::vs,0,m,nd,h1,h2,hk=>by
  simp at h1 h2;subst h1;subst h2;show bindL kindOf ((p,w)::P.zip vs) m p=_;unfold bindL;rw[zD fun v hv=>(List.nodup_cons.mp nd).1 (List.of_mem_zip hv).1,if_pos hk];simp
 |p::P,w::vs,i+1,m,nd,h1,h2,hk=>by
  show bindL kindOf ((p,w)::P.zip vs) m x=_;unfold bindL;exact zE (i:=i) (List.nodup_cons.mp nd).2 (by simpa using h1) (by simpa using h2) hk
theorem zG{kindOf:Str→Option NameKind}{x:Str}{v:Value}:∀{P:List Str}{vs:List Value}{i:Nat}{m:Str→Option Value},P.Nodup→P[i]?=some x→vs[i]?=some v→kindOf x≠some .local →
  bindC kindOf (P.zip vs) m x=some v
 |[],_,_,_,_,h,_,_=>by simp at h
 |_::_,[],_,_,_,_,h,_=>by simp at h
 |p::P,w::vs,0,m,nd,h1,h2,hk=>by
  simp at h1 h2;subst h1;subst h2;show bindC kindOf ((p,w)::P.zip vs) m p=_;unfold bindC;rw[zF fun v hv=>(List.nodup_cons.mp nd).1 (List.of_mem_zip hv).1,if_neg hk];simp
 |p::P,w::vs,i+1,m,nd,h1,h2,hk=>by
  show bindC kindOf ((p,w)::P.zip vs) m x=_;unfold bindC;exact zG (i:=i) (List.nodup_cons.mp nd).2 (by simpa using h1) (by simpa using h2) hk
def start(N:List Str)(vs:List V):St:=vs.map some++List.replicate (N.length-vs.length) none
def uD(CX:CXT)(P:Program)(w:World)(K:PySem.W.Frag)(mg:Str→Option Value)(base:Heap)(N:List Str)(qual:Str)(scope:Scope)(f:Addr)(cd:Value)(A:Around)(outer:List Env)(s:Shared)(H:Hp)(E:XK):Cx where
 prog:=P
 w:=w
 K:=K
 mg:=mg
 base:=base
 A:=A.deeper (envOfC qual scope s.heap.objs.size f cd)
 N:=N
 s₀:=s
 H₀:=H
 env:=envOfC qual scope s.heap.objs.size f cd
 outer:=outer
 stack:=envOfC qual scope s.heap.objs.size f cd::outer
 ex:=[]
 calm:=true
 fn:=fun _=>true
 pn:=[]
 xe:=fun e s'=>wpAny (model P w) (A.deeper (envOfC qual scope s.heap.objs.size f cd)) (leaving (envOfC qual scope s.heap.objs.size f cd) e) (fun _ s''=>CX outer H s E e s'') (fun e' s''=>CX outer H s E e' s'') s'
theorem DA{sc:Scope}{n:Nat}{x:Str}(h:sc.names.lookup x=some .cell):∃c,(cellsFrom n sc.names []).lookup x=some c:=by
 have q:=PySem.W.cellsFrom_some sc.names n [] (.inl h);exact Option.isSome_iff_exists.mp q
theorem HM{CX:CXT}{P:Program}{w:World}{K:PySem.W.Frag}{mg:Str→Option Value}{base:Heap}{N ps:List Str}{qual:Str}{scope:Scope}{f:Addr}{cd:Value}{A:Around}{outer:List Env}{s s1:Shared}{H:Hp}{E:XK}{us:List Value}{vs:List V}
  (S:bD N ps scope) (hd:A.handled=none) (e0:O5 P w K mg base A outer s H) (hl:vs.length=ps.length) (r:b7 vs us)
  (x:InCallC s s.heap.objs.size (bindL (envOfC qual scope s.heap.objs.size f cd).kindOf (ps.zip us) fun _=>none) (cellsFrom (s.heap.objs.size+1) scope.names []) (bindC (envOfC qual scope s.heap.objs.size f cd).kindOf (ps.zip us) fun _=>none) s1) :
  Inv (uD CX P w K mg base N qual scope f cd A outer s H E) [] (start N vs) H s1:=by
 have hpl:ps.length≤N.length:=by have:=congrArg List.length S.pre;rw[Yx]at this;lia
 obtain⟨h1,tk,rfl,hk⟩:=x.done;have noA:∀b:Addr,b∉(uD CX P w K mg base N qual scope f cd A outer s H E).ex:=fun b z=>absurd (show b∈([]:List Addr) from z) (by simp);refine⟨⟨e0.mod,S.kind,rfl,rfl,Nat.le_refl _,fun y z c h1 h2=>?_,fun y hy=>?_,fun y c _ h=>?_,fun _=>hd,Around.frames_deeper e0.frames,.inr ⟨rfl,rfl⟩,fun b z=>absurd z (noA b),e0.bs,e0.bsz,fun b _ _=>noA b,fun b z=>absurd z (noA b),e0.funs,e0.frf⟩,
  rfl,e0.bare,Un.kept hk,⟨_,x.toInCall.ns,fun i y v h1 h2 h3=>?_⟩,fun y c h=>⟨_,x.cell y c h⟩,e0.hok.fresh (Nat.le_refl _),fun y c h=>?_,fun p hp=>absurd (show p∈([]:List (Addr×Obj)) from hp) (by simp),e0.hok.kept hk,?_⟩
 ·exact name_of_addr x.apart (PySem.mem_of_lookup h1) (PySem.mem_of_lookup h2)
 ·have hy:scope.names.lookup y=some .cell∨scope.names.lookup y=some .free:=hy;rcases hy with hy | hy
  ·exact DA hy
  ·exact absurd rfl (S.nofree _ (PySem.mem_of_lookup hy))
 ·exact Nat.le_of_lt (x.above y c (PySem.mem_of_lookup h))
 ·have hi:i<vs.length:=by
   unfold start at h2;by_cases hi:i<vs.length
   ·exact hi
   ·rw[Zy (by simpa using hi)]at h2;rw[List.getElem?_replicate]at h2;split at h2<;>cases h2
  have ha:vs[i]?=some v:=by
   unfold start at h2;rw[Zx (by simpa using hi),Zk]at h2;cases e:vs[i]? with
   |none=>rw[e]at h2;cases h2
   |some a=>rw[e]at h2;cases h2;rfl
  obtain⟨u,hu,rv⟩:=r.get ha;have hp:ps[i]?=some y:=by
   rw[←S.pre,List.getElem?_take_of_lt (by lia)];exact h1
  have ndP:ps.Nodup:=by rw[←S.pre];exact S.nd.sublist (List.take_sublist _ _)
  refine⟨u,rv,?_⟩;rcases S.par y (Zg hp) with k | k
  ·exact .inl ⟨k,zE ndP hp hu k⟩
  ·obtain⟨c,e⟩:=DA (n:=s.heap.objs.size+1) k;refine .inr ⟨.inl k,c,e,?_⟩;have q:=x.cell y c e;rw[zG ndP hp hu (by show scope.names.lookup y≠_;rw[k];decide)]at q;exact q
 ·exact e0.hok.fresh (Nat.le_of_lt (x.above y c (PySem.mem_of_lookup h)))
 ·unfold start;show _=N.length;rw[Zm,Zq,List.length_replicate]
  lia
theorem P4{CX:CXT}{P:Program}{w:World}{K:PySem.W.Frag}{mg:Str→Option Value}{base:Heap}{k:Nat}{f:Addr}{name qual:Str}{params:Arguments}{body:List Stmt}{scope:Scope}{dV kV doc pm cdv ct oc:Value}{an od:Option Addr}
  {osl:Array (Option Value)}{N ps:List Str}{sp:Sp}(lk:K.lookup f=some ⟨oc,od,.func (PySem.W.fnOf name qual params body scope dV kV doc pm an cdv ct),osl⟩) (hcd:PySem.W.codeIn K cdv qual=true) (S:bD N ps scope)
  (len:∀vs H Q E,sp vs H Q E→vs.length=ps.length)
  (hbody:∀(A:Around) (outer:List Env) (s:Shared) (H:Hp) (vs:List V) (Q:VK) (E:XK),kD k (A.deeper (envOfC qual scope s.heap.objs.size f cdv))→sp vs H Q E →
   ∃t,PSs (uD CX P w K mg base N qual scope f cdv A outer s H E) body t∧t { nx:=fun _ H'=>Q .non H',rt:=Q } (start N vs) H) :
  cU P w K mg base CX (k+1) f (PySem.W.fnOf name qual params body scope dV kV doc pm an cdv ct) ps sp:=by
 refine⟨len,fun A outer s H args us vs Q E hr e0 hb r hsp=>?_⟩;have hl:=len _ _ _ _ hsp;have KX:K.In s.heap:=e0.mod.kin.keeps fun b o e=>(e0.bs b o e).1;have lim:s.heap.NoLimit:=e0.mod.nolimit.keeps fun b o e=>(e0.bs b o e).1;have hkind:∀y∈ps.zip us,scope.names.lookup y.1=some .local∨(scope.names.lookup y.1=some .cell∧((cellsFrom (s.heap.objs.size+1) scope.names []).lookup y.1).isSome=true):=fun ⟨n,v⟩ hy=>by
  rcases S.par n (List.of_mem_zip hy).1 with q | q
  ·exact .inl q
  ·exact .inr ⟨q,PySem.W.cellsFrom_some _ _ _ (.inl q)⟩
 refine codeAny_call_function hr.depth (KX _ _ lk) rfl S.co S.gen rfl (PySem.W.codeRec_of KX hcd) (hb _ _ _ _ ?_);refine wpAny_newFunctionEnv_cells S.kind hkind fun env he s1 x=>?_;subst he;refine⟨lim.keeps x.toInCall.keep,codeAny_func ?_⟩;obtain⟨t,ht,hq⟩:=hbody A outer s H vs Q E (hr.deeper _) hsp;have I:Inv (uD CX P w K mg base N qual scope f cdv A outer s H E) [] (start N vs) H s1:=HM S hr.hd e0 hl r x;refine ZX (ht [] s1 (start N vs) H _ I hq) (fun fl s' hs=>?_) fun e s' hs=>hs;have fin:∀{σ':St}{H':Hp}{v:V}{u:Value},Inv (uD CX P w K mg base N qual scope f cdv A outer s H E) [] σ' H' s'→RelV v u→Q v H'→CE outer P w H s Q u s' :=
  fun {σ' H' v u} J rv q=>⟨v,H',J.os,J.bare,J.base,J.hok,rv,q⟩
 cases fl with
 |ret u =>
  obtain⟨v,σ',H',J,rv,q⟩:=hs;exact fin J rv q
 |next =>
  obtain⟨σ',H',J,q⟩:=hs;exact fin (v:=V.non) (u:=Value.none) J rfl q
 |brk =>
  obtain⟨_,_,_,q⟩:=hs;exact False.elim q
 |cont =>
  obtain⟨_,_,_,q⟩:=hs;exact False.elim q
end L2
namespace L2
open PySem PySem.Spec PyProof.Rows
section
variable{X:Cx}{x:Str}{p pos:Pos}{e:Expr}{es:List Expr}{t:TA}{id T:String}{r:List V→Hp→VK→Prop}
def tCB(r:List V→Hp→VK→Prop)(t:TA):TE:=fun σ H Q=>t σ H fun vs H1=>r vs H1 Q
theorem aW(hc:gW X (.builtin id) r)(hg:Gl X x)(hm:X.mg x=none)(hv:bootBuiltins x=some (.builtin id))(ha:PA X (e::es) t)(hn:x≠"__name__":=by decide)(hdb:(x==("__debug__" : Str))=false:=by decide)
  (he:starEach (e::es) X.env=(false,eval e X.env)::starEach es X.env:=by rfl) (hpl:(backTo pos (starEach es X.env)).any (·.1)=false:=by rfl):PE X (.Call (.Name x p) (e::es) [] pos) (tCB r t):=by
 intro pins s σ H Q I h;refine wpAny_Call_Name_kw (sG I hg hm hv ?_ hn hdb);exact PyProof.Rows.callWith_builtin1 (thn (ha pos pins s σ H _ I h) fun us s1 ⟨vs,H1,I1,r1,q1⟩=>hc pins s1 σ H1 vs us Q I1 r1 q1) he hpl
theorem b9(hc:gW X (.type T) r)(hg:Gl X x)(hm:X.mg x=none)(hv:bootBuiltins x=some (.type T))(ha:PA X (e::es) t)(hn:x≠"__name__":=by decide)(hdb:(x==("__debug__" : Str))=false:=by decide)
  (he:starEach (e::es) X.env=(false,eval e X.env)::starEach es X.env:=by rfl) (hpl:(backTo pos (starEach es X.env)).any (·.1)=false:=by rfl):PE X (.Call (.Name x p) (e::es) [] pos) (tCB r t):=by
 intro pins s σ H Q I h;refine wpAny_Call_Name_kw (sG I hg hm hv ?_ hn hdb);exact PyProof.Rows.callWith_type1 (thn (ha pos pins s σ H _ I h) fun us s1 ⟨vs,H1,I1,r1,q1⟩=>hc pins s1 σ H1 vs us Q I1 r1 q1) he hpl
end
end L2
namespace HT
open PySem PyProof.Rows
def lexLt:List Int→List Int→Bool
 |[],[]=>false
 |[],_::_=>true
 |_::_,[]=>false
 |x::xs,y::ys=>if x=y then lexLt xs ys else decide (x<y)
theorem EF(x y:Int)(xs ys:List Int):lexLt (x::xs) (y::ys)=if x=y then lexLt xs ys else decide (x<y):=rfl
theorem xR:lexLt [] []=false:=rfl
theorem vX(y:Int)(ys:List Int):lexLt [] (y::ys)=true:=rfl
theorem vY(x:Int)(xs:List Int):lexLt (x::xs) []=false:=rfl
theorem LU(A:Around)(s:Shared)(a:Int)(t:Tok)(c:Int)(u:Tok):∃e,SeqAt.EqAt A s (.int a t) (.int c u) e∧(e=true↔a=c) :=
 ⟨(a==c),SeqAt.EqAt.int_int a t c u,by simp⟩
theorem JM(A:Around)(s:Shared)(a:Int)(t:Tok)(c:Int)(u:Tok)(prog:Program)(w:World)(E:Value→Shared→Prop)(Q:Value→Shared→Prop)(h:Q (.bool (decide (a<c))) s) :
  wpAny (model prog w) A (richCompare .Lt (.int a t) (.int c u)) Q E s :=
 (PyProof.Rows.lt_int h:wpAny (model prog w) A (compareOp .Lt (.int a t) (.int c u)) Q E s)
section
open PySem.SeqAt
open PySem.AutoSeq1 (wpAny_loadPart')
open PySem.MeetsSeq PySem.MeetsSeq2 PySem.MeetsSeq3
theorem xP(l b:Addr)(items items2:Array Value)(n n2:Nat)(dd dd2:Option Addr)(sl sl2:Array (Option Value))(ns ms:List Int)(hi:IntsAre items.toList ns)(hj:IntsAre items2.toList ms) :
  Meets (Builtin.«tuple.__lt__» ⟨[.ref l,.ref b],[]⟩)
   (fun _ R s=>s.heap.get? l=some { cls:=.type "tuple",dict:=dd,data:=.seq items n,slots:=sl }∧s.heap.get? b=some { cls:=.type "tuple",dict:=dd2,data:=.seq items2 n2,slots:=sl2 } ∧
    R (.ok (.ret (.bool (lexLt ns ms)))) s) :=
 .of_wp fun prog w A R s h=>by
  obtain⟨hp,g,d,tk,os⟩:=s;obtain⟨hl,hb,h⟩:=h;have f2:=AutoSeq1.sub_tuple_tuple;have z1:items.size=ns.length:=by rw[←hi.length];simp
  have z2:items2.size=ms.length:=by rw[←hj.length];simp
  wp_walk using wpAny_loadPart' hl,wpAny_loadPart' hb,wpAny_forIn_list _ (fun rest b s'=>b.1=none∧s'=⟨hp,g,d,tk,os⟩∧∃(vs ws:List Value) (ns' ms':List Int),rest=vs.zip ws ∧
   IntsAre vs ns'∧IntsAre ws ms'∧ns'.length+items2.size=ms'.length+items.size∧R (.ok (.ret (.bool (lexLt ns' ms')))) ⟨hp,g,d,tk,os⟩) _
  case turn =>
   rintro⟨y,x⟩ rest b s' ⟨hb',rfl,vs,ws,ns',ms',hz,hvi,hwi,hlen,hR⟩;cases hvi with
   |nil=>rw[List.zip_nil_left]at hz;cases hz
   |cons a t hvi' =>
    cases hwi with
    |nil=>rw[List.zip_nil_right]at hz;cases hz
    |cons c u hwi' =>
     rw[List.zip_cons_cons]at hz;injection hz with hyx hrest;injection hyx with hy hx;subst hy hx;rw[EF]at hR;simp only[Yq]at hlen;obtain⟨e,he,hiff⟩:=LU A.in1 ⟨hp,g,d,tk,os⟩ a t c u;refine ZZ (he prog w _ _ ?_);cases e with
     |true =>
      rw[if_pos (hiff.mp rfl)]at hR
      wp_walk
      exact⟨rfl,rfl,_,_,_,_,hrest,hvi',hwi',by lia,hR⟩
     |false =>
      rw[if_neg (fun q=>absurd (hiff.mpr q) Bool.false_ne_true)]at hR;have hri:=JM A.in1 ⟨hp,g,d,tk,os⟩ a t c u prog w
      wp_walk using hri
      exact⟨_,rfl,by simpa using hR⟩
  case fin =>
   rintro⟨b1,b2⟩ s' ⟨hb',rfl,vs,ws,ns',ms',hz,hvi,hwi,hlen,hR⟩;simp only at hb';subst hb';have hv:lexLt ns' ms'=decide (items.size<items2.size):=by
    cases hvi with
    |nil =>
     cases hwi with
     |nil =>
      simp only[List.length_nil]at hlen;rw[xR];exact(decide_eq_false (by lia)).symm
     |cons c u hw =>
      simp only[List.length_nil,Yq]at hlen;rw[vX];exact(decide_eq_true (by lia)).symm
    |cons a t hv =>
     cases hwi with
     |nil =>
      simp only[List.length_nil,Yq]at hlen;rw[vY];exact(decide_eq_false (by lia)).symm
     |cons c u hw =>
      rw[List.zip_cons_cons]at hz;cases hz
   rw[hv]at hR
   wp_walk
   exact⟨_,rfl,by simpa[Builtin.Tuple.tupleCompareSizes] using hR⟩
  case h =>
   exact⟨rfl,rfl,items.toList,items2.toList,ns,ms,rfl,hi,hj,by lia,h⟩
end
section
variable{prog:Program}{w:World}{A:Around}{E:Value→Shared→Prop}{s:Shared}
theorem EA{l b:Addr}{items items2:Array Value}{ns ms:List Int}{Q:Value→Shared→Prop}(hl:IsTup s.heap l items)(hb:IsTup s.heap b items2)(hi:IntsAre items.toList ns)(hj:IntsAre items2.toList ms)
  (hu:A.units<cLine) (h:Q (.bool (lexLt ns ms)) s):wpAny (model prog w) A (compareOp .Lt (.ref l) (.ref b)) Q E s:=by
 obtain⟨⟨cls,dd,data,sl⟩,ho,hc,n,hd⟩:=id hl;obtain⟨⟨cls2,dd2,data2,sl2⟩,ho2,hc2,n2,hd2⟩:=id hb;simp only at hc hd hc2 hd2;subst hc hd hc2 hd2;exact richCompare_meets_room (op:=.Lt) ⟨_,ho,rfl⟩ ⟨_,ho2,rfl⟩ PySem.F.slot_tuple_lt PySem.F.entry_tuple_lt (PySem.F.args_tuple_lt_2 _ _) (xP l b items items2 n n2 dd dd2 sl sl2 ns ms hi hj)
  ⟨ho,ho2,show Value.bool (lexLt ns ms)≠Value.notImplemented∧Q (.bool (lexLt ns ms)) s from⟨(fun x=>nomatch x),h⟩⟩ hu
def sIx(n d:Nat):Option Int→Nat
 |none=>d
 |some v=>if v<0 then (v+(n:Int)).toNat else min v.toNat n
theorem mC(n d:Nat):sIx n d none=d:=rfl
theorem uF(n d k:Nat):sIx n d (some (k:Int))=min k n:=by
 show(if (k:Int)<0 then ((k:Int)+(n:Int)).toNat else min (k:Int).toNat n)=min k n;rw[if_neg (by lia),Int.toNat_natCast]
theorem rP(n d:Nat)(hd:d≤n)(o:Option Int):sIx n d o≤n:=by
 cases o with
 |none=>exact hd
 |some v =>
  show(if v<0 then (v+(n:Int)).toNat else min v.toNat n)≤n;by_cases hv:v<0
  ·rw[if_pos hv];lia
  ·rw[if_neg hv];exact Nat.min_le_right _ _
end
end HT
namespace L2
open PySem PySem.Spec PyProof.Rows
abbrev TO:=St→Hp→(Option Int→Hp→Prop)→Prop
def PO(X:Cx)(e:Option Expr)(t:TO):Prop :=
 ∀(pins:List (Addr×Obj)) (s:Shared) (σ:St) (H:Hp) (Q:Option Int→Hp→Prop),Inv X pins σ H s→t σ H Q →
  wpAny (model X.prog X.w) X.A (evalPart e X.env) (fun u s'=>∃o H',Inv X pins σ H' s'∧IsPart u o∧Q o H') X.xe s
def MW:TO:=fun _ H Q=>Q none H
def S5(t:TE):TO:=fun σ H Q=>t σ H fun x H1=>∃i,x=.int i∧Q (some i) H1
theorem intsAre_of{ns:List Int}:∀{us:List Value},b7 (ns.map V.int) us→IntsAre us ns:=by
 induction ns with
 |nil=>intro us r;rw[List.map_nil]at r;cases r;exact .nil
 |cons n ns ih =>
  intro us r;rw[List.map_cons]at r;cases r with
  |cons r1 r2 =>
   obtain⟨t,e⟩:=r1;subst e;exact .cons n t (ih r2)
section
variable{X:Cx}{e:Expr}{te:TE}{lo hi:Option Expr}{tl th:TO}{pos p2:Pos}
theorem bB:PO X none MW:=by
 intro pins s σ H Q I h;rw[evalPart_none];exact ZY ⟨none,H,I,.none,h⟩
theorem bH(h:PE X e te):PO X (some e) (S5 te):=by
 intro pins s σ H Q I hw;rw[evalPart_some];refine thn (h pins s σ H _ I hw) fun u s1 ⟨x,H1,I1,r1,q1⟩=>?_;obtain⟨i,rfl,q⟩:=q1;obtain⟨t,rfl⟩:=r1;exact⟨some i,H1,I1,.int i t,q⟩
def SlR(X:Cx)(r:V→Option Int→Option Int→Hp→VK→Prop):Prop :=
 ∀(pins:List (Addr×Obj)) (s:Shared) (σ:St) (H:Hp) (x:V) (v vl vu:Value) (lo hi:Option Int) (sl:Addr) (Q:VK),Inv X pins σ H s→RelV x v→s.heap.IsSliceOf sl vl vu .none→IsPart vl lo→IsPart vu hi→r x lo hi H Q →
  ∃T id,typeLookup (.type T) "__getitem__" = pure (some (.builtin id))∧s.TypeIs v T∧wpAny (model X.prog X.w) X.A (getItem v (.ref sl)) (EP X pins σ Q) X.xe s
def tSl(r:V→Option Int→Option Int→Hp→VK→Prop)(te:TE)(tl th:TO):TE:=fun σ H Q=>te σ H fun x H1=>tl σ H1 fun l H2=>th σ H2 fun u H3=>r x l u H3 Q
theorem bC{r:V→Option Int→Option Int→Hp→VK→Prop}(hr:SlR X r)(he:PE X e te)(hl:PO X lo tl)(hu:PO X hi th):PE X (.Subscript e (.Slice lo hi none p2) pos) (tSl r te tl th):=by
 intro pins s σ H Q I h;refine Subscript_ (thn (he pins s σ H _ I h) fun v s1 ⟨x,H1,I1,r1,q1⟩=>?_);refine wpAny_Slice (thn (hl pins s1 σ H1 _ I1 q1) fun vl s2 ⟨l,H2,I2,pl,q2⟩=>thn (hu pins s2 σ H2 _ I2 q2) fun vu s3 ⟨u,H3,I3,pu,q3⟩=>?_);rw[evalPart_none];refine ZY ?_;have I4:Inv X pins σ H3 { s3 with heap:=s3.heap.push { cls:=.type "slice",data:=.fields #[vl,vu,.none] } }:=I3.kept (t':=s3.toks) fun b ob q=>Heap.get?_push_of_some _ q;obtain⟨T,id,hT,ht,hg⟩:=hr pins { s3 with heap:=s3.heap.push { cls:=.type "slice",data:=.fields #[vl,vu,.none] } } σ H3 x v vl vu l u s3.heap.objs.size Q I4 r1 (Heap.IsSliceOf.new ..) pl pu q3;show wpAny (model X.prog X.w) X.A (subscriptTail e (.Slice lo hi none p2) v (.ref s3.heap.objs.size)) (EP X pins σ Q) X.xe { s3 with heap:=s3.heap.push { cls:=.type "slice",data:=.fields #[vl,vu,.none] } };exact tail_any (ops:=[.ref s3.heap.objs.size,v]) ht hT hg (by with_unfolding_all rfl)
def fF(xs:List V)(lo hi:Option Int):List V:=(xs.drop (HT.sIx xs.length 0 lo)).take (HT.sIx xs.length xs.length hi-HT.sIx xs.length 0 lo)
theorem C2(xs:List V)(lo hi:Option Int):(fF xs lo hi).length≤xs.length:=by
 unfold fF;rw[Yx,Ym]
 lia
end
end L2
namespace L2
open PySem PySem.Spec PyProof.Rows
def ixN(n:Nat)(i:Int):Option Nat:=if 0≤i then (if i<n then some i.toNat else none) else if -(n:Int)≤i then some (i+n).toNat else none
def atI{α:Type}(xs:List α)(i:Int):Option α:=(ixN xs.length i).bind fun j=>xs[j]?
theorem FQ{n:Nat}{i:Int}{j:Nat}(h:ixN n i=some j):seqIndex? i n=some j∧j<n∧-(n:Int)≤i∧i<n:=by
 unfold ixN at h;by_cases h0:0≤i
 ·rw[if_pos h0]at h;by_cases h1:i<n
  ·rw[if_pos h1]at h;have e:i.toNat=j:=Option.some.inj h;exact⟨by rw[seqIndex_of h0 h1,e],by lia,by lia,h1⟩
  ·rw[if_neg h1]at h;cases h
 ·rw[if_neg h0]at h;by_cases h1 : -(n:Int)≤i
  ·rw[if_pos h1]at h;have e:(i+n).toNat=j:=Option.some.inj h;exact⟨by rw[seqIndex_neg (by lia) h1,e],by lia,h1,by lia⟩
  ·rw[if_neg h1]at h;cases h
theorem A9{α:Type}{xs:List α}{i:Int}{v:α}(h:atI xs i=some v):∃j,seqIndex? i xs.length=some j∧xs[j]?=some v∧j<xs.length∧-(xs.length:Int)≤i∧i<xs.length:=by
 unfold atI at h;cases e:ixN xs.length i with
 |none=>rw[e]at h;cases h
 |some j =>
  rw[e]at h;obtain⟨h1,h2,h3,h4⟩:=FQ e;exact⟨j,h1,h,h2,h3,h4⟩
theorem cE{α:Type}{xs:List α}{j:Nat}{v:α}(h:xs[j]?=some v):atI xs (j:Int)=some v:=by
 have hj:j<xs.length:=(Zj.mp h).1;have e:ixN xs.length (j:Int)=some j:=by
  unfold ixN;rw[if_pos (by lia),if_pos (by lia)];simp
 unfold atI;rw[e];exact h
def O4(b:Expr):Prop:=∀o i,subscripted b false o i=operate [o,i] (getItem o i)
def IxR(X:Cx)(r:R2):Prop :=
 ∀(value slice:Expr) (pins:List (Addr×Obj)) (s:Shared) (σ:St) (H:Hp) (x y:V) (v u:Value) (Q:VK),Inv X pins σ H s→RelV x v→RelV y u→r x y H Q →
  subscripted slice false v u=operate [v,u] (getItem v u)→wpAny (model X.prog X.w) X.A (subscriptTail value slice v u) (EP X pins σ Q) X.xe s
def MtR(X:Cx)(id:String)(r:V→List V→Hp→VK→Prop):Prop :=
 ∀(pins:List (Addr×Obj)) (s:Shared) (σ:St) (H:Hp) (x:V) (xs:List V) (v:Value) (us:List Value) (Q:VK),Inv X pins σ H s→RelV x v→b7 xs us→r x xs H Q →
  wpAny (model X.prog X.w) X.A (call (.builtin id) (v::us)) (EP X pins σ Q) X.xe s
section
variable{X:Cx}{a b:Expr}{ta tb:TE}{pos:Pos}
theorem aQ{r:R2}(hr:IxR X r)(ha:PE X a ta)(hb:PE X b tb)(hs:O4 b):PE X (.Subscript a b pos) (tOp r ta tb):=by
 intro pins s σ H Q I h;exact Subscript_ (R7 ha hb I h fun v u s2 x y H2 I2 rx ry q=>hr a b pins s2 σ H2 x y v u Q I2 rx ry q (hs _ _))
def TV(K:PySem.W.Frag):R2:=fun x y H Q=>∃p xs i v,x=.ref p∧y=.int i∧SqL K H p xs∧atI xs i=some v∧Q v H
def TU(K:PySem.W.Frag):R2:=fun x y H Q=>∃p xs i v,x=.ref p∧y=.int i∧SqT K H p xs∧atI xs i=some v∧Q v H
def VP:R2:=fun x y H Q=>∃z i c,x=.str z∧y=.int i∧z.length≤ZW∧atI z.cps.toList i=some c∧Q (.str ⟨#[c]⟩) H
theorem aT:IxR X (TV X.K):=by
 intro value slice pins s σ H x y v u Q I rx ry h hs;obtain⟨p,xs,i,z,rfl,rfl,hq,he,q⟩:=h;cases rx;obtain⟨t,rfl⟩:=ry;obtain⟨its,r,pl,hz⟩:=I.list hq;obtain⟨j,h1,h2,h3,h4,h5⟩:=A9 he;obtain⟨w,ew,rw'⟩:=r.get h2;have hl:=r.length;have hn:=iL;have fin:EP X pins σ Q w s:=⟨z,H,I,rw',q⟩
 by_cases h0:0≤i
 ·have hj:i.toNat=j:=by
   rw[seqIndex_of h0 h5]at h1;exact Option.some.inj h1
  exact item_listR pl.isList h0 (by lia) (by rw[hj];simpa using ew) fin hs
 ·have hj:(i+(its.toArray.size:Int)).toNat=j:=by
   rw[seqIndex_neg (by lia) h4]at h1;rw[List.size_toArray,←hl];exact Option.some.inj h1
  exact subscriptTail_builtinR (x:=w) pl.isList.typeIs slot_list_getitem.lookup
   (wpAny_getItem_list_neg (Q:=fun r s'=>r=w∧EP X pins σ Q r s') pl.isList (by lia) (by rw[List.size_toArray]<;>lia) (by lia) (by rw[hj];simpa using ew) ⟨rfl,fin⟩) hs
theorem bW:IxR X (TU X.K):=by
 intro value slice pins s σ H x y v u Q I rx ry h hs;obtain⟨p,xs,i,z,rfl,rfl,hq,he,q⟩:=h;cases rx;obtain⟨t,rfl⟩:=ry;obtain⟨its,r,pl,hz⟩:=I.tuple hq;obtain⟨j,h1,h2,h3,h4,h5⟩:=A9 he;obtain⟨w,ew,rw'⟩:=r.get h2;have hl:=r.length;have hn:=iL;have fin:EP X pins σ Q w s:=⟨z,H,I,rw',q⟩
 exact subscriptTail_builtinR (x:=w) pl.typeIs slot_tuple_getitem.lookup
  (getItem_tuple (j:=j) (Q:=fun r s'=>r=w∧EP X pins σ Q r s') pl (by lia) (by lia) (by rw[List.size_toArray,←hl];exact h1) (by simpa using ew) ⟨rfl,fin⟩) hs
theorem wC:IxR X VP:=by
 intro value slice pins s σ H x y v u Q I rx ry h hs;obtain⟨z,i,c,rfl,rfl,hz,he,q⟩:=h;obtain⟨t,rfl⟩:=rx;obtain⟨t',rfl⟩:=ry;obtain⟨j,h1,h2,h3,h4,h5⟩:=A9 he;have hl:z.cps.toList.length=z.length:=by simp[Str.length]
 rw[hl]at h1 h4 h5;have hn:=iL;exact tail_any (typeIs_str s z t) slot_str_getitem.lookup (getItem_str (c:=c) (by
  have e1:decide (i < -(2 ^ 63:Int))=false:=decide_eq_false (by lia);have e2:decide (i≥2 ^ 63)=false:=decide_eq_false (by lia);rw[e1,e2,Bool.or_false]) (by rw[h1];simpa using h2) ⟨.str ⟨#[c]⟩,H,I.tok _,⟨_,rfl⟩,q⟩) hs
theorem D9(its:List Value)(n j:Nat)(u:Value):Obj.mapSeq (·.setIfInBounds j u) { cls:=.type "list",data:=.seq its.toArray n }={ cls:=.type "list",data:=.seq (its.set j u).toArray n }:=by
 simp[Obj.mapSeq]
theorem Inv.lst{pins:List (Addr×Obj)}{σ:St}{H:Hp}{s:Shared}{p:Addr}{xs:List V}(I:Inv X pins σ H s)(h:H p=some (.lst xs)) :
  ∃(its:List Value) (n:Nat),b7 xs its∧s.heap.get? p=some { cls:=.type "list",data:=.seq its.toArray n }∧xs.length≤ZW:=by
 obtain⟨z,its,n,r,e⟩:=I.hok p _ h;exact⟨its,n,r,e,z⟩
theorem Inv.lstUpd{pins:List (Addr×Obj)}{σ:St}{H:Hp}{s:Shared}{p:Addr}{xs ys:List V}{its its':List Value}{n n':Nat}{f:Obj→Obj}(I:Inv X pins σ H s)(h:H p=some (.lst xs))
  (ho:s.heap.get? p=some { cls:=.type "list",data:=.seq its.toArray n }) (hf:f { cls:=.type "list",data:=.seq its.toArray n }={ cls:=.type "list",data:=.seq its'.toArray n' }) (r:b7 ys its') (hz:ys.length≤ZW) (t:Nat) :
  Inv X pins σ (upd H p (.lst ys)) { s with heap:=s.heap.update p f,toks:=t }:=by
 have e:(s.heap.update p f).get? p=some { cls:=.type "list",data:=.seq its'.toArray n' }:=by
  rw[Heap.get?_update_self f ho (by rw[hf]<;>rfl),hf]
 refine I.write (x:=p) (e:=p) (by rw[h];trivial) (.inl rfl) (fun b u hb q=>(Heap.get?_update_other _ _ (Ne.symm hb)).trans q) ⟨_,e⟩ ?_;exact⟨hz,its',n',r,e⟩
def TR:V→V→V→Hp→(Hp→Prop)→Prop:=fun o i v H Q=>∃p xs k j,o=.ref p∧i=.int k∧H p=some (.lst xs)∧ixN xs.length k=some j∧Q (upd H p (.lst (xs.set j v)))
theorem set_list:UY X TR:=by
 intro pins s σ H o i v ov iv u Q I ro ri rv h;obtain⟨p,xs,k,j,rfl,rfl,hp,hj,q⟩:=h;cases ro;obtain⟨t,rfl⟩:=ri;obtain⟨its,n,r,ho,hz⟩:=I.lst hp;obtain⟨h1,h2,h3,h4⟩:=FQ hj;have hl:=r.length;have hn:=iL;have I':Inv X pins σ (upd H p (.lst (xs.set j v))) { s with heap:=s.heap.update p (Obj.mapSeq (·.setIfInBounds j u)) } :=
  I.lstUpd hp ho (D9 its n j u) (r.set rv j) (by rw[List.length_set];exact hz) s.toks
 by_cases h0:0≤k
 ·have hk:k.toNat=j:=by
   rw[seqIndex_of h0 h4]at h1;exact Option.some.inj h1
  exact PySem.W.ki_setAt ho h0 (by lia) (by rw[List.size_toArray,←hl];exact h4) (by rw[hk];exact⟨_,I',q⟩)
 ·have hk:(k+(its.toArray.size:Int)).toNat=j:=by
   rw[seqIndex_neg (by lia) h3]at h1;rw[List.size_toArray,←hl];exact Option.some.inj h1
  exact PySem.W.ki_setBack ho (by lia) (by rw[List.size_toArray,←hl];exact h3) (by lia) (by rw[hk];exact⟨_,I',q⟩)
theorem zV(lo hi:Option Int)(n:Nat):(sliceBounds lo hi none n).1=((HT.sIx n 0 lo:Nat):Int)∧(sliceBounds lo hi none n).2.1=((HT.sIx n n hi:Nat):Int)∧(sliceBounds lo hi none n).2.2=1:=by
 refine⟨?_,?_,rfl⟩
 ·cases lo with
  |none=>simp[sliceBounds,HT.sIx]
  |some i =>
   simp only[sliceBounds,HT.sIx,Option.getD_none,show(1:Int)>0 by decide,if_true];by_cases h:i<0
   ·simp only[h,if_true]<;>lia
   ·simp only[h,if_false]<;>lia
 ·cases hi with
  |none=>simp[sliceBounds,HT.sIx]
  |some i =>
   simp only[sliceBounds,HT.sIx,Option.getD_none,show(1:Int)>0 by decide,if_true];by_cases h:i<0
   ·simp only[h,if_true]<;>lia
   ·simp only[h,if_false]<;>lia
theorem oR(its:List Value)(lo hi:Option Int):slicePick its.toArray lo hi none=((its.drop (HT.sIx its.length 0 lo)).take (HT.sIx its.length its.length hi-HT.sIx its.length 0 lo)).toArray:=by
 obtain⟨h1,h2,h3⟩:=zV lo hi its.toArray.size;unfold slicePick;rw[h1,h2,h3];simp only[sliceRange_one,pick_run,List.size_toArray]<;>rfl
def VN(K:PySem.W.Frag):V→Option Int→Option Int→Hp→VK→Prop:=fun x lo hi H Q=>∃a xs,x=.ref a∧SqL K H a xs∧∀p,H p=none→Q (.ref p) (upd H p (.lst (fF xs lo hi)))
theorem cC:SlR X (VN X.K):=by
 intro pins s σ H x v vl vu lo hi sl Q I rx hs pl pu h;obtain⟨a,xs,rfl,hx,q⟩:=h;cases rx;obtain⟨its,r,ht,hz⟩:=I.list hx;have hlen:=r.length;refine⟨"list",_,slot_list_getitem.lookup,ht.isList.typeIs,?_⟩;refine wpAny_getItem_list_slice ht.isList hs pl pu .none (by simp) ?_ (by rw[List.size_toArray]<;>lia);rw[oR,←hlen];refine⟨.ref s.heap.objs.size,_,I.laid (t':=s.toks) (o:=.lst (fF xs lo hi)) (fun b ob q=>Heap.get?_push_of_some _ q) (Nat.le_refl _) ?_,rfl,q _ (I.hok.fresh (Nat.le_refl _))⟩;exact⟨YQ (C2 xs lo hi) hz,_,0,(r.drop (HT.sIx xs.length 0 lo)).take (HT.sIx xs.length xs.length hi-HT.sIx xs.length 0 lo),Heap.get?_push_size _ rfl⟩
def iN:V→Bool
 |.non=>true
 |.bl _=>true
 |.int _=>true
 |.str _=>true
 |_=>false
def eqV:V→V→Bool
 |.non,.non=>true
 |.bl a,.bl b=>a==b
 |.bl a,.int b=>(if a then 1 else 0)==b
 |.int a,.bl b=>a==(if b then 1 else 0)
 |.int a,.int b=>a==b
 |.str a,.str b=>a==b
 |_,_=>false
theorem R1{A:Around}{s:Shared}{y x:V}{u v:Value}(ry:RelV y u)(rx:RelV x v)(fy:iN y=true)(fx:iN x=true):SeqAt.EqAt A s u v (eqV y x):=by
 cases y with
 |non =>
  cases ry;cases x with
  |non=>cases rx;exact SeqAt.EqAt.same _
  |bl b=>cases rx;exact SeqAt.EqAt.none_bool b
  |int b=>obtain⟨t,rfl⟩:=rx;exact SeqAt.EqAt.none_int b t
  |str b=>obtain⟨t,rfl⟩:=rx;exact SeqAt.EqAt.none_str b t
  |_=>exact absurd (show false=true from fx) Bool.false_ne_true
 |bl a =>
  cases ry;cases x with
  |non=>cases rx;exact SeqAt.EqAt.bool_none a
  |bl b=>cases rx;exact SeqAt.EqAt.bool_bool a b
  |int b=>obtain⟨t,rfl⟩:=rx;exact SeqAt.EqAt.bool_int a b t
  |str b=>obtain⟨t,rfl⟩:=rx;exact SeqAt.EqAt.bool_str a b t
  |_=>exact absurd (show false=true from fx) Bool.false_ne_true
 |int a =>
  obtain⟨t',rfl⟩:=ry;cases x with
  |non=>cases rx;exact SeqAt.EqAt.int_none a t'
  |bl b=>cases rx;exact SeqAt.EqAt.int_bool a t' b
  |int b=>obtain⟨t,rfl⟩:=rx;exact SeqAt.EqAt.int_int a t' b t
  |str b=>obtain⟨t,rfl⟩:=rx;exact SeqAt.EqAt.int_str a t' b t
  |_=>exact absurd (show false=true from fx) Bool.false_ne_true
 |str a =>
  obtain⟨t',rfl⟩:=ry;cases x with
  |non=>cases rx;exact SeqAt.EqAt.str_none a t'
  |bl b=>cases rx;exact SeqAt.EqAt.str_bool a t' b
  |int b=>obtain⟨t,rfl⟩:=rx;exact SeqAt.EqAt.str_int a t' b t
  |str b=>obtain⟨t,rfl⟩:=rx;exact SeqAt.EqAt.str_str a t' b t
  |_=>exact absurd (show false=true from fx) Bool.false_ne_true
 |_=>exact absurd (show false=true from fy) Bool.false_ne_true
def eqU(x:V)(u:Value):Bool:=match u with
 |.none=>eqV .non x
 |.bool b=>eqV (.bl b) x
 |.int i _=>eqV (.int i) x
 |.str z _=>eqV (.str z) x
 |_=>false
theorem wQ{x y:V}{u:Value}(r:RelV y u)(f:iN y=true):eqU x u=eqV y x:=by
 cases y with
 |non=>cases r;rfl
 |bl b=>cases r;rfl
 |int i=>obtain⟨t,rfl⟩:=r;rfl
 |str z=>obtain⟨t,rfl⟩:=r;rfl
 |_=>exact absurd (show false=true from f) Bool.false_ne_true
theorem qW{x:V}:∀{xs:List V}{us:List Value},b7 xs us→xs.all iN=true→us.any (eqU x)=xs.any fun y=>eqV y x
 |_,_,.nil,_=>rfl
 |y::xs,u::us,.cons r t,f=>by
  rw[List.all_cons,Xy]at f;rw[List.any_cons,List.any_cons,wQ r f.1,qW t f.2]
theorem gO{A:Around}{s:Shared}{x:V}{v:Value}(rx:RelV x v)(fx:iN x=true):∀{xs:List V}{us:List Value},b7 xs us→xs.all iN=true→∀u∈us,SeqAt.EqAt A s u v (eqU x u)
 |_,_,.nil,_=>fun u hu=>by cases hu
 |y::xs,u::us,.cons r t,f=>fun u' hu=>by
  rw[List.all_cons,Xy]at f;rcases Zn.mp hu with rfl | hu
  ·rw[wQ r f.1];exact R1 r rx f.1 fx
  ·exact gO rx fx t f.2 u' hu
def inV(x:V)(xs:List V):Bool:=xs.any fun y=>eqV y x
def rIn(K:PySem.W.Frag)(neg:Bool):R2:=fun x y H Q=>∃p xs,y=.ref p∧(SqL K H p xs∨SqT K H p xs)∧iN x=true∧xs.all iN=true∧Q (.bl (if neg then !inV x xs else inV x xs)) H
theorem oE:OpR X (compareOp .In) (rIn X.K false):=by
 intro pins s σ H x y v u Q I rx ry h;obtain⟨p,xs,rfl,hq,fx,fs,q⟩:=h;cases ry;rcases hq with hq | hq
 ·obtain⟨its,r,pl,hz⟩:=I.list hq;refine SeqAt.in_listAt (eqU x) pl.isList (fun w hw=>gO rx fx r fs w (by simpa using hw)) ⟨.bl _,H,I,rfl,?_⟩;rw[show its.toArray.any (eqU x)=its.any (eqU x) by simp,qW r fs];exact q
 ·obtain⟨its,r,pl,hz⟩:=I.tuple hq;refine SeqAt.in_tupleAt (eqU x) pl (fun w hw=>gO rx fx r fs w (by simpa using hw)) ⟨.bl _,H,I,rfl,?_⟩;rw[show its.toArray.any (eqU x)=its.any (eqU x) by simp,qW r fs];exact q
theorem p8:OpR X (compareOp .NotIn) (rIn X.K true):=by
 intro pins s σ H x y v u Q I rx ry h;obtain⟨p,xs,rfl,hq,fx,fs,q⟩:=h;cases ry;rcases hq with hq | hq
 ·obtain⟨its,r,pl,hz⟩:=I.list hq;refine SeqAt.notIn_listAt (eqU x) pl.isList (fun w hw=>gO rx fx r fs w (by simpa using hw)) ⟨.bl _,H,I,rfl,?_⟩;rw[show its.toArray.any (eqU x)=its.any (eqU x) by simp,qW r fs];exact q
 ·obtain⟨its,r,pl,hz⟩:=I.tuple hq;refine SeqAt.notIn_tupleAt (eqU x) pl (fun w hw=>gO rx fx r fs w (by simpa using hw)) ⟨.bl _,H,I,rfl,?_⟩;rw[show its.toArray.any (eqU x)=its.any (eqU x) by simp,qW r fs];exact q
theorem aV:gW X (.builtin "len") (fun xs H Q=>∃p ys,xs=[.ref p]∧(SqL X.K H p ys∨SqT X.K H p ys)∧Q (.int ys.length) H):=by
 intro pins s σ H xs us Q I r h;obtain⟨p,ys,rfl,hq,q⟩:=h;obtain⟨u,rfl,rx⟩:=vals1 r;cases rx;have hn:=iL;rcases hq with hq | hq
 ·obtain⟨its,r',pl,hz⟩:=I.list hq;have hlen:=r'.length;exact Calls.call_len_list pl.isList (by simp only[List.size_toArray]<;>lia) ⟨.int ys.length,H,I.tok _,⟨s.toks+1,by rw[List.size_toArray,hlen]⟩,q⟩
 ·obtain⟨its,r',pl,hz⟩:=I.tuple hq;have hlen:=r'.length;exact len_tuple pl (by simp only[List.size_toArray]<;>lia) ⟨.int ys.length,H,I.tok _,⟨s.toks+1,by rw[List.size_toArray,hlen]⟩,q⟩
theorem eU:gW X (.builtin "len") (fun xs H Q=>∃z,xs=[.str z]∧z.length≤ZW∧Q (.int z.length) H):=by
 intro pins s σ H xs us Q I r h;obtain⟨z,rfl,hz,q⟩:=h;obtain⟨u,rfl,t,rfl⟩:=vals1 r;have hn:=iL;exact len_str (by lia) ⟨.int z.length,H,I.tok _,⟨_,rfl⟩,q⟩
theorem A7:gW X (.type "list") (fun xs H Q=>∃p ys,xs=[.ref p]∧(SqL X.K H p ys∨SqT X.K H p ys)∧∀l,H l=none→Q (.ref l) (upd H l (.lst ys))):=by
 intro pins s σ H xs us Q I r h;obtain⟨p,ys,rfl,hq,q⟩:=h;obtain⟨u,rfl,rx⟩:=vals1 r;cases rx;have fin:∀(its:List Value),b7 ys its→ys.length≤ZW→∀(h':Heap) (c':Nat),(∀b o',s.heap.get? b=some o'→h'.get? b=some o') →
   h'.get? s.heap.objs.size=some { cls:=.type "list",dict:=none,data:=.seq its.toArray c',slots:=#[] }→EP X pins σ Q (.ref s.heap.objs.size) { s with heap:=h' }:=fun its r' hz h' c' kp e =>
  ⟨.ref s.heap.objs.size,_,I.laid (t':=s.toks) kp (Nat.le_refl _) (show dM X.prog X.w _ h' _ (.lst ys) from⟨hz,its,c',r',e⟩),rfl,q _ (I.hok.fresh (Nat.le_refl _))⟩
 rcases hq with hq | hq
 ·obtain⟨its,r',pl,hz⟩:=I.list hq;have hlen:=r'.length;obtain⟨o,ho,hc,n,hd⟩:=pl.isList;exact call_list_seq p (.inl rfl) ho hc hd (fun h' c' kp e=>fin its r' hz h' c' kp e) (by simp only[List.size_toArray]<;>lia)
 ·obtain⟨its,r',pl,hz⟩:=I.tuple hq;have hlen:=r'.length;obtain⟨o,ho,hc,n,hd⟩:=pl;exact call_list_seq p (.inr rfl) ho hc hd (fun h' c' kp e=>fin its r' hz h' c' kp e) (by simp only[List.size_toArray]<;>lia)
def tyV(K:PySem.W.Frag)(T:String)(x:V)(H:Hp):Prop:=match x with
 |.str _=>T="str"
 |.int _=>T="int"
 |.ref p=>(T="list"∧∃xs,SqL K H p xs)∨(T="tuple"∧∃o,K.lookup p=some o∧o.cls=.type "tuple"∧o.dict=none) ∨
   (T="dict"∧((∃kvs,H p=some (.dK kvs))∨∃kvs,H p=some (.dT kvs)))∨(T="set"∧∃S n,H p=some (.set S n))
 |_=>False
theorem QG{pins:List (Addr×Obj)}{σ:St}{H:Hp}{s:Shared}{T:String}{x:V}{v:Value}(I:Inv X pins σ H s)(r:RelV x v)(ty:tyV X.K T x H) :
  s.TypeIs v T∧∀a,v=.ref a→∃ob,s.heap.get? a=some ob∧ob.dict=none:=by
 cases x with
 |str z =>
  obtain⟨t,rfl⟩:=r;cases (show T="str" from ty);exact⟨typeIs_str s z t,fun _ e=>nomatch e⟩
 |int i =>
  obtain⟨t,rfl⟩:=r;cases (show T="int" from ty);exact⟨typeIs_int s i t,fun _ e=>nomatch e⟩
 |ref p =>
  cases r;rcases ty with⟨rfl,xs,hq⟩ | ⟨rfl,o,hk,hc,hd⟩ | ⟨rfl,hk⟩ | ⟨rfl,S,n,hk⟩
  ·obtain⟨its,_,pl,_⟩:=I.list hq;refine⟨pl.isList.typeIs,fun a e=>?_⟩;cases e;obtain⟨o,n,e,c,hd,_⟩:=pl;exact⟨o,e,hd⟩
  ·refine⟨⟨o,I.kIn p o hk,hc⟩,fun a e=>?_⟩;cases e;exact⟨o,I.kIn _ o hk,hd⟩
  ·have z:∃o,s.heap.get? p=some o∧o.ExactDict:=by
    rcases hk with⟨kvs,hk⟩ | ⟨kvs,hk⟩
    ·obtain⟨_,_,_,_,o,_,_,e,ex,_⟩:=I.hok p _ hk;exact⟨o,e,ex⟩
    ·obtain⟨_,_,_,_,o,_,_,e,ex,_⟩:=I.hok p _ hk;exact⟨o,e,ex⟩
   obtain⟨o,e,ex⟩:=z;refine⟨⟨o,e,ex.1⟩,fun a e2=>?_⟩;cases e2;exact⟨o,e,ex.2.1⟩
  ·obtain⟨o,_,_,_,e,ex,_⟩:=I.hok p _ hk;refine⟨⟨o,e,ex.1⟩,fun a e2=>?_⟩;cases e2;exact⟨o,e,ex.2.1⟩
 |_=>exact False.elim ty
def tBM(K:PySem.W.Frag)(T:String)(r:V→List V→Hp→VK→Prop)(to:TE)(t:TA):TE:=fun σ H Q=>to σ H fun x H1=>tyV K T x H1∧t σ H1 fun xs H2=>r x xs H2 Q
variable{o e:Expr}{es:List Expr}{to:TE}{t:TA}{name:Str}{apos cpos:Pos}{T id:String}{r:V→List V→Hp→VK→Prop}
theorem lI(pa:PlainAttrs T)(slot:Slot T name id)(hty:typeOf (.builtin id)=pure (.type "method_descriptor"))(hm:MtR X id r)(ho:PE X o to)(ha:PA X (e::es) t)
  (hbase:attributeBase o name X.env (eval o X.env)=eval o X.env:=by rfl)
  (hfew:((backTo cpos (starEach (e::es) X.env)).all (fun x=>!x.1)&&(backToKw cpos (keywordEach [] X.env)).all (fun x=>x.1.isSome)
   && decide ((e::es).length+([]:List Keyword).length+(if ([]:List Keyword).isEmpty then 0 else 1)<30))=true:=by rfl)
  (hline:(apos.endLine==cpos.line)=true:=by rfl) (hs:starEach (e::es) X.env=(false,eval e X.env)::starEach es X.env:=by rfl) (hplain:(backTo cpos (starEach es X.env)).any (·.1)=false:=by rfl) :
  PE X (.Call (.Attribute o name apos) (e::es) [] cpos) (tBM X.K T r to t):=by
 intro pins s σ H Q I h;refine wpAny_Call_method_late hbase hfew hline rfl (thn (ho pins s σ H _ I h) fun v s1 ⟨x,H1,I1,r1,ty,q1⟩=>?_);obtain⟨h1,h2⟩:=QG I1 r1 ty;refine⟨T,id,pa,slot,hty,h1,h2,?_⟩;have hA:=ha cpos pins s1 σ H1 _ I1 q1;rw[hs]at hA ⊢;refine Calls.callWith_builtin (by show(false||(backTo cpos (starEach es X.env)).any (·.1))=false;rw[hplain]<;>rfl) (Calls.evalArgs_plain ?_);exact thn hA fun us s2 ⟨vs,H2,I2,r2,q2⟩=>hm pins s2 σ H2 x vs v us Q I2 r1 r2 q2
end
end L2
namespace L2
open PySem PySem.Spec PyProof.Rows
def MtM(X:Cx)(id:String)(r:V→List V→Hp→VK→Prop):Prop :=
 ∀(pins:List (Addr×Obj)) (s:Shared) (σ:St) (H:Hp) (x:V) (xs:List V) (v:Value) (us:List Value) (Q:VK),Inv X pins σ H s→RelV x v→b7 xs us→r x xs H Q →
  wpAny (model X.prog X.w) X.A (call (.builtin id) (v::us)) (EP X pins σ Q) X.xe s
theorem b7.one:∀{x:V}{us:List Value},b7 [x] us→∃u,us=[u]∧RelV x u:=by
 intro x us h;cases h with
 |cons r h=>cases h;exact⟨_,rfl,r⟩
theorem b7.two:∀{x y:V}{us:List Value},b7 [x,y] us→∃u v,us=[u,v]∧RelV x u∧RelV y v:=by
 intro x y us h;cases h with
 |cons r h=>cases h with
  |cons q h=>cases h;exact⟨_,_,rfl,r,q⟩
theorem b7.reverse{xs:List V}{us:List Value}(h:b7 xs us):b7 xs.reverse us.reverse:=by
 induction h with
 |nil=>exact .nil
 |cons r t ih=>rw[List.reverse_cons,List.reverse_cons];exact b7.append ih (.cons r .nil)
section
variable{X:Cx}{pins:List (Addr×Obj)}{σ:St}{H:Hp}{s:Shared}{l b:Addr}{xs ys zs:List V}
theorem Inv.lset{its its':List Value}{n:Nat}{f:Array Value→Array Value}{t':Nat}(I:Inv X pins σ H s)(hH:H l=some (.lst xs))
  (e:s.heap.get? l=some { cls:=.type "list",data:=.seq its.toArray n }) (hf:f its.toArray=its'.toArray) (hv:b7 ys its') (hz:ys.length≤ZW) :
  Inv X pins σ (upd H l (.lst ys)) { s with heap:=s.heap.update l (Obj.mapSeq f),toks:=t' }:=by
 have q:=PySem.IsL.update e f;rw[hf]at q;refine I.write (x:=l) (e:=l) (by rw[hH];exact trivial) (.inl rfl) (fun b' u hb hu=>(Heap.get?_update_other s.heap (Obj.mapSeq f) (Ne.symm hb)).trans hu) ⟨_,q⟩ ?_;exact⟨hz,its',_,hv,q⟩
theorem Inv.lnew{its:List Value}{t':Nat}(I:Inv X pins σ H s)(hv:b7 ys its)(hz:ys.length≤ZW) :
  Inv X pins σ (upd H s.heap.objs.size (.lst ys)) { s with heap:=s.heap.push { cls:=.type "list",data:=.seq its.toArray },toks:=t' } :=
 I.laid (fun _ _ q=>Heap.get?_push_of_some _ q) (Nat.le_refl _) ⟨hz,its,0,hv,Heap.get?_push_size _ rfl⟩
theorem Inv.fresh(I:Inv X pins σ H s):H s.heap.objs.size=none:=I.hok.fresh (Nat.le_refl _)
theorem Inv.lstM(I:Inv X pins σ H s)(hH:H l=some (.lst xs)):xs.length≤ZW∧∃(its:List Value) (n:Nat),b7 xs its∧xs.length=its.length∧s.heap.get? l=some { cls:=.type "list",data:=.seq its.toArray n }:=by
 obtain⟨z,its,n,r,e⟩:=I.hok l _ hH;exact⟨z,its,n,r,r.length,e⟩
theorem KM{n:Nat}(h:n≤ZW):Builtin.List.listTooLong n=false:=by
 unfold Builtin.List.listTooLong;exact decide_eq_false (by lia)
end
section
variable{X:Cx}
def NR:V→List V→Hp→VK→Prop:=fun x vs H Q=>∃l xs y,x=.ref l∧vs=[y]∧H l=some (.lst xs)∧xs.length<ZW∧Q .non (upd H l (.lst (xs++[y])))
theorem bR:MtM X "list.append" NR:=by
 intro pins s σ H x vs v us Q I rx rv h;obtain⟨l,xs,y,rfl,rfl,hH,hz,q⟩:=h;cases rx;obtain⟨u,rfl,ru⟩:=rv.one;obtain⟨z,its,n,r,hl,e⟩:=I.lstM hH;refine call_meets F.slot_list_append ⟨_,e,rfl⟩ F.entry_list_append (F.args_list_append_2 _ _) (PySem.list_append l its.toArray n u (by rw[List.size_toArray];lia)) ⟨e,?_⟩;refine⟨.non,_,I.lset (its':=its++[u]) hH e (by simp) (r.append (.cons ru .nil)) ?_,rfl,q⟩;rw[Zm,ZQ]
 lia
def NO:V→List V→Hp→VK→Prop:=fun x vs H Q=>∃l b xs zs,x=.ref l∧vs=[.ref b]∧H l=some (.lst xs)∧H b=some (.lst zs)∧xs.length+zs.length≤ZW∧Q .non (upd H l (.lst (xs++zs)))
theorem yR:MtM X "list.extend" NO:=by
 intro pins s σ H x vs v us Q I rx rv h;obtain⟨l,b,xs,zs,rfl,rfl,hH,hB,hz,q⟩:=h;cases rx;obtain⟨u,rfl,ru⟩:=rv.one;cases ru;obtain⟨z,its,n,r,hl,e⟩:=I.lstM hH;obtain⟨z2,its2,n2,r2,hl2,e2⟩:=I.lstM hB;have hsz:its.toArray.size+its2.toArray.size≤ZW:=by rw[List.size_toArray,List.size_toArray];lia
 have hlong:¬(!its.toArray.isEmpty&&Builtin.List.listTooLong (its.toArray.size+its2.toArray.size))=true:=by
  rw[KM hsz,Bool.and_false];exact Bool.false_ne_true
 refine call_meets F.slot_list_extend ⟨_,e,rfl⟩ F.entry_list_extend (F.args_list_extend_2 _ _)
  (AutoSeq1.list_extend_list_list_0 l its.toArray n b its2.toArray n2 hlong (by rw[List.size_toArray];lia) (by lia)) ⟨e,e2,?_⟩
 refine⟨.non,_,I.lset (its':=its++its2) hH e (by simp) (r.append r2) ?_,rfl,q⟩;rw[Zm]
 lia
def VR:R2:=fun x y H Q=>∃l b xs zs,x=.ref l∧y=.ref b∧H l=some (.lst xs)∧H b=some (.lst zs)∧xs.length+zs.length≤ZW∧∀p,H p=none→Q (.ref p) (upd H p (.lst (xs++zs)))
theorem dQ:OpR X (binaryOp .Add) VR:=by
 intro pins s σ H x y v u Q I rx ry h;obtain⟨l,b,xs,zs,rfl,rfl,hH,hB,hz,q⟩:=h;cases rx;cases ry;obtain⟨z,its,n,r,hl,e⟩:=I.lstM hH;obtain⟨z2,its2,n2,r2,hl2,e2⟩:=I.lstM hB;refine PySem.P.add_list e e2 ?_ (by rw[List.size_toArray,List.size_toArray];lia);have ea:its.toArray++its2.toArray=(its++its2).toArray:=by simp
 rw[ea];exact⟨.ref _,_,I.lnew (t':=s.toks) (r.append r2) (by rw[Zm];lia),rfl,q _ I.fresh⟩
end
section
variable{prog:Program}{w:World}{A:Around}{E:Value→Shared→Prop}{s:Shared}
end
section
variable{X:Cx}
end
end L2
namespace Att
open PySem PySem.W PySem.Calls PyProof.Rows
theorem uC{P:Params}{h:Heap}:∀(ns:List Int) (vs:List Value),WellAll P h vs (ns.map WData.int)→IntsAre vs ns:=by
 intro ns;induction ns with
 |nil =>
  intro vs w;rw[List.map_nil]at w;cases w;exact .nil
 |cons n ns ih =>
  intro vs w;rw[List.map_cons]at w;cases w with
  |cons a b =>
   cases a;exact .cons _ _ (ih _ b)
theorem GW{l:OpenLaw}{n:Nat}(hn:l.most=some n){P:Params}{h:Heap}{args:List WData}{vals:List Value}
  (hpre:l.row.toRowW.claim.pre args=true) (hwl:WellAll P h vals args) :
  ∃a vs ns,vals=[Value.ref a]∧args=[WData.list (ns.map WData.int)]∧h.get? a=some { cls:=.type "list",data:=.seq vs.toArray }∧IntsAre vs ns∧ns.length≤n:=by
 have hsh:WShape.hasAll [] args [.list .int]=true:=(pre_splitW hpre).1;have hc:l.pre.holds [] { args:=args }=true:=(pre_splitW hpre).2;obtain⟨d,r,rfl,h1,h2⟩:=hasAllW_cons hsh;obtain rfl:=hasAllW_nil h2;obtain⟨xs,rfl,h3⟩:=hasW_list h1;obtain⟨ns,rfl⟩:=items_int h3;have hlen:ns.length≤n:=by
  unfold OpenLaw.pre at hc;have h4:(WTm.not (.lt (.lit (.int (n:Int))) (.len (.arg 0)))).holds [] { args:=[.list (ns.map .int)] }=true:=by
   have h4:=(holds_andW hc).1;rw[hn]at h4;exact h4
  have h5:=condW_of h4 (w_not (w_lt w_lit (w_len_list (w_arg rfl))));rw[Zq]at h5;refine Nat.le_of_not_lt fun q=>?_;have q':(n:Int)<((ns.length:Nat):Int):=by omega
  first
   |(rw[decide_eq_true q']at h5;exact absurd h5 (by decide))
   |(simp at h5;omega)
 cases hwl with
 |cons w1 w2 =>
  cases w2;cases w1 with
  |list ho hall=>exact⟨_,_,ns,rfl,rfl,ho,uC ns _ hall,hlen⟩
theorem G2(l:OpenLaw)(args:List WData):l.row.toRowW.claim.post args (.bool true) args=true :=
 postW_of (r:=l.row.toRowW) (X:=(true==true))
  (show WShape.has [] (.bool true) .bool=true by first | rfl | decide | simp[WShape.has,WShape.arms,WShape.armsAll])
  (show(WTm.eq .res (.lit (.bool true))).value [] { args:=args,res:=some (.bool true),after:=args }=some (.bool (true==true)) from w_eq_bool (w_res rfl) w_lit) rfl
theorem DE{l:OpenLaw}{n:Nat}{q:Program}{loose:List Str}{XP:(Str→Option Value)→Heap→Prop}{YP:World→Heap→Prop}{d:DefRec}
  (hn:l.most=some n) (hdf:d.params.defaults=[])
  (call:∀(w:World) (s₀ s₁:Shared) (mg mb:Str→Option Value) (fa:Addr) (o:Obj) (pm cd doc:Value) (a:Addr) (vs:List Value) (ns:List Int),
   Ground q loose [] XP w s₀ mg mb s₁.heap→YP w s₁.heap →
   s₁.heap.get? fa=some o→o.data=.func (docDef d.name d.params d.body d.scope pm cd doc)→s₁.heap.CodeRec cd d.name→mg d.name=some (.ref fa) →
   s₁.heap.get? a=some { cls:=.type "list",data:=.seq vs.toArray }→IntsAre vs ns→ns.length≤n→s₁.gens=#[] →
   codeAny (model l.prog w) callerA (.call (.ref fa) ⟨[.ref a],[]⟩) (fun r s'=>r=.ok (.ret (.bool true))∧OldK s₁.heap s'.heap∧s'.os=s₁.os∧AllBare s'.gens) s₁) :
  WalkO q loose XP YP l.row.toRowW d [] (fun f vs=>PySem.call f vs):=by
 intro w s₀ s₁ mg mb G Y fa o pm cd doc dV kV ho hd hcd hD hmg hg args vals as hpre hlay hrd hwl hlo;obtain rfl:dV=.none:=Dflts.none hD hdf;obtain rfl:kV=.none:=Dflts.noKw hD;obtain⟨a,vs,ns,rfl,rfl,hobj,hints,hlen⟩:=GW hn hpre hwl;refine enter_call (codeAny_mono (call w s₀ s₁ mg mb fa o pm cd doc a vs ns G Y ho (fd_plain hd) hcd hmg hobj hints hlen hg) fun r s' hq=>?_);obtain⟨rfl,h2,h3,h4⟩:=hq;exact⟨.inl ⟨.bool true,.bool true,[],rfl,fun _=>rfl,.bool true,G2 l _,fun _=>⟨List.Pairwise.nil,fun _ hm=>(nomatch hm)⟩⟩,h2,h3,h4⟩
section
variable{prog:Program}{w:World}{A:Around}{E:Value→Shared→Prop}{s:Shared}{K:Frag}
end
end Att
namespace L2
open PySem PySem.Spec PyProof.Rows
theorem xY:∀{vs:List Value}{ns:List Int},IntsAre vs ns→b7 (ns.map V.int) vs
 |_,_,.nil=>.nil
 |_,_,.cons n t h=>.cons ⟨t,rfl⟩ (xY h)
def SM(H:Hp):Prop:=∀b,H b=none∨∃o xs,H b=some (.frz o (.lst xs))
theorem K3{P:Program}{w:World}{K:PySem.W.Frag}{mg mb:Str→Option Value}{CX:CXT}{k:Nat}{fa a:Addr}{fd:FuncData}{x:Str}{sp:Sp}{s₁:Shared}{vs:List Value}{ns:List Int}
  (KX:K.In s₁.heap) (hns:s₁.heap.Ns ZV mg) (hb:s₁.heap.Ns builtinsNs mb) (hbb:∀x:Str,x≠"__name__"→mb x=bootBuiltins x) (hlim:s₁.heap.NoLimit) (hg:s₁.gens=#[])
  (ha:s₁.heap.get? a=some { cls:=.type "list",data:=.seq vs.toArray }) (hi:IntsAre vs ns) (hl:ns.length≤ZW) (hr:kD k callerA)
  (F:∀base:Heap,K.In base→base.Ns ZV mg→cU P w K mg base CX k fa fd [x] sp) (hbind:∀(s:Shared) (u:Value),BindsTo s fd ⟨[u],[]⟩ [(x,u)])
  (hsp:∀H:Hp,SM H→SqL K H a (ns.map V.int)→sp [.ref a] H (fun v _=>v=.bl true) fun _ _ _=>False)
  (hCX:∀H e s',CX [] H s₁ (fun _ _ _=>False) e s'→False) :
  codeAny (model P w) callerA (.call (.ref fa) ⟨[.ref a],[]⟩) (fun r s'=>r=.ok (.ret (.bool true))∧OldK s₁.heap s'.heap∧s'.os=s₁.os∧AllBare s'.gens) s₁:=by
 have rv:=xY hi;have lenV:=hi.length;have core:∀H:Hp,SM H→SqL K H a (ns.map V.int)→HOk P w H s₁.heap→(∀b,H b≠none→b=a)→(H a≠none→K.lookup a=none) →
   codeAny (model P w) callerA (.call (.ref fa) ⟨[.ref a],[]⟩) (fun r s'=>r=.ok (.ret (.bool true))∧OldK s₁.heap s'.heap∧s'.os=s₁.os∧AllBare s'.gens) s₁:=by
  intro H hO hS hok hA hK;have base_of:∀{b:Addr}{o:Obj},s₁.heap.get? b=some o→H b=none→(AR s₁.heap H).get? b=some o:=fun e n=>LI e n;have noA:∀{b:Addr}{o:Obj}{es:Array DictEntry}{ep:Nat},s₁.heap.get? b=some o→o.data=.dict es ep→H b=none:=fun {b o es ep} e d=>by
   cases q:H b with
   |none=>rfl
   |some u =>
    have e':b=a:=hA b (by rw[q];simp);subst e';rw[ha]at e;cases e;have d':Data.seq vs.toArray _=Data.dict es ep:=d;cases d'
  have nsK:∀{b:Addr}{m:Str→Option Value},s₁.heap.Ns b m→(AR s₁.heap H).Ns b m:=fun {b m} ⟨o,es,ep,e,d,r⟩=>⟨o,es,ep,base_of e (noA e d),d,r⟩
  have hKb:K.In (AR s₁.heap H):=fun b o e=>base_of (KX b o e) (by
   cases q:H b with
   |none=>rfl
   |some u =>
    have e':b=a:=hA b (by rw[q];simp);subst e';rw[hK (by rw[q];simp)]at e;cases e)
  have hM:Mod K mg (AR s₁.heap H):=⟨hKb,nsK hns,⟨mb,nsK hb,hbb⟩,let⟨mc,h1,h2⟩:=hlim;⟨mc,nsK h1,h2⟩⟩
  have e0:O5 P w K mg (AR s₁.heap H) callerA [] s₁ H:=⟨rfl,hM,fun b o e=>OA e,Nat.le_of_eq (HP _ _),trivial,fun b hb=>absurd (show b∈([]:List Addr) from hb) (by simp),hok,.of_eq hg⟩
  refine codeAny_mono ((F _ hKb (nsK hns)).run callerA [] s₁ H ⟨[.ref a],[]⟩ [.ref a] [.ref a] _ _ hr e0 (hbind s₁ (.ref a)) (.cons rfl .nil) (hsp H hO hS)) fun r s' h=>?_;cases r with
  |error e=>exact(hCX H e s' h).elim
  |ok fl =>
   cases fl with
   |next=>exact False.elim h
   |brk=>exact False.elim h
   |cont=>exact False.elim h
   |ret u =>
    obtain⟨v,H',os,bare,un,hok',r',q⟩:=h;have q':v=.bl true:=q;subst q';obtain rfl:u=Value.bool true:=r';refine⟨rfl,OldK.of_keep fun b o e=>?_,os,bare⟩;cases q:H b with
    |none=>exact un.keep b o e q (by intro z;exact absurd (show b∈([]:List Addr) from z) (by simp)) (by simp)
    |some u =>
     rcases hO b with z | ⟨ob,xs,z⟩
     ·rw[q]at z;cases z
     ·have z2:=un.frzs b ob _ z;obtain⟨e1,_⟩:=hok b _ z;obtain⟨e2,_⟩:=hok' b _ z2;rw[e]at e1;cases e1;exact e2
 cases hk:K.lookup a with
 |some o =>
  have e:=KX a o hk;rw[ha]at e;cases e;refine core (fun _=>none) (fun _=>.inl rfl) (.inr ⟨_,vs.toArray,_,hk,rfl,rfl,rfl,by rw[List.size_toArray,lenV];exact hl,by simpa using rv⟩) (fun b u z=>by have z':(none:Option HO)=some u:=z;cases z') (fun b z=>absurd rfl z) fun z=>absurd rfl z
 |none =>
  refine core (fun b=>if b=a then some (.frz { cls:=.type "list",data:=.seq vs.toArray } (.lst (ns.map V.int))) else none) (fun b=>?_) (.inl (.inr ⟨{ cls:=.type "list",data:=.seq vs.toArray },if_pos rfl⟩)) (fun b u z=>?_) (fun b z=>?_) fun _=>hk
  ·by_cases hb:b=a
   ·exact .inr ⟨_,_,if_pos hb⟩
   ·exact .inl (if_neg hb)
  ·by_cases hb:b=a
   ·have z':=(if_pos hb).symm.trans z;cases z';subst hb;exact⟨ha,by rw[Zq];exact hl,vs,_,rv,ha⟩
   ·have z':=(if_neg hb).symm.trans z;cases z'
  ·by_cases hb:b=a
   ·exact hb
   ·exact absurd (if_neg hb) z
theorem MU{l:PySem.W.OpenLaw}{n k:Nat}{q:Program}{loose:List Str}{XP:(Str→Option Value)→Heap→Prop}{YP:World→Heap→Prop}{d:DefRec}{K:Params→PySem.W.Frag}{CX:World→CXT}{sp:World→Sp}{x:Str}
  (hn:l.most=some n) (hn2:n≤ZW) (hdf:d.params.defaults=[]) (hr:kD k callerA)
  (hY:∀(w:World) (h:Heap),YP w h→(K w.params).In h)
  (F:∀(w:World) (mg:Str→Option Value) (fa:Addr) (h:Heap),(K w.params).In h→h.Ns ZV mg→mg d.name=some (.ref fa) →
   ∃fd:FuncData,(∀(s:Shared) (u:Value),BindsTo s fd ⟨[u],[]⟩ [(x,u)]) ∧
    ∀base:Heap,(K w.params).In base→base.Ns ZV mg→cU l.prog w (K w.params) mg base (CX w) k fa fd [x] (sp w))
  (hsp:∀(w:World) (H:Hp) (a:Addr) (ns:List Int),ns.length≤n→SM H→SqL (K w.params) H a (ns.map V.int)→sp w [.ref a] H (fun v _=>v=.bl true) fun _ _ _=>False)
  (hCX:∀(w:World) (H:Hp) (s:Shared) (e:Value) (s':Shared),CX w [] H s (fun _ _ _=>False) e s'→False) :
  PySem.W.WalkO q loose XP YP l.row.toRowW d [] (fun f vs=>PySem.call f vs):=by
 refine Att.DE hn hdf fun w s₀ s₁ mg mb fa o pm cd doc a vs ns G Y ho hd hcd hmg hobj hints hlen hg=>?_;have KX:=hY w _ Y;obtain⟨fd,hb,hF⟩:=F w mg fa _ KX G.T.g hmg;exact K3 KX G.T.g G.T.b G.T.builtins G.T.nolimit hg hobj hints (YQ hlen hn2) hr hF hb (fun H hO hS=>hsp w H a ns hlen hO hS) fun H e s'=>hCX w H s₁ e s'
def kU(s:Stmt):Arguments:=match s with
 |.FunctionDef _ a _ _ _ _ _ _ _ _=>a
 |_=>{ posonlyargs:=[],args:=[],vararg:=none,kwonlyargs:=[],kw_defaults:=[],kwarg:=none,defaults:=[] }
def gZ(s:Stmt):List Stmt:=match s with
 |.FunctionDef _ _ b _ _ _ _ _ _ _=>b
 |_=>[]
def aR(s:Stmt):Scope:=match s with
 |.FunctionDef _ _ _ _ _ _ sc _ _ _=>sc
 |_=>{ kind:=.function,names:=[],isGenerator:=false,isCoroutine:=false }
abbrev CX0:CXT:=fun _ _ _ _ _ _=>False
abbrev E0:XK:=fun _ _ _=>False
theorem bK{X:Cx}:sO CX0 X E0:=fun _ _ _ _ _ _ _ h=>h.elim
structure Fun(K:PySem.W.Frag)(x qual:Str)(st:Stmt)(f:Addr)(fd:FuncData):Prop where
 ex:∃(oc:Value) (od:Option Addr) (kV doc pm:Value) (an:Option Addr) (cdv ct:Value) (osl:Array (Option Value)),
  fd=PySem.W.fnOf x qual (kU st) (gZ st) (aR st) .none kV doc pm an cdv ct∧K.lookup f=some ⟨oc,od,.func fd,osl⟩∧PySem.W.codeIn K cdv qual=true
 kp:PySem.W.keepIn K (.ref f)=true
section
variable{P:Program}{w:World}{K:PySem.W.Frag}{mg:Str→Option Value}{base:Heap}
theorem Fun.ok{x qual:Str}{st:Stmt}{f:Addr}{fd:FuncData}{N ps:List Str}{k:Nat}{sp:Sp}(F:Fun K x qual st f fd)(S:bD N ps (aR st))(len:∀vs H Q E,sp vs H Q E→vs.length=ps.length)
  (hbody:∀(cdv:Value) (A:Around) (outer:List Env) (s:Shared) (H:Hp) (vs:List V) (Q:VK) (E:XK),kD k (A.deeper (envOfC qual (aR st) s.heap.objs.size f cdv))→sp vs H Q E →
   ∃t,PSs (uD CX0 P w K mg base N qual (aR st) f cdv A outer s H E).nox (gZ st) t∧t { nx:=fun _ H'=>Q .non H',rt:=Q } (start N vs) H):cU P w K mg base CX0 (k+1) f fd ps sp:=by
 obtain⟨oc,od,kV,doc,pm,an,cdv,ct,osl,rfl,lk,hcd⟩:=F.ex;refine P4 lk hcd S len fun A outer s H vs Q E hr hsp=>?_;obtain⟨t,h,q⟩:=hbody cdv A outer s H vs Q E hr hsp;exact⟨t,h.nox,q⟩
theorem Fun.binds{x qual:Str}{st:Stmt}{f:Addr}{fd:FuncData}{ps:List Str}(F:Fun K x qual st f fd)
  (h:∀(kV doc pm:Value) (an:Option Addr) (cdv ct:Value) (us:List Value),us.length=ps.length→bindArgs (PySem.W.fnOf x qual (kU st) (gZ st) (aR st) .none kV doc pm an cdv ct) ⟨us,[]⟩=pure (ps.zip us)):Binds K fd ps []:=by
 obtain⟨oc,od,kV,doc,pm,an,cdv,ct,osl,rfl,lk,hcd⟩:=F.ex;exact .all (h kV doc pm an cdv ct)
theorem LL{x qual:Str}{st:Stmt}{f:Addr}{oc:Value}{od an:Option Addr}{osl:Array (Option Value)}{kV doc pm cdv ct:Value}(l:K.lookup f=some ⟨oc,od,.func (PySem.W.fnOf x qual (kU st) (gZ st) (aR st) .none kV doc pm an cdv ct),osl⟩)
  (c:PySem.W.codeIn K cdv qual=true) (k:PySem.W.keepIn K (.ref f)=true):Fun K x qual st f (PySem.W.fnOf x qual (kU st) (gZ st) (aR st) .none kV doc pm an cdv ct):=⟨⟨oc,od,kV,doc,pm,an,cdv,ct,osl,rfl,l,c⟩,k⟩
end
section
variable{X:Cx}
theorem pv(i:Nat){x:Str}{pos:Pos}(hN:X.N[i]?=some x:=by rfl)(hv:Vis X.env.scope x:=by first | exact Or.inl rfl | exact Or.inr (Or.inl rfl) | exact Or.inr (Or.inr rfl))(hd:(x==("__debug__" : Str))=false:=by decide)
  (hcd:(x==("__classdict__" : Str))=false:=by decide):PE X (.Name x pos) (QJ i):=Q9 hN hv hd hcd
end
theorem iU{A B:Prop}(h:B):if false=true then A else B:=by
 rw[if_neg Bool.false_ne_true];exact h
theorem fR{A B:Prop}(h:A):if true=true then A else B:=by
 rw[if_pos rfl];exact h
theorem cO{c A B:Prop}[Decidable c](h1:c→A)(h2:¬c→B):if c then A else B:=by
 by_cases h:c
 ·rw[if_pos h];exact h1 h
 ·rw[if_neg h];exact h2 h
def aO(H H':Hp):Prop:=∀b o,H b=some o→H' b=some o
theorem aO.refl(H:Hp):aO H H:=fun _ _ h=>h
theorem aO.trans{H H1 H2:Hp}(a:aO H H1)(b:aO H1 H2):aO H H2:=fun c o h=>b c o (a c o h)
theorem aO.free{H H':Hp}(e:aO H H'){l:Addr}(h:H' l=Option.none):H l=Option.none:=by
 cases q:H l with
 |none=>rfl
 |some o =>
  rw[e l o q]at h;cases h
theorem aO.seq{K:PySem.W.Frag}{H H':Hp}{a:Addr}{xs:List V}(e:aO H H')(h:SqL K H a xs):SqL K H' a xs:=by
 rcases h with(h | ⟨o,h⟩) | h
 ·exact .inl (.inl (e _ _ h))
 ·exact .inl (.inr ⟨o,e _ _ h⟩)
 ·exact .inr h
end L2
set_option Elab.async false
set_option linter.all false
set_option maxRecDepth 100000
set_option maxHeartbeats 4000000
namespace L2
open PySem PySem.Spec PyProof.Rows
def fG(cells:List (Str×Addr)):List (Str×NameKind)→List (Str×Addr)→List (Str×Addr)
 |[],cs=>cs
 |x::r,cs=>fG cells r (if x.2=.free then ((cells.lookup x.1).map fun c=>(x.1,c)).toList++cs else cs)
theorem jI{scope:Scope}{env:Env}(h:∀x∈scope.names,x.2=.free→∃c,env.cells.lookup x.1=some c) :
  closureFor scope env=pure (fG env.cells scope.names []):=by
 have key:∀(l:List (Str×NameKind)) (cs:List (Str×Addr)) (f:Str×NameKind→List (Str×Addr)→Sem (ForInStep (List (Str×Addr)))),
   (∀x∈l,x.2=.free→∃c,env.cells.lookup x.1=some c) →
   (∀x cs,f x cs=if (x.2==NameKind.free)=true then (cellOf env x.1 >>= fun a=>pure (ForInStep.yield ((x.1,a)::cs))) else pure (ForInStep.yield cs)) →
   forIn l cs f=pure (fG env.cells l cs):=by
  intro l;induction l with
  |nil=>intro cs f _ _;rfl
  |cons x r ih =>
   intro cs f hx hf;rw[List.forIn_cons,hf];by_cases hk:x.2=.free
   ·obtain⟨c,hc⟩:=hx x Zd hk;rw[if_pos (by simp[hk])];have e:cellOf env x.1=pure c:=by unfold cellOf;rw[hc]
    rw[e];simp only[pure_bind];rw[ih _ f (fun y hy=>hx y (Zw _ hy)) hf];show _=pure (fG env.cells r (if x.2=.free then ((env.cells.lookup x.1).map fun c=>(x.1,c)).toList++cs else cs));rw[if_pos hk,hc];rfl
   ·rw[if_neg (by simp[hk])];simp only[pure_bind];rw[ih _ f (fun y hy=>hx y (Zw _ hy)) hf];show _=pure (fG env.cells r (if x.2=.free then ((env.cells.lookup x.1).map fun c=>(x.1,c)).toList++cs else cs));rw[if_neg hk]
 simp only[closureFor];rw[key scope.names [] _ h (fun x cs=>by obtain⟨n,k⟩:=x;rfl)]
 first | rfl | simp only[pure_bind]
theorem uM{cells:List (Str×Addr)}:∀(l:List (Str×NameKind)) (cs:List (Str×Addr)) {x:Str}{c:Addr},(fG cells l cs).lookup x=some c→cs.lookup x=some c∨cells.lookup x=some c
 |[],_,_,_,h=>.inl h
 |y::r,cs,x,c,h=>by
  have h':(fG cells r (if y.2=.free then ((cells.lookup y.1).map fun c=>(y.1,c)).toList++cs else cs)).lookup x=some c:=h;rcases uM r _ h' with q | q
  ·by_cases hk:y.2=.free
   ·rw[if_pos hk]at q;cases hl:cells.lookup y.1 with
    |none=>rw[hl]at q;exact .inl q
    |some d =>
     rw[hl]at q;have q':(((y.1,d)::cs).lookup x)=some c:=q;rw[List.lookup_cons]at q';cases hb:x==y.1 with
     |true =>
      rw[hb]at q';have e:=eq_of_beq hb;subst e
      right
      rw[hl];exact q'
     |false=>rw[hb]at q';exact .inl q'
   ·rw[if_neg hk]at q;exact .inl q
  ·exact .inr q
theorem C8{cells:List (Str×Addr)}:∀(l:List (Str×NameKind)) (cs:List (Str×Addr)) (x:Str),((x,NameKind.free)∈l∧∃c,cells.lookup x=some c)∨(∃c,cs.lookup x=some c)→∃c,(fG cells l cs).lookup x=some c
 |[],cs,x,h=>by
  rcases h with⟨q,_⟩ | q
  ·cases q
  ·exact q
 |y::r,cs,x,h=>by
  show ∃c,(fG cells r (if y.2=.free then ((cells.lookup y.1).map fun c=>(y.1,c)).toList++cs else cs)).lookup x=some c;apply C8 r;rcases h with⟨q,c,hc⟩ | ⟨c,hc⟩
  ·rcases Zn.mp q with q | q
   ·right
    subst q;rw[if_pos rfl,hc];refine⟨c,?_⟩;show((x,c)::cs).lookup x=some c;rw[List.lookup_cons];simp
   ·exact .inl ⟨q,c,hc⟩
  ·right
   by_cases hk:y.2=.free
   ·rw[if_pos hk];cases hl:cells.lookup y.1 with
    |none=>exact⟨c,hc⟩
    |some d =>
     show ∃c,((y.1,d)::cs).lookup x=some c;rw[List.lookup_cons];cases hb:x==y.1 with
     |true=>exact⟨d,rfl⟩
     |false=>exact⟨c,hc⟩
   ·rw[if_neg hk];exact⟨c,hc⟩
theorem pH{env:Env}:∀{names:List (Str×NameKind)}{x:Str}{k':NameKind},
  (names.map fun (n,k)=>if (k==NameKind.free&&env.scope.kind==.function&&env.kindOf n==some .cell) then (n,NameKind.cell) else (n,k)).lookup x=some k' →
  ∃k,(x,k)∈names∧(k=k'∨(k=.free∧k'=.cell))
 |[],_,_,h=>by simp at h
 |(n,k)::r,x,k',h=>by
  have ih:=@pH env r x k';have h':List.lookup x ((if (k==NameKind.free&&env.scope.kind==.function&&env.kindOf n==some .cell)=true then (n,NameKind.cell) else (n,k))::_)=some k':=h;by_cases hc:(k==NameKind.free&&env.scope.kind==.function&&env.kindOf n==some .cell)=true
  ·rw[if_pos hc,List.lookup_cons]at h';cases hb:x==n with
   |true =>
    rw[hb]at h';have e:=eq_of_beq hb;subst e;cases h';refine⟨k,Zd,.inr ⟨?_,rfl⟩⟩;simp only[Xy]at hc;exact eq_of_beq hc.1.1
   |false =>
    rw[hb]at h';obtain⟨k2,q,z⟩:=ih h';exact⟨k2,Zw _ q,z⟩
  ·rw[if_neg hc,List.lookup_cons]at h';cases hb:x==n with
   |true =>
    rw[hb]at h';have e:=eq_of_beq hb;subst e;cases h';exact⟨k,Zd,.inl rfl⟩
   |false =>
    rw[hb]at h';obtain⟨k2,q,z⟩:=ih h';exact⟨k2,Zw _ q,z⟩
theorem p6{env:Env}:∀{names:List (Str×NameKind)}{x:Str},names.lookup x=some .free →
  (names.map fun (n,k)=>if (k==NameKind.free&&env.scope.kind==.function&&env.kindOf n==some .cell) then (n,NameKind.cell) else (n,k)).lookup x=some .cell ∨
  (names.map fun (n,k)=>if (k==NameKind.free&&env.scope.kind==.function&&env.kindOf n==some .cell) then (n,NameKind.cell) else (n,k)).lookup x=some .free
 |[],_,h=>by simp at h
 |(n,k)::r,x,h=>by
  have ih:=@p6 env r x;show List.lookup x ((if (k==NameKind.free&&env.scope.kind==.function&&env.kindOf n==some .cell)=true then (n,NameKind.cell) else (n,k))::_)=some .cell ∨
   List.lookup x ((if (k==NameKind.free&&env.scope.kind==.function&&env.kindOf n==some .cell)=true then (n,NameKind.cell) else (n,k))::_)=some .free
  rw[List.lookup_cons]at h;by_cases hc:(k==NameKind.free&&env.scope.kind==.function&&env.kindOf n==some .cell)=true
  ·rw[if_pos hc];simp only[List.lookup_cons];cases hb:x==n with
   |true=>exact .inl rfl
   |false=>rw[hb]at h;exact ih h
  ·rw[if_neg hc];simp only[List.lookup_cons];cases hb:x==n with
   |true=>rw[hb]at h;exact .inr h
   |false=>rw[hb]at h;exact ih h
def Cx.comp(X:Cx)(N:List Str)(scope:Scope)(cl:List (Str×Addr))(C:Addr)(fp:List Addr)(s:Shared)(H:Hp):Cx :=
 { prog:=X.prog,w:=X.w,K:=X.K,mg:=X.mg,base:=X.base,A:=X.A,N:=N,s₀:=s,H₀:=H,env:=compEnvC scope cl C X.env,outer:=X.stack,stack:=X.stack,ex:=fp,fn:=fun _=>false,calm:=X.calm,pn:=[],xe:=fun _ _=>False }
def inner(js:List (Option Nat))(σ:St):St:=js.map fun o=>match o with
 |none=>none
 |some j=>(σ[j]?).getD none
def AM(N:List Str)(scope:Scope):List Str→List (Option Nat)→Bool
 |[],[]=>true
 |x::r,o::q=>(match o with | none=>true | some j=>N[j]?==some x&&scope.names.lookup x==some .free)&&AM N scope r q
 |_,_=>false
theorem CB{N:List Str}{scope:Scope}:∀{N':List Str}{js:List (Option Nat)},AM N scope N' js=true→js.length=N'.length
 |[],[],_=>rfl
 |_::r,_::q,h=>by
  have h':=(Bool.and_eq_true_iff.mp h).2;rw[Yq,Yq,CB h']
theorem FN{N:List Str}{scope:Scope}:∀{N':List Str}{js:List (Option Nat)}{i:Nat}{x:Str}{j:Nat},AM N scope N' js=true→N'[i]?=some x→js[i]?=some (some j)→N[j]?=some x∧scope.names.lookup x=some .free
 |[],[],_,_,_,_,h,_=>by simp at h
 |y::r,o::q,0,x,j,h,h1,h2=>by
  have h':=(Bool.and_eq_true_iff.mp h).1;simp at h1 h2;subst h1 h2;have h'':=Bool.and_eq_true_iff.mp h';exact⟨eq_of_beq h''.1,eq_of_beq h''.2⟩
 |y::r,o::q,i+1,x,j,h,h1,h2=>by
  have h':=(Bool.and_eq_true_iff.mp h).2;exact FN (i:=i) h' (by simpa using h1) (by simpa using h2)
theorem LF{js:List (Option Nat)}{σ:St}{i:Nat}{v:V}(h:(inner js σ)[i]?=some (some v)):∃j,js[i]?=some (some j)∧σ[j]?=some (some v):=by
 unfold inner at h;rw[Zk]at h;cases e:js[i]? with
 |none=>rw[e]at h;cases h
 |some o =>
  rw[e]at h;cases o with
  |none=>cases h
  |some j =>
   refine⟨j,rfl,?_⟩;have h':(σ[j]?).getD none=some v:=by simpa using h
   cases q:σ[j]? with
   |none=>rw[q]at h';cases h'
   |some z=>rw[q]at h';simp at h';rw[h']
structure Fills(σ σ':St):Prop where
 len:σ.length=σ'.length
 at_:∀(i:Nat) v,σ[i]?=some (some v)→σ'[i]?=some (some v)
theorem Fills.refl(σ:St):Fills σ σ:=⟨rfl,fun _ _ h=>h⟩
theorem Fills.set{σ σ':St}(f:Fills σ σ'){i:Nat}(x:V)(h:σ[i]?=some none):Fills σ (σ'.set i (some x)):=by
 refine⟨by rw[List.length_set];exact f.len,fun j v q=>?_⟩;by_cases e:i=j
 ·subst e;rw[h]at q;cases q
 ·rw[List.getElem?_set_ne e];exact f.at_ j v q
section
variable{X:Cx}{pins:List (Addr×Obj)}{σ:St}{H:Hp}{s:Shared}
theorem C4{N':List Str}{js:List (Option Nat)}{scope:Scope}{fp:List Addr}{m:Str→Option Value}{h1:Heap}{tk:Nat}(I:Inv X pins σ H s)
  (hk:scope.kind=.function) (hcell:∀y∈scope.names,y.2≠.cell) (hfree:∀y∈scope.names,y.2=.free→X.env.kindOf y.1=some .cell∨X.env.kindOf y.1=some .free) (hjs:AM X.N scope N' js=true)
  (fpok:∀b∈fp,rB X pins H b) (fpl:∀b∈fp,b<s.heap.objs.size) (hns:h1.Ns s.heap.objs.size m) (hsb:∀b o,s.heap.get? b=some o→h1.get? b=some o) :
  Inv (X.comp N' scope (fG X.env.cells scope.names []) s.heap.objs.size fp s H) [] (inner js σ) H { s with heap:=h1,toks:=tk }:=by
 have incl:∀{x c},(fG X.env.cells scope.names []).lookup x=some c→X.env.cells.lookup x=some c:=fun {x c} q=>by
  rcases uM _ _ q with z | z
  ·simp at z
  ·exact z
 have inn:∀{x:Str},(x,NameKind.free)∈scope.names→∃c,(fG X.env.cells scope.names []).lookup x=some c:=fun {x} q=>C8 _ _ _ (.inl ⟨q,I.ok.has x (hfree _ q rfl)⟩);have fnot:∀b∈fp,b∉frs X.stack:=fun b hb z=>(Zn.mp (I.stkSub b z)).elim (fpok b hb).2.1 (fpok b hb).2.2.1;refine⟨⟨I.ok.mod,?_,I.ok.glob,I.ok.blt,Nat.le_refl _,?_,?_,?_,I.ok.hd,I.ok.frames,.inl rfl,?_,I.bs,YQ I.ok.bsz I.sz,?_,fnot,I.stack,I.stkFree⟩,rfl,I.bare,Un.kept hsb,⟨m,hns,?_⟩,?_,I.fresh,?_,?_,I.hok.kept hsb,?_⟩
 ·exact hk
 ·intro x y c e1 e2;exact I.ok.inj x y c (incl e1) (incl e2)
 ·intro x h;have q:∃k,(x,k)∈scope.names∧k=.free:=by
   rcases h with h | h
   ·obtain⟨k,q1,q2⟩:=pH (env:=X.env) h;rcases q2 with rfl | ⟨q2,_⟩
    ·exact absurd rfl (hcell _ q1)
    ·exact⟨k,q1,q2⟩
   ·obtain⟨k,q1,q2⟩:=pH (env:=X.env) h;rcases q2 with rfl | ⟨_,q2⟩
    ·exact⟨_,q1,rfl⟩
    ·cases q2
  obtain⟨k,q1,rfl⟩:=q;exact inn q1
 ·intro x c h _;cases h
 ·intro b hb;exact⟨Nat.ne_of_lt (fpl b hb),fun x c e=>(fpok b hb).2.2.2.2.1 x c (incl e)⟩
 ·intro b o e hb;rcases(fpok b hb).2.2.2.1 with z | z
  ·exact I.ok.noex b o e z
  ·exact absurd (Xz (Heap.lt_size e) (YQ I.ok.bsz z)) (Nat.lt_irrefl _)
 ·intro i x v e1 e2 _;obtain⟨j,q1,q2⟩:=LF e2;obtain⟨q3,q4⟩:=FN hjs e1 q1;have q5:(x,NameKind.free)∈scope.names:=by
   have:∀{l:List (Str×NameKind)},l.lookup x=some .free→(x,NameKind.free)∈l:=by
    intro l;induction l with
    |nil=>intro z;simp at z
    |cons y r ih =>
     intro z;obtain⟨n,k⟩:=y;rw[List.lookup_cons]at z;cases hb:x==n with
     |true=>rw[hb]at z;have e:=eq_of_beq hb;subst e;cases z;exact Zd
     |false=>rw[hb]at z;exact Zw _ (ih z)
   exact this q4
  have kf:=hfree _ q5 rfl;obtain⟨m0,hn0,hl0⟩:=id I.loc;obtain⟨u,r,lk⟩:=hl0 j x v q3 q2 (kf.elim (fun z=>.inr (.inl z)) fun z=>.inr (.inr z));refine⟨u,r,?_⟩;rcases lk with⟨z,_⟩ | ⟨_,c,hc,o,ho,hd⟩
  ·rcases kf with k | k
   ·rw[k]at z;cases z
   ·rw[k]at z;cases z
  ·obtain⟨c',hc'⟩:=inn q5;have e:=incl hc';rw[hc]at e;cases e;exact .inr ⟨p6 q4,c,hc',o,hsb _ _ ho,hd⟩
 ·intro x c e;obtain⟨v,o,ho,hd⟩:=I.cell x c (incl e);exact⟨v,o,hsb _ _ ho,hd⟩
 ·intro x c e;exact I.freeC x c (incl e)
 ·intro p hp;cases hp
 ·show(inner js σ).length=N'.length;unfold inner;rw[Zq];exact CB hjs
def PF(X:Cx)(ifs:List Expr)(t:TT):Prop :=
 ∀(pins:List (Addr×Obj)) (s:Shared) (σ:St) (H:Hp) (Q:Bool→Hp→Prop),Inv X pins σ H s→t σ H Q →
  wpAny (model X.prog X.w) X.A (forIn ifs true fun c r=>if r=true then do let ok ←isTrue c X.env (eval c X.env);pure (ForInStep.yield ok) else pure (ForInStep.yield r)) (TP X pins σ Q) X.xe s
def sU:TT:=fun _ H Q=>Q true H
theorem fX:PF X [] sU:=fun _ _ _ H _ I h=>wpAny_tests_nil ⟨H,I,h⟩
theorem rW{c:Expr}{t:TT}(h:PT X c t):PF X [c] t:=fun pins s σ H Q I hw=>wpAny_tests_one (h pins s σ H Q I hw)
end
section
variable{prog:Program}{w:World}{A:Around}{E:Value→Shared→Prop}{R:Result→Shared→Prop}{s:Shared}
theorem C7{elt target iter:Expr}{ifs:List Expr}{scope:Scope}{pos:Pos}{it acc:Value}{env:Env}(I:Nat→Shared→Prop)
  (turn:∀n s,I n s→wpAny (model prog w) A (pyNext it) (fun r s₁=>match r with
   |none=>R (.ok .next) s₁
   |some v=>wpAny (model prog w) A (letOwnedTupleGo target it v) (fun _ s₀=>wpAny (model prog w) A (assign target env v) (fun _ s₂ =>
     wpAny (model prog w) A (forIn ifs true fun c r=>if r=true then do let ok ←isTrue c env (eval c env);pure (ForInStep.yield ok) else pure (ForInStep.yield r)) (fun ok s₃ =>
      if ok=true then wpAny (model prog w) A (eval elt env) (fun x s₄ =>
       wpAny (model prog w) A (call (.builtin "list.append") [acc,x]) (fun _ s₅=>∃m,m<n∧I m s₅) (fun _ _=>False) s₄) (fun _ _=>False) s₃
      else ∃m,m<n∧I m s₃) (fun _ _=>False) s₂) (fun _ _=>False) s₀) (fun _ _=>False) s₁) (fun _ _=>False) s)
  (n:Nat) (h:I n s) :
  codeAny (model prog w) A (.compLoop (.ListComp elt [⟨target,iter,ifs,0⟩] scope pos) 0 it acc env) R s:=by
 refine codeAny_loop rfl I (fun n s hI=>?_) n h;show wpAny _ A ((compTurn (.ListComp elt [⟨target,iter,ifs,0⟩] scope pos) 0 it acc env).onRaise (fun x=>do noteFrame x env;theTreesLotGoes x)) _ _ s;refine wpAny_noted ?_;rw[compTurn_list];refine ZZ (wpAny_standAt (ZZ (ZX (turn n s hI) (fun r s₁ h₁=>?_) fun _ _ h'=>h'.elim)));cases r with
 |none=>exact ZY h₁
 |some v =>
  refine ZZ (ZX h₁ (fun _ s₀ h₀=>?_) fun _ _ h'=>h'.elim);refine ZZ (ZX h₀ (fun _ s₂ h₂=>ZZ (ZX h₂ (fun ok s₃ h₃=>?_) fun _ _ h'=>h'.elim)) fun _ _ h'=>h'.elim);cases ok with
  |false=>exact ZY ⟨rfl,h₃⟩
  |true =>
   exact ZZ (ZZ (ZX h₃ (fun x s₄ h₄=>ZZ (ZX h₄ (fun _ s₅ h₅=>ZY (ZY ⟨rfl,h₅⟩)) fun _ _ h'=>h'.elim)) fun _ _ h'=>h'.elim))
end
section
variable{X:Cx}
def IU(js:List (Option Nat))(wi:TI)(g:TG)(tc:TT)(te:TE):TE:=fun σ H Q=>wi σ H fun J H1=>∀D,H1 D=none→∃W:Nat→Nat→List V→Hp→Prop,(∃m,W 0 m [] (upd H1 D (.lst []))) ∧
 ∀i m ys H,W i m ys H→(J.stop i H∧Q (.ref D) H)∨(J.go i H∧∃N:List V→Hp→Prop,(∀ys' H',N ys' H'→∃m',m' < m∧W (i+1) m' ys' H')∧∀x H',J.yld i H x H'→g x (inner js σ) H' fun σ2 H2=>Fills (inner js σ) σ2∧tc σ2 H2 fun b H3 =>
  if b=true then te σ2 H3 fun y H4=>H4 D=some (.lst ys)∧ys.length<ZW∧N (ys++[y]) (upd H4 D (.lst (ys++[y]))) else N ys H3)
theorem w8{N':List Str}{js:List (Option Nat)}{scope:Scope}{target iter elt:Expr}{ifs:List Expr}{pos:Pos}{g:TG}{tc:TT}{te:TE}{pins:List (Addr×Obj)}{σ:St}{H:Hp}{s:Shared}{Q:VK}{E:Value→Shared→Prop}
  {RR:Value→Addr→Result→Shared→Prop}{it:Addr}{fp:List Addr}{tn:Nat→Heap→Prop}{J:It}(I:Inv X pins σ H s) (T:Turn X.prog X.w X.K target J fp it tn) (st:tn 0 s.heap) (f:∀b∈fp,rB X pins H b) (hc:X.calm=true)
  (q:∀D,H D=none→∃W:Nat→Nat→List V→Hp→Prop,(∃m,W 0 m [] (upd H D (.lst []))) ∧
   ∀i m ys H,W i m ys H→(J.stop i H∧Q (.ref D) H)∨(J.go i H∧∃N:List V→Hp→Prop,(∀ys' H',N ys' H'→∃m',m' < m∧W (i+1) m' ys' H')∧∀x H',J.yld i H x H'→g x (inner js σ) H' fun σ2 H2=>Fills (inner js σ) σ2∧tc σ2 H2 fun b H3 =>
  if b=true then te σ2 H3 fun y H4=>H4 D=some (.lst ys)∧ys.length<ZW∧N (ys++[y]) (upd H4 D (.lst (ys++[y]))) else N ys H3))
  (hg:∀cl C fp s H,PG (X.comp N' scope cl C fp s H) target g) (hf:∀cl C fp s H,PF (X.comp N' scope cl C fp s H) ifs tc) (he:∀cl C fp s H,PE (X.comp N' scope cl C fp s H) elt te)
  (hk:scope.kind=.function) (hcell:∀y∈scope.names,y.2≠.cell) (hfree:∀y∈scope.names,y.2=.free→X.env.kindOf y.1=some .cell∨X.env.kindOf y.1=some .free) (hjs:AM X.N scope N' js=true)
  (hRR:∀D C H' s',Inv X pins σ H' s'→Q (.ref D) H'→(∃m,s'.heap.Ns C m)→H' C=none→C≠X.env.locals→X.s₀.heap.objs.size≤C→C∉X.fs→(∀x c,X.env.cells.lookup x=some c→c≠C)→(∀p∈X.pn++pins,p.1≠C) →
   RR (.ref D) C (.ok .next) s') :
  wpAny (model X.prog X.w) X.A (newList []) (fun acc s₃=>wpAny (model X.prog X.w) X.A (newFunctionEnv scope X.env.globals (fG X.env.cells scope.names []) [] X.env.qual none .none (some X.env)) (fun cenv s₄ =>
   codeAny (model X.prog X.w) X.A (.compStart (.ListComp elt [⟨target,iter,ifs,0⟩] scope pos) 0 (.ref it) acc { cenv with scope:=relabel scope X.env }) (RR acc cenv.locals) s₄) E s₃) E s:=by
 refine wpAny_newObj_type (wpAny_newFunctionEnv hcell (by intro y hy;simp at hy) (fun h₁ hns₁ hsb₁=>?_) hk);dsimp only at hns₁ hsb₁ ⊢;have I3:Inv X pins σ (upd H s.heap.objs.size (.lst [])) { s with heap:=s.heap.push { cls:=.type "list",dict:=none,data:=.seq ([]:List Value).toArray } }:=I.lnew (its:=[]) (ys:=[]) (t':=s.toks) .nil (Nat.zero_le _);obtain⟨W,⟨m0,w0⟩,turn⟩:=q s.heap.objs.size I.fresh;generalize hD:s.heap.objs.size=D at I3 turn w0 ⊢;have hsz:(s.heap.push { cls:=.type "list",dict:=none,data:=.seq ([]:List Value).toArray }).objs.size=D+1:=by rw[Heap.size_push,hD]
 have fpl:∀b∈fp,b<D:=fun b hb=>by
  obtain⟨o,e,_⟩:=T.obj _ _ st b hb;rw[←hD];exact Heap.lt_size e
 generalize hs3:({ s with heap:=s.heap.push { cls:=.type "list",dict:=none,data:=.seq ([]:List Value).toArray } }:Shared)=s3 at I3;have eh:s.heap.push { cls:=.type "list",dict:=none,data:=.seq ([]:List Value).toArray }=s3.heap:=by rw[←hs3]
 rw[eh]at hns₁ hsb₁ hsz ⊢;have f3:∀b∈fp,rB X pins (upd H D (.lst [])) b:=fun b hb=>⟨by rw[aP (Nat.ne_of_lt (fpl b hb))];exact(f b hb).1,(f b hb).2⟩
 have keep1:∀b o,s3.heap.get? b=some o→h₁.get? b=some o:=fun b o e=>hsb₁.extBut b o (Nat.ne_of_lt (Heap.lt_size e)) (Heap.get?_push_of_some _ e);have I4:=C4 (N':=N') (js:=js) (tk:=s.toks+([]:List (Str×Value)).length) I3 hk hcell hfree hjs f3 (fun b hb=>by rw[hsz];exact Xj (fpl b hb)) hns₁ keep1;have es:({ s with heap:=h₁,toks:=s.toks+([]:List (Str×Value)).length }:Shared)={ s3 with heap:=h₁,toks:=s.toks+([]:List (Str×Value)).length }:=by rw[←hs3]
 rw[show({ s with heap:=h₁,toks:=s.toks+([]:List (Str×Value)).length }:Shared)={ s3 with heap:=h₁,toks:=s.toks+([]:List (Str×Value)).length } from es];have st4:tn 0 h₁:=T.keep _ _ _ st fun b hb o e=>keep1 b o (eh▸Heap.get?_push_of_some _ e);have hCne:s3.heap.objs.size≠X.env.locals:=Nat.ne_of_gt I3.lt;have loop:∀s4:Shared,tn 0 s4.heap→Inv (X.comp N' scope (fG X.env.cells scope.names []) s3.heap.objs.size fp s3 (upd H D (.lst []))) [] (inner js σ) (upd H D (.lst [])) s4 →
   codeAny (model X.prog X.w) X.A (.compLoop (.ListComp elt [⟨target,iter,ifs,0⟩] scope pos) 0 (.ref it) (.ref D) (compEnvC scope (fG X.env.cells scope.names []) s3.heap.objs.size X.env)) (RR (.ref D) s3.heap.objs.size) s4:=by
  intro s4 st4 I4;generalize hX:X.comp N' scope (fG X.env.cells scope.names []) s3.heap.objs.size fp s3 (upd H D (.lst []))=X' at I4;have xprog:X'.prog=X.prog:=by rw[←hX];rfl
  have stat:∀{H':Hp},(∀b∈fp,H' b=none)→∀b∈fp,rB X' [] H' b:=fun hn b hb=>by
   rw[←hX];refine⟨hn b hb,?_,?_,.inl hb,?_,fun p hp=>nomatch hp⟩
   ·exact Nat.ne_of_lt (by show b<s3.heap.objs.size;rw[hsz];exact Xj (fpl b hb))
   ·exact fun z=>(Zn.mp (I3.stkSub b z)).elim (f3 b hb).2.1 (f3 b hb).2.2.1
   ·intro x c e;rcases uM _ _ e with z | z
    ·simp at z
    ·exact(f3 b hb).2.2.2.2.1 x c z
  have hg':=hg (fG X.env.cells scope.names []) s3.heap.objs.size fp s3 (upd H D (.lst []));have hf':=hf (fG X.env.cells scope.names []) s3.heap.objs.size fp s3 (upd H D (.lst []));have he':=he (fG X.env.cells scope.names []) s3.heap.objs.size fp s3 (upd H D (.lst []));rw[hX]at hg' hf' he';have xA:X'.A=X.A:=by rw[←hX];rfl
  have xw:X'.w=X.w:=by rw[←hX];rfl
  have xK:X'.K=X.K:=by rw[←hX];rfl
  have xc:X'.calm=true:=by rw[←hX];exact hc
  have xe:X'.env=compEnvC scope (fG X.env.cells scope.names []) s3.heap.objs.size X.env:=by rw[←hX];rfl
  have xx:X'.xe=fun _ _=>False:=by rw[←hX];rfl
  have T':Turn X'.prog X'.w X'.K target J fp it tn:=by rw[xprog,xw,xK];exact T
  rw[←xA,←xw,←xprog,←xe];refine C7 (fun n s'=>∃i ys H',Inv X' [] (inner js σ) H' s'∧tn i s'.heap∧(∀b∈fp,H' b=none)∧W i n ys H') ?_ m0 ⟨0,[],_,I4,st4,fun b hb=>(f3 b hb).1,w0⟩;rintro n s5 ⟨i,ys,H5,I5,st5,fr5,w5⟩;rcases turn i n ys H5 w5 with⟨stop,q⟩ | ⟨go,N,hN,step⟩
  ·refine thn (T'.done X' rfl rfl rfl xc i [] s5 _ H5 _ I5 (stat fr5) st5 stop) fun r s6 ⟨hr,I6⟩=>?_;subst hr;subst hX;have I7:Inv X pins σ H5 s6:=I3.call' (s':=s6) I6.os I6.base I6.hok I6.bare fun b hb=>⟨(f3 b hb).2.2.2.1,(f3 b hb).2.1,(f3 b hb).2.2.2.2.1,(f3 b hb).2.2.2.2.2⟩
   obtain⟨m6,hn6,_⟩:=I6.loc;refine hRR D s3.heap.objs.size H5 s6 I7 q ⟨m6,hn6⟩ I6.free hCne I3.sz (I3.nofs (Nat.le_refl _)) (fun x c e z=>?_) (fun p hp z=>?_)
   ·obtain⟨v,y⟩:=I3.cell x c e;exact absurd (Xz y.lt (by rw[z];exact Nat.le_refl _)) (Nat.lt_irrefl _)
   ·exact absurd (Xz (Heap.lt_size (I3.pin p hp).1) (by rw[z];exact Nat.le_refl _)) (Nat.lt_irrefl _)
  ·refine thn (T'.item X' rfl rfl rfl xc i [] s5 _ H5 _ I5 (stat fr5) st5 go) fun r s6 ⟨u,hr,h6⟩=>?_;subst hr;refine thn h6 fun _ s7 ⟨x,H7,I7,r7,y7,st7,fr7⟩=>?_;have I7':=I7.pinned (stat fr7) (T.obj _ _ st7);refine ZX (hg' _ s7 _ H7 x u _ I7' r7 (step x H7 y7)) (fun _ s8 ⟨σ8,H8,I8,fill8,q8⟩=>?_) (fun _ _ z=>by rw[xx]at z;exact z);refine ZX (hf' _ s8 σ8 H8 _ I8 q8) (fun b s9 ⟨H9,I9,q9⟩=>?_) (fun _ _ z=>by rw[xx]at z;exact z);have again:∀{H':Hp}{s':Shared}{ys':List V},Inv X' ([]++rT fp s7.heap) σ8 H' s'→N ys' H'→∃m,m<n∧∃i ys H',Inv X' [] (inner js σ) H' s'∧tn i s'.heap∧(∀b∈fp,H' b=none)∧W i m ys H':=fun {H' s' ys'} I' n'=>by
    obtain⟨m',hm,w'⟩:=hN ys' H' n';refine⟨m',hm,i+1,ys',H',I'.unpinned.weak fill8.len fill8.at_,T.keep _ _ _ st7 fun b hb o e=>(I'.pin (b,o) (List.mem_append_right _ (List.mem_append_right _ (gD hb e)))).1,fun b hb=>?_,w'⟩;obtain⟨o,e,d⟩:=T.obj _ _ st7 b hb;exact(I'.pin (b,o) (List.mem_append_right _ (List.mem_append_right _ (gD hb e)))).2.1
   cases b with
   |false=>exact again I9 q9
   |true =>
    refine ZX (he' _ s9 σ8 H9 _ I9 q9) (fun yv s10 ⟨y,H10,I10,ry,hD10,hz,q10⟩=>?_) (fun _ _ z=>by rw[xx]at z;exact z);refine ZX (bR (X:=X') _ s10 σ8 H10 (.ref D) [y] (.ref D) [yv] (fun _ H'=>H'=upd H10 D (.lst (ys++[y]))) I10 rfl (.cons ry .nil) ⟨D,ys,y,rfl,rfl,hD10,hz,rfl⟩) (fun _ s11 ⟨_,H11,I11,_,e11⟩=>?_) (fun _ _ z=>by rw[xx]at z;exact z);subst e11;exact again I11 q10
 have l4:=loop { s3 with heap:=h₁,toks:=s.toks+([]:List (Str×Value)).length } st4 I4;exact codeAny_compStart_list l4 (T.self _ 0 _ _ _ st4 l4)
theorem eN{N':List Str}{js:List (Option Nat)}{scope:Scope}{target iter elt:Expr}{ifs:List Expr}{pos:Pos}{wi:TI}{g:TG}{tc:TT}{te:TE}(hc:X.calm=true)(hi:PI X target iter wi)
  (hg:∀cl C fp s H,PG (X.comp N' scope cl C fp s H) target g) (hf:∀cl C fp s H,PF (X.comp N' scope cl C fp s H) ifs tc) (he:∀cl C fp s H,PE (X.comp N' scope cl C fp s H) elt te)
  (hk:scope.kind=.function:=by rfl) (hcell:(scope.names.all fun y=>y.2 != .cell)=true:=by rfl) (hfree:(scope.names.all fun y=>y.2 != .free||(X.env.kindOf y.1==some .cell||X.env.kindOf y.1==some .free))=true:=by rfl)
  (hnames:(scope.names.all fun y=>y.2 != .local||scope.names.lookup y.1==some .local)=true:=by rfl) (hjs:AM X.N scope N' js=true:=by rfl) (hs:∀x,foldedSetIterable iter X.env x=pure x:=by intro _;rfl) :
  PE X (.ListComp elt [⟨target,iter,ifs,0⟩] scope pos) (IU js wi g tc te):=by
 have hcell':∀y∈scope.names,y.2≠.cell:=fun y hy z=>by have:=List.all_eq_true.mp hcell y hy;simp[z]at this
 have hfree':∀y∈scope.names,y.2=.free→X.env.kindOf y.1=some .cell∨X.env.kindOf y.1=some .free:=fun y hy z=>by have:=List.all_eq_true.mp hfree y hy;simpa[z] using this
 have hnames':∀y∈scope.names,y.2=.local→scope.names.lookup y.1=some .local:=fun y hy z=>by have:=List.all_eq_true.mp hnames y hy;simpa[z] using this
 intro pins s σ H Q I h;rw[eval_ListComp];refine wpAny_comprehension_free (use:=none) rfl hs (jI fun x hx z=>I.ok.has x.1 (hfree' x hx z)) hk hnames' ?_;refine thn (hi pins s σ H _ I h) fun v s1 h1=>thn h1 fun itv s2 h2=>?_;obtain⟨it,fp,tn,J,H2,e,I2,T,st2,f2,q2⟩:=h2;subst e;refine w8 (RR:=fun acc C=>compPost (model X.prog X.w) X.A X.xe none (EP X pins σ Q) acc C) I2 T st2 f2 hc q2 hg hf he hk hcell' hfree' hjs ?_;intro D C H' s' I' q ⟨m,hn⟩ c0 c1 c2 c3 c4 c5;exact⟨m,hn,fun h' hs'=>⟨.ref D,H',I'.turned (t':=s'.toks) (fun b o hb e=>(hs'.2 b hb).trans e) c0 c1 (.inr c2) c4 c5,rfl,q⟩⟩
theorem vH{N':List Str}{js:List (Option Nat)}{scope:Scope}{target iter elt:Expr}{ifs:List Expr}{pos pos' spos:Pos}{x:Str}{i:Nat}{wi:TI}{g:TG}{tc:TT}{te:TE}(hN:X.N.Nodup)(hi':X.N[i]?=some x)(hx:Loc X.env.scope x)(hc:X.calm=true)(hi:PI X target iter wi)
  (hg:∀cl C fp s H,PG (X.comp N' scope cl C fp s H) target g) (hf:∀cl C fp s H,PF (X.comp N' scope cl C fp s H) ifs tc) (he:∀cl C fp s H,PE (X.comp N' scope cl C fp s H) elt te)
  (hsw:swapsWith (.ListComp elt [⟨target,iter,ifs,0⟩] scope pos) (some (.Name x pos')) spos.line X.env=pure true:=by rfl)
  (hk:scope.kind=.function:=by rfl) (hcell:(scope.names.all fun y=>y.2 != .cell)=true:=by rfl) (hfree:(scope.names.all fun y=>y.2 != .free||(X.env.kindOf y.1==some .cell||X.env.kindOf y.1==some .free))=true:=by rfl)
  (hnames:(scope.names.all fun y=>y.2 != .local||scope.names.lookup y.1==some .local)=true:=by rfl) (hjs:AM X.N scope N' js=true:=by rfl) (hs:∀x,foldedSetIterable iter X.env x=pure x:=by intro _;rfl)
  (hfn:X.fn x=true∨X.env.scope.names.lookup x=some .local:=by first | exact .inl rfl | exact .inr rfl | assumption) :
  PS X (.Assign [.Name x pos'] (.ListComp elt [⟨target,iter,ifs,0⟩] scope pos) spos) (GM (IU js wi g tc te) (bT i)):=by
 have hcell':∀y∈scope.names,y.2≠.cell:=fun y hy z=>by have:=List.all_eq_true.mp hcell y hy;simp[z]at this
 have hfree':∀y∈scope.names,y.2=.free→X.env.kindOf y.1=some .cell∨X.env.kindOf y.1=some .free:=fun y hy z=>by have:=List.all_eq_true.mp hfree y hy;simpa[z] using this
 have hnames':∀y∈scope.names,y.2=.local→scope.names.lookup y.1=some .local:=fun y hy z=>by have:=List.all_eq_true.mp hnames y hy;simpa[z] using this
 intro pins s σ H D I h;rw[exec_Assign_Name_used _ _ _ _ hsw];refine ZZ (wpAny_standAt (ZZ ?_));show wpAny _ X.A (do let _ ←comprehension (.ListComp elt [⟨target,iter,ifs,0⟩] scope pos) scope X.env _ (newList []) false (eval iter X.env) (some (assign (.Name x pos') X.env))) _ _ s;refine ZZ (ZX (wpAny_comprehension_free (use:=some (assign (.Name x pos') X.env)) (Q:=fun _ s'=>SP X pins D .next s') rfl hs (jI fun x hx z=>I.ok.has x.1 (hfree' x hx z)) hk hnames' ?_) (fun _ s' hq=>ZY (ZY hq)) fun _ _ e=>e);refine thn (hi pins s σ H _ I h) fun v s1 h1=>thn h1 fun itv s2 h2=>?_;obtain⟨it,fp,tn,J,H2,e,I2,T,st2,f2,q2⟩:=h2;subst e;refine w8 (Q:=fun x H1=>bT i x σ H1 D.nx) (RR:=fun acc C=>compPost (model X.prog X.w) X.A X.xe (some (assign (.Name x pos') X.env)) (fun _ s'=>SP X pins D .next s') acc C) I2 T st2 f2 hc q2 hg hf he hk hcell' hfree' hjs ?_;intro D' C H' s' I' q ⟨m,hn⟩ c0 c1 c2 c3 c4 c5;obtain⟨oC,es,ep,hoC,hdC,rC⟩:=id hn;have I'':Inv X (pins++[(C,oC)]) σ H' s':=I'.pins_of fun p hp=>(Zf.mp hp).elim (fun z=>I'.pin p (List.mem_append_right _ z)) fun z=>by
  have e:=Zb.mp z;subst e;exact⟨hoC,c0,c1,c3,fun v z=>by rw[hdC]at z;cases z⟩
 show wpAny _ X.A (assign (.Name x pos') X.env (.ref D')) _ _ _;refine wpAny_assign_Name (jO I'' hN hi' hx (v:=.ref D') rfl (fun s3 I3=>?_) hfn);have hC3:=I3.pin (C,oC) (List.mem_append_right _ (List.mem_append_right _ (Zb.mpr rfl)));refine⟨m,⟨oC,es,ep,hC3.1,hdC,rC⟩,fun h' hs'=>?_⟩;exact⟨_,H',I3.unpinned.turned (t':=s3.toks) (fun b o hb e=>(hs'.2 b hb).trans e) c0 c1 (.inr c2) c4 c5,q⟩
end
theorem uK{J:It}{js:List (Option Nat)}{σ:St}{H1:Hp}{R:Hp→Prop}{D:Addr}{g:TG}{tc:TT}{te:TE}(n:Nat)(Pv:Nat→List V→Hp→Prop)(h0:Pv 0 [] (upd H1 D (.lst [])))
  (hs:∀i ys H,i<n→Pv i ys H→J.go i H∧∀x H',J.yld i H x H'→g x (inner js σ) H' fun σ2 H2=>Fills (inner js σ) σ2∧tc σ2 H2 fun b H3 =>
   if b=true then te σ2 H3 fun y H4=>H4 D=some (.lst ys)∧ys.length<ZW∧Pv (i+1) (ys++[y]) (upd H4 D (.lst (ys++[y]))) else Pv (i+1) ys H3)
  (hd:∀ys H,Pv n ys H→J.stop n H∧R H) :
  ∃W:Nat→Nat→List V→Hp→Prop,(∃m,W 0 m [] (upd H1 D (.lst []))) ∧
   ∀i m ys H,W i m ys H→(J.stop i H∧R H)∨(J.go i H∧∃N:List V→Hp→Prop,(∀ys' H',N ys' H'→∃m',m' < m∧W (i+1) m' ys' H')∧∀x H',J.yld i H x H'→g x (inner js σ) H' fun σ2 H2=>Fills (inner js σ) σ2∧tc σ2 H2 fun b H3 =>
    if b=true then te σ2 H3 fun y H4=>H4 D=some (.lst ys)∧ys.length<ZW∧N (ys++[y]) (upd H4 D (.lst (ys++[y]))) else N ys H3):=by
 refine⟨fun i m ys H=>m=n-i∧i≤n∧Pv i ys H,⟨n,by simp,Nat.zero_le _,h0⟩,?_⟩;rintro i m ys H ⟨rfl,hi,p⟩;by_cases hlt:i<n
 ·obtain⟨go,step⟩:=hs i ys H hlt p;exact .inr ⟨go,Pv (i+1),fun ys' H' p'=>⟨n-(i+1),by omega,rfl,hlt,p'⟩,step⟩
 ·have e:i=n:=by lia
  subst e;exact .inl (hd ys H p)
theorem comp_map{J:It}{js:List (Option Nat)}{σ:St}{H1:Hp}{R:Hp→Prop}{D:Addr}{g:TG}{te:TE}(n:Nat)(Pv:Nat→List V→Hp→Prop)(h0:Pv 0 [] (upd H1 D (.lst [])))
  (hs:∀i ys H,i<n→Pv i ys H→J.go i H∧∀x H',J.yld i H x H'→g x (inner js σ) H' fun σ2 H2=>Fills (inner js σ) σ2∧te σ2 H2 fun y H4=>H4 D=some (.lst ys)∧ys.length<ZW∧Pv (i+1) (ys++[y]) (upd H4 D (.lst (ys++[y]))))
  (hd:∀ys H,Pv n ys H→J.stop n H∧R H) :
  ∃W:Nat→Nat→List V→Hp→Prop,(∃m,W 0 m [] (upd H1 D (.lst []))) ∧
   ∀i m ys H,W i m ys H→(J.stop i H∧R H)∨(J.go i H∧∃N:List V→Hp→Prop,(∀ys' H',N ys' H'→∃m',m' < m∧W (i+1) m' ys' H')∧∀x H',J.yld i H x H'→g x (inner js σ) H' fun σ2 H2=>Fills (inner js σ) σ2∧sU σ2 H2 fun b H3 =>
    if b=true then te σ2 H3 fun y H4=>H4 D=some (.lst ys)∧ys.length<ZW∧N (ys++[y]) (upd H4 D (.lst (ys++[y]))) else N ys H3):=by
 refine uK n Pv h0 ?_ hd;simp only[sU,if_true];exact hs
end L2
set_option Elab.async false
set_option linter.all false
set_option maxRecDepth 100000
set_option maxHeartbeats 4000000
namespace L2
open PySem PySem.Spec PyProof.Rows
section
variable{X:Cx}{tg:Expr}
end
section
variable{X:Cx}{pins:List (Addr×Obj)}{σ:St}{H:Hp}{s:Shared}{h':Heap}
theorem Inv.turnedNew{t':Nat}{ch:List Addr}{T:Addr}{o:HO}(I:Inv X pins σ H s)(k:∀b u,b∉ch→s.heap.get? b=some u→h'.get? b=some u)(there:∀b u,s.heap.get? b=some u→∃u',h'.get? b=some u')(hT:s.heap.objs.size≤T)
  (hf:∀b∈ch,rB X pins H b) (new:dM X.prog X.w (upd H T o) h' T o):Inv X pins σ (upd H T o) { s with heap:=h',toks:=t' }:=by
 have hn:=I.hok.fresh hT;have nit:∀b u,H b=some u→b∉ch:=fun b u e z=>by rw[(hf b z).1]at e;cases e
 refine I.step (g':=s.gens) (d':=s.drawn) (ch:=ch) (fun b hb=>?_) (fun b o _ _ hc e _=>k b o hc e) (fun b o _ _ hc e _=>⟨o.slots,k b o hc e⟩) (fun b u hc e n=>?_) (fun b u hc e=>there b u e)
  (fun b xs e=>?_) (fun b ob u e=>?_) (fun b ps e=>⟨#[],?_⟩) (fun m hm=>?_) (fun b u e=>?_) I.bare
 ·exact⟨(hf b hb).2.2.2.1,(hf b hb).2.1,(hf b hb).2.2.2.2.1,(hf b hb).2.2.2.2.2⟩
 ·rw[aP (Nat.ne_of_lt (Xz (Heap.lt_size e) hT))];exact n
 ·rw[aP (cM e hn)];exact e
 ·rw[aP (cM e hn)];exact e
 ·rw[aP (cM e hn),e];simp
 ·obtain⟨ob,es,ep,ho,r⟩:=hm;exact⟨ob,es,ep,k _ ob (fun z=>(hf _ z).2.1 rfl) ho,r⟩
 ·by_cases hb:b=T
  ·subst hb;rw[aB]at e;cases e;exact new
  ·rw[aP hb]at e;refine(I.hok b u e).stay (fun c v hc q=>k c v ?_ q) (fun c q=>by rw[aP (cM q hn)];exact q) fun c xs q=>by rw[aP (cM q hn)];exact q
   rcases hc with z | z
   ·rw[z];exact nit b u e
   ·exact nit c _ z
end
def Ite(K:PySem.W.Frag)(a:Addr):It :=
 ⟨fun i H=>∃xs x,SqL K H a xs∧xs[i]?=some x,fun i H v H'=>∃T x,v=.ref T∧H T=none∧H'=upd H T (.tup [.int i,x])∧∀xs,SqL K H a xs→xs[i]?=some x,fun i H=>∃xs,SqL K H a xs∧xs.length≤i⟩
theorem GK{P:Program}{w:World}{K:PySem.W.Frag}{elts:List Expr}{k:Nat}{pos:Pos}(a e it:Addr)(hei:e≠it):Turn P w K (.Tuple elts k pos) (Ite K a) [e,it] e (fun i h=>(∃old,IsEnum h e it i old)∧h.IsListIter it a i) where
 mem:=by simp
 obj:=fun i h st b hb=>by
  obtain⟨⟨old,he⟩,o,ho,hc,hd⟩:=st;rcases Zn.mp hb with rfl | hb
  ·exact⟨_,he,fun v z=>by
    have z':Data.fields _=Data.cell v:=z;cases z'⟩
  ·have e':=Zb.mp hb;subst e';exact⟨o,ho,fun v z=>by rw[hd]at z;cases z⟩
 keep:=fun i h h' st k=>by
  obtain⟨⟨old,he⟩,hit⟩:=st;exact⟨⟨old,k e (by simp) _ he⟩,hit.at fun o x=>k it (by simp) o x⟩
 item:=by
  intro X hP hw hK hc i pins s σ H E I hf st hg;subst hP hw hK;obtain⟨⟨old,he⟩,hit⟩:=st;obtain⟨xs,x,hq,hx⟩:=hg;obtain⟨its,rv,pl,hz⟩:=I.list hq;obtain⟨u,hu,ru⟩:=rv.get hx;have hux:its.toArray[i]?=some u:=by simpa using hu
  refine wpAny_pyNext_enum_item he hit pl.isList hux hei fun h' ho hit' hT hsz hk=>?_;refine⟨_,rfl,?_⟩;have kk:∀b v,b∉[e,it]→s.heap.get? b=some v→h'.get? b=some v:=fun b v hb q=>hk b v (fun z=>hb (by simp[z])) (fun z=>hb (by simp[z])) q;have th:∀b v,s.heap.get? b=some v→∃v',h'.get? b=some v':=fun b v q=>by
   by_cases h1:b=e
   ·subst h1;exact⟨_,ho⟩
   ·by_cases h2:b=it
    ·subst h2;obtain⟨o,q1,_⟩:=hit';exact⟨_,q1⟩
    ·exact⟨v,hk b v h1 h2 q⟩
  have I1:Inv X pins σ (upd H s.heap.objs.size (.tup [.int i,x])) { s with heap:=h',toks:=s.toks+1 } :=
   I.turnedNew (ch:=[e,it]) kk th (Nat.le_refl _) hf ⟨by show 2≤ZW;decide,[.int i s.toks,u],.cons ⟨_,rfl⟩ (.cons ru .nil),⟨_,hT,rfl,_,rfl⟩⟩
  refine wpAny_letOwnedTupleGo_enum ho fun h2 he2 hs2=>?_;have fe:=hf e (by simp);have fi:=hf it (by simp);have hTe:e≠s.heap.objs.size:=Nat.ne_of_lt (Heap.lt_size he);have hTi:it≠s.heap.objs.size:=by obtain⟨o,q1,_⟩:=hit;exact Nat.ne_of_lt (Heap.lt_size q1)
  have I2:Inv X pins σ (upd H s.heap.objs.size (.tup [.int i,x])) { s with heap:=h2,toks:=s.toks+1 } :=
   Inv.turned (s:={ s with heap:=h',toks:=s.toks+1 }) (h':=h2) (t':=s.toks+1) (it:=e) I1 (fun b o hb q=>(hs2.2 b hb).trans q) (by rw[aP hTe];exact fe.1) fe.2.1 fe.2.2.2.1 fe.2.2.2.2.1 fe.2.2.2.2.2
  refine⟨.ref s.heap.objs.size,_,I2,rfl,⟨s.heap.objs.size,x,rfl,I.fresh,rfl,fun ys hys=>by rw[I.list_inj hys hq];exact hx⟩,⟨⟨_,by simpa using he2⟩,hit'.at fun o q=>(hs2.2 it hei.symm).trans q⟩,fun b hb=>?_⟩;rcases Zn.mp hb with rfl | hb
  ·rw[aP hTe];exact fe.1
  ·have e':=Zb.mp hb;subst e';rw[aP hTi];exact fi.1
 done:=by
  intro X hP hw hK hc i pins s σ H E I hf st hg;subst hP hw hK;obtain⟨⟨old,he⟩,hit⟩:=st;obtain⟨xs,hq,hl⟩:=hg;obtain⟨its,rv,pl,hz⟩:=I.list hq;have hlen:=rv.length;obtain⟨f0,f1,f2,f3,f4,f5⟩:=hf it (by simp);refine wpAny_pyNext_enum_end (I.ok.hd hc) he hit pl.isList (by simp;lia) fun h' eb=>⟨rfl,?_⟩
  exact I.turned (t':=s.toks) (fun b o hb q=>eb b o hb q) f0 f1 f3 f4 f5
 self:=fun _ _ _ _ _ st h=>by
  obtain⟨⟨old,he⟩,_⟩:=st;exact wpAny_pyIter_enum he h
section
variable{X:Cx}
def UM(K:PySem.W.Frag)(ta:TA):TI:=fun σ H R=>ta σ H fun vs H1=>∃a,vs=[.ref a]∧(∃xs,SqL K H1 a xs)∧R (Ite K a) H1
theorem AD{a:Expr}{ta:TA}{p pos:Pos}{elts:List Expr}{k:Nat}{tpos:Pos}(hg:Gl X "enumerate")(hm:X.mg "enumerate" = none)(ha:PA X [a] ta)(hs:starEach [a] X.env=[(false,eval a X.env)]:=by rfl) :
  PI X (.Tuple elts k tpos) (.Call (.Name "enumerate" p) [a] [] pos) (UM X.K ta):=by
 intro pins s σ H R I h;refine Call_ (sG I hg hm (show bootBuiltins "enumerate" = some (.type "enumerate") by decide +kernel) (PyProof.Rows.callWith_type1 (thn (ha pos pins s σ H _ I h) fun us s1 ⟨vs,H1,I1,r1,q1⟩=>?_) hs rfl));obtain⟨l,e,⟨xs,hq⟩,q⟩:=q1;subst e;cases r1 with
 |cons r rr =>
  cases rr;cases r;obtain⟨its,rv,pl,hz⟩:=I1.list hq;refine call_enumerate_list pl.isList fun h' he hit hsz hk=>?_;refine wpAny_pyIter_enum he ?_;have I2:Inv X pins σ H1 { s1 with heap:=h' }:=I1.kept (t':=s1.toks) hk;refine⟨s1.heap.objs.size+1,[s1.heap.objs.size+1,s1.heap.objs.size],_,_,H1,rfl,I2,GK l _ _ (Nat.succ_ne_self _),⟨⟨_,by simpa using he⟩,hit⟩,fun b hb=>?_,q⟩;rcases Zn.mp hb with rfl | hb
  ·exact I1.fpOk (Nat.le_succ _) (I1.hok.fresh (Nat.le_succ _))
  ·have e':=Zb.mp hb;subst e';exact I1.fpOk (Nat.le_refl _) (I1.hok.fresh (Nat.le_refl _))
end
mutual
inductive Bd(K:PySem.W.Frag)(H:Hp):V→PyData→Prop
 |int (i:Int):Bd K H (.int i) (.int i)
 |non:Bd K H .non .none
 |bl (b:Bool):Bd K H (.bl b) (.bool b)
 |lst {a:Addr}{xs:List V}{ds:List PyData}:SqL K H a xs→Bds K H xs ds→Bd K H (.ref a) (.list ds)
 |tup {a:Addr}{xs:List V}{ds:List PyData}:SqT K H a xs→Bds K H xs ds→Bd K H (.ref a) (.tuple ds)
inductive Bds(K:PySem.W.Frag)(H:Hp):List V→List PyData→Prop
 |nil:Bds K H [] []
 |cons {x:V}{xs:List V}{d:PyData}{ds:List PyData}:Bd K H x d→Bds K H xs ds→Bds K H (x::xs) (d::ds)
end
theorem Bds.ints{K:PySem.W.Frag}{H:Hp}:∀ns:List Int,Bds K H (ns.map V.int) (ns.map PyData.int)
 |[]=>.nil
 |n::ns=>.cons (.int n) (Bds.ints ns)
section
variable{X:Cx}{pins:List (Addr×Obj)}{σ:St}{H:Hp}{s:Shared}
mutual
theorem Bd.reads(I:Inv X pins σ H s):∀{x:V}{d:PyData}{u:Value},Bd X.K H x d→RelV x u→∃as,Reads s.heap u d as
 |_,_,u,.int i,r=>by obtain⟨t,rfl⟩:=r;exact⟨_,.int i t⟩
 |_,_,u,.non,r=>by cases r;exact⟨_,.none⟩
 |_,_,u,.bl b,r=>by cases r;exact⟨_,.bool b⟩
 |_,_,u,.lst hq b,r=>by
  cases r;obtain⟨its,rv,⟨o,n,e,hc,_,hd⟩,hz⟩:=I.list hq;obtain⟨as,h⟩:=Bds.reads I b rv;exact⟨_,.list e hc hd (by simpa using h)⟩
 |_,_,u,.tup hq b,r=>by
  cases r;obtain⟨its,rv,⟨o,e,hc,n,hd⟩,hz⟩:=I.tuple hq;obtain⟨as,h⟩:=Bds.reads I b rv;exact⟨_,.tuple e hc hd (by simpa using h)⟩
theorem Bds.reads(I:Inv X pins σ H s):∀{xs:List V}{ds:List PyData}{us:List Value},Bds X.K H xs ds→b7 xs us→∃as,ReadsAll s.heap us ds as
 |_,_,_,.nil,r=>by cases r;exact⟨_,.nil⟩
 |_,_,_,.cons b bs,r=>by
  cases r with
  |cons r rr =>
   obtain⟨as,h⟩:=Bd.reads I b r;obtain⟨bs',h'⟩:=Bds.reads I bs rr;exact⟨_,.cons h h'⟩
end
end
section
variable{X:Cx}
def Q7(K:PySem.W.Frag)(neg:Bool):R2:=fun x y H Q=>∃dx dy,Bd K H x dx∧Bd K H y dy∧SeqAt.shaped dx=true∧SeqAt.shaped dy=true∧Q (.bl (PyData.eqv dx dy ^^ neg)) H
theorem mG(hu:X.A.units+64<cLine):OpR X (compareOp .Eq) (Q7 X.K false):=by
 intro pins s σ H x y v u Q I rx ry h;obtain⟨dx,dy,bx,b_y,sx,sy,q⟩:=h;obtain⟨as,r1⟩:=bx.reads I rx;obtain⟨bs,r2⟩:=b_y.reads I ry;exact eq_dataH r1 r2 sx sy hu ⟨.bl _,H,I,rfl,by simpa using q⟩
theorem RB(hu:X.A.units+64<cLine):OpR X (compareOp .NotEq) (Q7 X.K true):=by
 intro pins s σ H x y v u Q I rx ry h;obtain⟨dx,dy,bx,b_y,sx,sy,q⟩:=h;obtain⟨as,r1⟩:=bx.reads I rx;obtain⟨bs,r2⟩:=b_y.reads I ry;exact ne_dataH r1 r2 sx sy hu ⟨.bl _,H,I,rfl,by simpa using q⟩
end
section
variable{X:Cx}
def FL(H:Hp):V→String→Prop
 |.non,T=>T="NoneType"
 |.bl _,T=>T="bool"
 |.int _,T=>T="int"
 |.ref a,T=>(T="list"∧∃xs,H a=some (.lst xs))∨(T="tuple"∧∃xs,H a=some (.tup xs))
 |_,_=>False
theorem FL.ty{K:PySem.W.Frag}{H:Hp}{x:V}{T:String}(h:FL H x T):sN K H x (.type T):=by
 cases x with
 |non=>cases (show T="NoneType" from h);exact .non
 |bl b=>cases (show T="bool" from h);exact .bl b
 |int i=>cases (show T="int" from h);exact .int i
 |ref a =>
  rcases h with⟨rfl,xs,e⟩ | ⟨rfl,xs,e⟩
  ·exact .lst e
  ·exact .tup e
 |_=>exact False.elim h
def isT(T c:String):Bool:=T==c||(T=="bool"&&c=="int")
theorem OK{H:Hp}{x:V}{T:String}(h:FL H x T):T="NoneType"∨T="bool"∨T="int"∨T="list"∨T="tuple":=by
 cases x with
 |non=>exact .inl h
 |bl b=>exact .inr (.inl h)
 |int i=>exact .inr (.inr (.inl h))
 |ref a =>
  rcases h with⟨rfl,xs,e⟩ | ⟨rfl,xs,e⟩
  ·exact .inr (.inr (.inr (.inl rfl)))
  ·exact .inr (.inr (.inr (.inr rfl)))
 |_=>exact False.elim h
theorem UI{K:PySem.W.Frag}{T n:String}(hT:T="NoneType"∨T="bool"∨T="int"∨T="list"∨T="tuple")(hn:n="list"∨n="tuple"∨n="int"∨n="bool"):PySem.W.kitOne K (.type T) (.type n)=some (isT T n):=by
 rcases hT with rfl | rfl | rfl | rfl | rfl<;>rcases hn with rfl | rfl | rfl | rfl<;>first | rfl | decide
def VQ(H0:Unit):List V→Hp→VK→Prop:=fun xs H Q=>∃x T n,xs=[x,.ty n]∧FL H x T∧(n="list"∨n="tuple"∨n="int"∨n="bool")∧Q (.bl (isT T n)) H
theorem MC:gW X (.builtin "isinstance") (VQ ()):=by
 intro pins s σ H xs us Q I r h;obtain⟨x,T,n,rfl,k,hn,q⟩:=h;obtain⟨u,v,rfl,ru,rv⟩:=vals2 r;cases (show v=Value.type n from rv);exact HL I ru k.ty (UI (OK k) hn) fun tk=>⟨.bl _,H,I.tok tk,rfl,q⟩
end
end L2
namespace L2
open PySem PySem.Spec PyProof.Rows
theorem jC{c:Bool}{A B:Prop}(hc:c=false)(h:B):if c=true then A else B:=by subst hc;exact iU h
theorem oZ{c:Bool}{A B:Prop}(hc:c=true)(h:A):if c=true then A else B:=by subst hc;exact fR h
theorem aH{H:Hp}{p:Addr}(h:H p=none)(o:HO):aO H (upd H p o):=fun b u q=>by rw[aP (cM q h)];exact q
theorem aO.tup{K:PySem.W.Frag}{H H':Hp}{a:Addr}{xs:List V}(e:aO H H')(h:SqT K H a xs):SqT K H' a xs:=by
 rcases h with(h | ⟨o,h⟩) | h
 ·exact .inl (.inl (e _ _ h))
 ·exact .inl (.inr ⟨o,e _ _ h⟩)
 ·exact .inr h
section
variable{X:Cx}{K:PySem.W.Frag}
theorem eP(h:X.K=K):IxR X (TV K):=by subst h;exact aT
theorem OJ(h:X.K=K):IxR X (TU K):=by subst h;exact bW
theorem K4(h:X.K=K):OpR X (compareOp .In) (rIn K false):=by subst h;exact oE
theorem qH{es:List Expr}{k:Nat}{t:TGs}{n:Nat}{pos:Pos}(e:X.K=K)(hc:X.calm=true)(h:PGs X es t)
  (hn:(assignEach es X.env).length=n:=by rfl) (hst:(assignEach es X.env).findIdx? (·.1)=none:=by rfl):PG X (.Tuple es k pos) (UN K n t):=by subst e;exact mE hc h hn hst
end
end L2
namespace MM
def vK(l:List Nat)(x:Nat):Nat:=l.getD ((l.idxOf x+l.length-1)%l.length) 0
theorem D7{l:List Nat}{x:Nat}(h:x∈l):vK l x∈l:=by
 have h1:=List.idxOf_lt_length_of_mem h;have h2:(l.idxOf x+l.length-1)%l.length<l.length:=Nat.mod_lt _ (by lia);unfold vK;simp only[List.getD,Zz h2,Option.getD_some];exact Zp h2
end MM
set_option Elab.async false
set_option linter.all false
set_option maxRecDepth 100000
set_option maxHeartbeats 4000000
namespace L2
open PySem PySem.Spec PyProof.Rows
abbrev vn(n:Nat):V:=.int (n:Int)
abbrev vns(l:List Nat):List V:=l.map vn
theorem IM(l:List Nat):vns l=(l.map fun n:Nat=>(n:Int)).map V.int:=by rw[Yb];rfl
section
variable{X:Cx}
def Q4:V→List V→Hp→VK→Prop:=fun x vs H Q=>∃(l:Addr) (ns:List Nat) (v:Nat),x=.ref l∧vs=[vn v]∧H l=some (.lst (vns ns))∧v∈ns∧Q (vn (ns.idxOf v)) H
theorem KO:MtM X "list.index" Q4:=by
 intro pins s σ H x vs v us Q I rx rv h;obtain⟨l,ns,k,rfl,rfl,hH,hm,q⟩:=h;cases rx;obtain⟨u,rfl,t,rfl⟩:=rv.one;obtain⟨z,its,n,r,hl,e⟩:=I.lstM hH;have hlen:its.length=ns.length:=by rw[←hl];simp
 have hj:ns.idxOf k<ns.length:=List.idxOf_lt_length_of_mem hm;have item:∀(m:Nat) (hm:m<its.toArray.size),eqU (vn k) its.toArray[m]=(ns[m]'(by simpa[hlen] using hm)==k):=fun m hm'=>by
  have hm2:m<ns.length:=by simpa[hlen] using hm'
  have hx:(vns ns)[m]?=some (vn ns[m]):=by rw[Zk,Zz hm2];rfl
  obtain⟨u',hu',ru'⟩:=r.get hx;have e1:its.toArray[m]=u':=by
   have:its[m]?=some its.toArray[m]:=by simp at hm' ⊢
   rw[this]at hu';exact Option.some.inj hu'
  rw[e1,wQ ru' rfl];show((ns[m]:Int)==(k:Int))=(ns[m]==k)
  rw[Xg];simp only[beq_iff_eq]
  lia
 have hsm:((ns.idxOf k:Nat):Int)<2 ^ 63-1:=by
  have h1:=iL;have h2:(vns ns).length=ns.length:=by simp
  lia
 refine call_meets F.slot_list_index ⟨_,e,rfl⟩ F.entry_list_index (F.args_list_index_2 _ _) (SeqAt.list_indexAt l its.toArray n none #[] (.int k t) (eqU (vn k)) (ns.idxOf k) (by simpa[hlen] using hj) hsm ?_ ?_) ⟨e,fun y hy=>?_,?_⟩
 ·rw[item];simp
 ·intro m hm' hlt;rw[item];have:=List.not_of_lt_findIdx (p:=(·==k)) (xs:=ns) (i:=m) hlt;simpa using this
 ·have fl:(vns ns).all iN=true:=by rw[List.all_eq_true];intro y hy;obtain⟨n,_,rfl⟩:=Zh.mp hy;rfl
  exact gO (x:=vn k) ⟨t,rfl⟩ rfl r fl y (by simpa using hy)
 ·exact⟨vn (ns.idxOf k),H,I.tok _,⟨_,rfl⟩,q⟩
def dH{α:Type}(l:List α)(i:Nat)(x:α):List α:=l.take i++x::l.drop i
def NL:V→List V→Hp→VK→Prop:=fun x vs H Q=>∃(l:Addr) (xs:List V) (i:Nat) (y:V),x=.ref l∧vs=[vn i,y]∧H l=some (.lst xs)∧i≤xs.length∧xs.length<ZW∧Q .non (upd H l (.lst (dH xs i y)))
theorem yQ:MtM X "list.insert" NL:=by
 intro pins s σ H x vs v us Q I rx rv h;obtain⟨l,xs,i,y,rfl,rfl,hH,hi,hz,q⟩:=h;cases rx;obtain⟨u1,u2,rfl,⟨t,rfl⟩,r2⟩:=rv.two;obtain⟨z,its,n,r,hl,e⟩:=I.lstM hH;have hfit:Builtin.List.listFitsIndex (i:Int)=true:=by
  unfold Builtin.List.listFitsIndex;have:=iL;simp only[Xy,decide_eq_true_eq]
  lia
 have hc0:¬(!Builtin.List.listFitsIndex (i:Int))=true:=by rw[hfit];exact Bool.false_ne_true
 have hz1:its.toArray.size≤ZW:=by rw[List.size_toArray];lia
 obtain⟨w,hw⟩:∃w:Int,w=(i:Int):=⟨_,rfl⟩
 rw[←hw]at hc0;have mm:=PySem.AutoSeq1.list_insert_list_int_val_1 l its.toArray n w t u2 hc0 hz1;rw[←hw];refine call_meets F.slot_list_insert ⟨_,e,rfl⟩ F.entry_list_insert (F.args_list_insert_3 _ _ _) mm ⟨e,?_⟩;refine⟨.non,_,I.lset (its':=dH its i u2) (ys:=dH xs i y) (t':=s.toks) hH e ?_ ?_ ?_,rfl,q⟩
 ·have hk:(if w<0 then (w+(its.toArray.size:Int)).toNat else min w.toNat its.toArray.size)=i:=by
   rw[if_neg (by lia),List.size_toArray]
   lia
  show(its.toArray.extract 0 (if w<0 then (w+(its.toArray.size:Int)).toNat else min w.toNat its.toArray.size)).push u2++its.toArray.extract (if w<0 then (w+(its.toArray.size:Int)).toNat else min w.toNat its.toArray.size)=_;rw[hk];unfold dH;simp;exact List.take_of_length_le (by simp)
 ·unfold dH;exact b7.append (r.take _) (.cons r2 (r.drop _))
 ·unfold dH;rw[Zm,Yq,Yx,Ym]
  lia
end
theorem R8{l:List Nat}{j:Nat}(h:j<l.length){k:Int}(hk:k=(j:Int)):atI (vns l) k=some (vn (l.getD j 0)):=by
 subst hk;exact cE (by rw[Zk,Zz h];simp[List.getD,h])
theorem O2{l:List Nat}{x:Nat}(h:x∈l):atI (vns l) ((l.idxOf x:Nat)-1:Int)=some (vn (MM.vK l x)):=by
 have h1:=List.idxOf_lt_length_of_mem h;unfold MM.vK;rcases Nat.eq_zero_or_pos (l.idxOf x) with q | q
 ·have e:(l.idxOf x+l.length-1)%l.length=l.length-1:=by rw[q,Nat.zero_add];exact Nat.mod_eq_of_lt (by omega)
  rw[e];unfold atI ixN;rw[if_neg (by lia),if_pos (by simp;lia)];have e2:((l.idxOf x:Nat)-1+((vns l).length:Int)).toNat=l.length-1:=by simp;omega
  show(vns l)[((l.idxOf x:Nat)-1+((vns l).length:Int)).toNat]?=_;rw[e2,Zk,Zz (by lia)];have:l.length-1<l.length:=by lia
  simp[List.getD,this]
 ·have e:(l.idxOf x+l.length-1)%l.length=l.idxOf x-1:=by
   have:l.idxOf x+l.length-1=(l.idxOf x-1)+l.length:=by lia
   rw[this,Nat.add_mod_right];exact Nat.mod_eq_of_lt (by omega)
  rw[e];exact R8 (by omega) (by omega)
end L2
set_option linter.all false
set_option maxRecDepth 100000
set_option maxHeartbeats 4000000
namespace L2
open PySem PySem.Spec PyProof.Rows
theorem wZ{J:It}{js:List (Option Nat)}{σ:St}{H1:Hp}{R:Hp→Prop}{D:Addr}{g:TG}{te:TE}(n:Nat)(Pe:Nat→V→Prop)(hD:H1 D=none)(hn:n≤100000)
  (go:∀i H',i<n→aO H1 H'→J.go i H') (stop:∀H',aO H1 H'→J.stop n H')
  (hs:∀i H' x H'' (k:V→Hp→Prop),i<n→aO H1 H'→J.yld i H' x H''→(∀v H4,Pe i v→aO H' H4→k v H4)→g x (inner js σ) H'' fun σ2 H2=>Fills (inner js σ) σ2∧te σ2 H2 k)
  (hd:∀vs H',vs.length=n→(∀(i:Nat) v,vs[i]?=some v→Pe i v)→aO H1 H'→H' D=some (.lst vs)→R H') :
  ∃W:Nat→Nat→List V→Hp→Prop,(∃m,W 0 m [] (upd H1 D (.lst []))) ∧
   ∀i m ys H,W i m ys H→(J.stop i H∧R H)∨(J.go i H∧∃N:List V→Hp→Prop,(∀ys' H',N ys' H'→∃m',m' < m∧W (i+1) m' ys' H')∧∀x H',J.yld i H x H'→g x (inner js σ) H' fun σ2 H2=>Fills (inner js σ) σ2∧sU σ2 H2 fun b H3 =>
    if b=true then te σ2 H3 fun y H4=>H4 D=some (.lst ys)∧ys.length<ZW∧N (ys++[y]) (upd H4 D (.lst (ys++[y]))) else N ys H3):=by
 refine comp_map n (fun i ys H'=>ys.length=i∧(∀(j:Nat) v,ys[j]?=some v→Pe j v)∧aO H1 H'∧H' D=some (.lst ys)) ⟨rfl,fun j v h=>by simp at h,aH hD _,aB⟩ ?_ ?_
 ·rintro i ys H' hi ⟨hl,hp,g1,hD'⟩;refine⟨go i H' hi g1,fun x H'' hy=>hs i H' x H'' _ hi g1 hy fun v H4 hv g4=>⟨g4 _ _ hD',?_,?_,?_,?_,aB⟩⟩
  ·rw[hl];exact Xz hi (YQ hn (by decide))
  ·rw[Zm,hl];rfl
  ·intro j v' h;by_cases hj:j<ys.length
   ·rw[Zx hj]at h;exact hp j v' h
   ·rw[Zy (by lia)]at h;have hj2:j-ys.length=0:=by
     have:=(Zj.mp h).1;simp at this;lia
    rw[hj2]at h;simp at h;subst h;have:j=i:=by lia
    subst this;exact hv
  ·exact fun b o h=>by rw[aP (cM h hD)];exact g4 _ _ (g1 _ _ h)
 ·rintro ys H' ⟨hl,hp,g1,hD'⟩;exact⟨stop H' g1,hd ys H' hl hp g1 hD'⟩
theorem NH{vs:List V}{n:Nat}{fs:Nat→V}(hl:vs.length=n)(h:∀(i:Nat) v,vs[i]?=some v→v=fs i):vs=(List.range n).map fs:=by
 apply Yr;intro i;by_cases hi:i<n
 ·rw[Zk,Yv hi];obtain⟨v,hv⟩:∃v,vs[i]?=some v:=⟨vs[i],Zz (by lia)⟩
  rw[hv,h i v hv];rfl
 ·rw[Zr (by lia),Zr (by simp;lia)]
theorem oM{J:It}{js:List (Option Nat)}{σ:St}{H1:Hp}{R:Hp→Prop}{D:Addr}{g:TG}{te:TE}(n:Nat)(fs:Nat→V)(hD:H1 D=none)(hn:n≤100000)
  (go:∀i H',i<n→aO H1 H'→J.go i H') (stop:∀H',aO H1 H'→J.stop n H')
  (hs:∀i H' x H'' (k:V→Hp→Prop),i<n→aO H1 H'→J.yld i H' x H''→(∀H4,aO H' H4→k (fs i) H4)→g x (inner js σ) H'' fun σ2 H2=>Fills (inner js σ) σ2∧te σ2 H2 k)
  (hd:∀H',aO H1 H'→H' D=some (.lst ((List.range n).map fs))→R H') :
  ∃W:Nat→Nat→List V→Hp→Prop,(∃m,W 0 m [] (upd H1 D (.lst []))) ∧
   ∀i m ys H,W i m ys H→(J.stop i H∧R H)∨(J.go i H∧∃N:List V→Hp→Prop,(∀ys' H',N ys' H'→∃m',m' < m∧W (i+1) m' ys' H')∧∀x H',J.yld i H x H'→g x (inner js σ) H' fun σ2 H2=>Fills (inner js σ) σ2∧sU σ2 H2 fun b H3 =>
    if b=true then te σ2 H3 fun y H4=>H4 D=some (.lst ys)∧ys.length<ZW∧N (ys++[y]) (upd H4 D (.lst (ys++[y]))) else N ys H3) :=
 wZ n (fun i v=>v=fs i) hD hn go stop (fun i H' x H'' k hi g1 hy hk=>hs i H' x H'' k hi g1 hy fun H4 g4=>hk _ _ rfl g4)
  fun vs H' hl hp g1 e=>hd H' g1 (by rw[e,NH hl hp])
def at0(ls:List Int)(j:Nat):Int:=ls.getD j 0
theorem MF{ls:List Int}{j:Nat}(h:j<ls.length):(ls.map V.int)[j]?=some (.int (at0 ls j)):=by
 unfold at0;rw[Zk,Zz h];simp[List.getD,h]
theorem uN{ls:List Int}{j:Nat}(h:j<ls.length):at0 ls j∈ls:=by
 unfold at0;simp[List.getD,h]
theorem gT{ls:List Int}{j:Nat}(h:j<ls.length){k:Int}(hk:k=(j:Int)):atI (ls.map V.int) k=some (.int (at0 ls j)):=by
 subst hk;exact cE (MF h)
def vo:Option Int→V
 |none=>.non
 |some i=>.int i
theorem K9{n j:Nat}{k:Int}(h:j<n)(hk:k=(j:Int)):ixN n k=some j:=by
 subst hk;unfold ixN;rw[if_pos (by lia),if_pos (by lia)];simp
def dvo:Option Int→PyData
 |none=>.none
 |some i=>.int i
theorem jB{ds:List PyData}(n:Nat)(h:∀d∈ds,d.canLay0=true∧d.depth≤n):PyData.canLayAll0 ds=true∧PyData.depthAll ds≤n:=by
 induction ds with
 |nil=>exact⟨rfl,Nat.zero_le _⟩
 |cons d ds ih =>
  have h1:=h d Zd;have h2:=ih fun x hx=>h x (Zw _ hx);refine⟨by rw[PyData.canLayAll0,h1.1,h2.1];rfl,?_⟩;rw[PyData.depthAll];exact Nat.max_le.mpr ⟨h1.2,h2.2⟩
theorem via{tt r:TS}{D:Ends}{σ:St}{H:Hp}(I:St→Hp→Prop)(ht:(∀σ' H',I σ' H'→r D σ' H')→tt { D with nx:=r D } σ H)(hr:∀σ' H',I σ' H'→r D σ' H'):DV tt r D σ H:=ht hr
theorem BS{vs:List V}(h:∀(i:Nat) v,vs[i]?=some v→∃z:Int,v=.int z):∃cs:List Int,vs=cs.map V.int∧cs.length=vs.length:=by
 induction vs with
 |nil=>exact⟨[],rfl,rfl⟩
 |cons v vs ih =>
  obtain⟨z,rfl⟩:=h 0 v rfl;obtain⟨cs,h1,h2⟩:=ih fun i v hv=>h (i+1) v (by simpa using hv);exact⟨z::cs,by rw[h1];rfl,by simp[h2]⟩
theorem wI{K:PySem.W.Frag}{a:Addr}{xs:List V}{g:TG}{tb:TS}{D:Ends}{σ:St}{H:Hp}(Pv:Nat→St→Hp→Prop)(h0:Pv 0 σ H)(hl:∀i σ H,i≤xs.length→Pv i σ H→SqL K H a xs)
  (hs:∀(i:Nat) x σ H T,xs[i]?=some x→Pv i σ H→H T=none→g (.ref T) σ (upd H T (.tup [vn i,x])) fun σ2 H2=>tb { D with nx:=Pv (i+1),ct:=Pv (i+1),bk:=D.nx } σ2 H2) (hd:∀σ H,Pv xs.length σ H→D.nx σ H) :
  ∃W:Nat→Nat→St→Hp→Prop,(∃m,W 0 m σ H)∧∀i m σ H,W i m σ H →
   ((Ite K a).stop i H∧D.nx σ H)∨((Ite K a).go i H∧∃N:St→Hp→Prop,(∀σ' H',N σ' H'→∃m',m' < m∧W (i+1) m' σ' H')∧∀x H',(Ite K a).yld i H x H'→g x σ H' fun σ2 H2=>tb { D with nx:=N,ct:=N,bk:=D.nx } σ2 H2):=by
 refine⟨fun i m σ H=>m=xs.length-i∧i≤xs.length∧Pv i σ H,⟨xs.length,by simp,Nat.zero_le _,h0⟩,?_⟩;rintro i m σ H ⟨rfl,hi,p⟩;have q:=hl i σ H hi p;by_cases hlt:i<xs.length
 ·refine .inr ⟨⟨xs,xs[i],q,by simp[hlt]⟩,Pv (i+1),fun σ' H' p'=>⟨xs.length-(i+1),by omega,rfl,hlt,p'⟩,fun x H' y=>?_⟩;obtain⟨T,x',rfl,hT,rfl,y⟩:=y;exact hs i x' σ _ T (y xs q) p hT
 ·have e:i=xs.length:=by lia
  subst e;exact .inl ⟨⟨xs,q,Nat.le_refl _⟩,hd σ H p⟩
theorem vL(ns:List Int):∀k,k≤ns.length→PySem.preSum (at0 ns) k=(ns.take k).sum
 |0,_=>by simp[PySem.preSum]
 |k+1,h=>by
  rw[PySem.preSum,vL ns k (by lia),List.take_succ,List.sum_append];have hk:k<ns.length:=by lia
  unfold at0;simp[List.getD,hk]
section
variable{X:Cx}{pins:List (Addr×Obj)}{σ:St}{H:Hp}{s:Shared}
theorem tJ{p:Addr}{its:List Value}(pl:PlainL s.heap p its.toArray) :
  (s.heap.push { cls:=.type "list_iterator",data:=.fields #[.ref p,.int 0 0] }).IsListIter s.heap.objs.size p 0∧(s.heap.push { cls:=.type "list_iterator",data:=.fields #[.ref p,.int 0 0] }).IsList p its.toArray:=by
 obtain⟨o,n,e,hc,hd,hs⟩:=pl;exact⟨⟨_,Heap.get?_push_size _ rfl,rfl,rfl⟩,o,Heap.get?_push_of_some _ e,hc,n,hs⟩
theorem BX{p:Addr}{its:List Value}(pl:PlainL s.heap p its.toArray):p<s.heap.objs.size:=by
 obtain⟨o,n,e,_⟩:=pl;exact Heap.lt_size e
theorem HX(hc:X.calm=true):gW X (.builtin "sum") (fun xs H Q=>∃(p:Addr) (ns:List Int),xs=[.ref p]∧SqL X.K H p (ns.map V.int)∧Q (.int ns.sum) H):=by
 intro pins s σ H xs us Q I r h;obtain⟨p,ns,rfl,hq,q⟩:=h;obtain⟨u,rfl,rx⟩:=vals1 r;cases rx;obtain⟨its,rv,pl,hz⟩:=I.list hq;have hl:=rv.length;rw[Zq]at hl;have hp:=BX pl;refine call_sum_walkG (wpAny_pyIter_list pl.isList ?_);refine⟨s.heap.objs.size,[s.heap.objs.size,p],[s.heap.objs.size],its.toArray.size,_,_,at0 ns,rfl,Walks.list (show X.A.in1.handled=none from I.ok.hd hc) _ p (Nat.ne_of_lt hp) its.toArray,tJ pl,fun b hb=>?_,fun i v hv=>?_,fun h' tk t' hk=>?_⟩
 ·have:=Heap.lt_size (Heap.get?_push_size s.heap (o:={ cls:=.type "list_iterator",data:=.fields #[.ref p,.int 0 0] }) rfl);simp only[Zn,List.not_mem_nil,or_false]at hb;rcases hb with rfl | rfl
  ·exact this
  ·exact Nat.lt_trans hp this
 ·have hi:its[i]?=some v:=by simpa using hv
  have hi2:i<ns.length:=by rw[hl];exact(Zj.mp hi).1
  obtain⟨u',hu,ru⟩:=rv.get (MF hi2);rw[hi]at hu;cases hu;exact ru
 ·refine⟨.int ns.sum,H,I.kept (h':=h') (t':=tk) fun b o e=>?_,⟨t',?_⟩,q⟩
  ·refine hk b o ?_ (Heap.get?_push_of_some _ e);simp only[Zn,List.not_mem_nil,or_false];exact Nat.ne_of_lt (Heap.lt_size e)
  ·rw[List.size_toArray,←hl,vL ns _ (Nat.le_refl _),Yw]
end
end L2
namespace L2
open PySem PySem.Spec PyProof.Rows
theorem all_range(bs:List Bool):(List.range bs.length).all (fun i=>bs.getD i true)=bs.all id:=by
 rw[Xg,List.all_eq_true,List.all_eq_true];constructor
 ·intro h b hb;obtain⟨i,hi,rfl⟩:=List.getElem_of_mem hb;have:=h i (by simpa using hi);simpa[List.getD,hi] using this
 ·intro h i hi;have hi':i<bs.length:=by simpa using hi
  have:=h bs[i] (Zp hi');simpa[List.getD,hi'] using this
section
variable{X:Cx}
theorem IA(hc:X.calm=true):gW X (.builtin "all") (fun xs H Q=>∃(p:Addr) (bs:List Bool),xs=[.ref p]∧SqL X.K H p (bs.map V.bl)∧Q (.bl (bs.all id)) H):=by
 intro pins s σ H xs us Q I r h;obtain⟨p,bs,rfl,hq,q⟩:=h;obtain⟨u,rfl,rx⟩:=vals1 r;cases rx;obtain⟨its,rv,pl,hz⟩:=I.list hq;have hl:=rv.length;rw[Zq]at hl;have hp:=BX pl;refine call_all_walk (wpAny_pyIter_list pl.isList ?_);refine⟨s.heap.objs.size,[s.heap.objs.size,p],[s.heap.objs.size],its.toArray.size,_,_,fun i=>bs.getD i true,rfl,Walks.list (show X.A.in1.handled=none from I.ok.hd hc) _ p (Nat.ne_of_lt hp) its.toArray,tJ pl,fun i v s' Q' E' hv hQ=>?_,fun h' tk hk=>?_⟩
 ·have hi:its[i]?=some v:=by simpa using hv
  have hi2:i<bs.length:=by rw[hl];exact(Zj.mp hi).1
  obtain⟨u',hu,ru⟩:=rv.get (show(bs.map V.bl)[i]?=some (.bl (bs.getD i true)) by rw[Zk,Zz hi2];simp[List.getD,hi2]);rw[hi]at hu;cases hu;cases ru;exact wpAny_truthy_bool hQ
 ·refine⟨.bl (bs.all id),H,I.kept (h':=h') (t':=tk) fun b o e=>?_,?_,q⟩
  ·refine hk b o ?_ (Heap.get?_push_of_some _ e);simp only[Zn,List.not_mem_nil,or_false];exact Nat.ne_of_lt (Heap.lt_size e)
  ·show Value.bool _=Value.bool _;rw[List.size_toArray,←hl,all_range]
end
end L2
namespace L2
open PySem PySem.Spec PyProof.Rows
section
variable{X:Cx}
end
end L2
namespace L2
open PySem PySem.Spec PyProof.Rows
section
variable{X:Cx}
end
end L2
namespace L2
open PySem PySem.Spec PyProof.Rows
section
variable{κ:Type}[DecidableEq κ]
end
section
variable{P:Program}{w:World}{H:Hp}{h:Heap}{a:Addr}
end
section
variable{X:Cx}{pins:List (Addr×Obj)}{σ:St}{H:Hp}{s:Shared}{a:Addr}{y v:V}{u r:Value}{o:Option V}{A:Around}{E:Value→Shared→Prop}
end
section
variable{X:Cx}{pins:List (Addr×Obj)}{σ:St}{H:Hp}{s:Shared}{a:Addr}{kvs:List (Key×V)}{k:Key}{u:Value}{A:Around}{E:Value→Shared→Prop}
end
section
variable{X:Cx}{o i e value:Expr}{pos pos' tpos:Pos}{td ty tv:TE}
end
section
variable{X:Cx}{pos:Pos}
end
end L2
namespace L2
open PySem PySem.Spec PyProof.Rows
theorem rV(its:List Value):∀k,k≤its.length→((List.range k).map fun j:Nat=>(((its.length:Int)-1)+-1*(j:Int)).toNat).filterMap (its.toArray[·]?)=its.reverse.take k
 |0,_=>by simp
 |k+1,h=>by
  have e:(((its.length:Int)-1)+-1*(k:Int)).toNat=its.length-1-k:=by lia
  have hk:its.length-1-k<its.length:=by omega
  rw[List.range_succ,Zt,List.filterMap_append,rV its k (by lia),List.take_add_one,Yd (by lia)];congr 1;simp only[List.map_cons,List.map_nil,e];rw[Zz hk];simp[hk]
theorem oQ(its:List Value):slicePick its.toArray none none (some (-1))=its.reverse.toArray:=by
 have hb:sliceBounds none none (some (-1)) its.toArray.size=((its.length:Int)-1,-1,-1):=by
  simp only[sliceBounds,Option.getD_some,List.size_toArray,show ¬((-1:Int)>0) by decide,if_false]
 have hs:sliceRange ((its.length:Int)-1) (-1) (-1)=(List.range its.length).map fun j:Nat=>(((its.length:Int)-1)+-1*(j:Int)).toNat:=by
  unfold sliceRange;simp only[show ¬((-1:Int)>0) by decide,if_false];have e:(if (its.length:Int)-1 > -1 then ((its.length:Int)-1 - -1 - -1-1) / - -1 else 0)=(its.length:Int):=by
   split
   ·have:((its.length:Int)-1 - -1 - -1-1)=(its.length:Int):=by lia
    rw[this,show(- -1:Int)=1 by decide,Int.ediv_one]
   ·lia
  rw[e,Int.toNat_natCast]
 unfold slicePick;rw[hb];show((sliceRange ((its.length:Int)-1) (-1) (-1)).filterMap (its.toArray[·]?)).toArray=_;rw[hs,rV its _ (Nat.le_refl _),List.take_of_length_le (by simp)]
theorem uX(its:List Value):slicePick its.toArray none (some 0) (some (-1))=(its.drop 1).reverse.toArray:=by
 have hb:sliceBounds none (some 0) (some (-1)) its.toArray.size=((its.length:Int)-1,max (-1) (min 0 ((its.length:Int)-1)),-1):=by
  simp only[sliceBounds,Option.getD_some,List.size_toArray,show ¬((-1:Int)>0) by decide,if_false,show ¬((0:Int)<0) by decide]
 have hs:sliceRange ((its.length:Int)-1) (max (-1) (min 0 ((its.length:Int)-1))) (-1)=(List.range (its.length-1)).map fun j:Nat=>(((its.length:Int)-1)+-1*(j:Int)).toNat:=by
  unfold sliceRange;simp only[show ¬((-1:Int)>0) by decide,if_false];have e:(if (its.length:Int)-1>max (-1) (min 0 ((its.length:Int)-1)) then ((its.length:Int)-1-max (-1) (min 0 ((its.length:Int)-1)) - -1-1) / - -1 else 0)=((its.length-1:Nat):Int):=by
   rw[show(- -1:Int)=1 by decide];split
   ·rw[Int.ediv_one];lia
   ·omega
  rw[e,Int.toNat_natCast]
 unfold slicePick;rw[hb];show((sliceRange ((its.length:Int)-1) (max (-1) (min 0 ((its.length:Int)-1))) (-1)).filterMap (its.toArray[·]?)).toArray=_;rw[hs,rV its _ (by omega),List.reverse_drop]
section
variable{X:Cx}{e ste:Expr}{te:TE}{lo hi:Option Expr}{tl th tk:TO}{pos p2:Pos}
def VO(K:PySem.W.Frag):V→Option Int→Option Int→Option Int→Hp→VK→Prop:=fun x lo hi st H Q=>∃a xs k,x=.ref a∧SqL K H a xs∧lo=none∧st=some (-1)∧((hi=none∧k=0)∨(hi=some 0∧k=1))∧∀p,H p=none→Q (.ref p) (upd H p (.lst (xs.drop k).reverse))
def U4(K:PySem.W.Frag)(te:TE)(tl th tk:TO):TE:=fun σ H Q=>te σ H fun x H1=>tl σ H1 fun l H2=>th σ H2 fun u H3=>tk σ H3 fun k H4=>VO K x l u k H4 Q
theorem yN(he:PE X e te)(hl:PO X lo tl)(hu:PO X hi th)(hk:PO X (some ste) tk):PE X (.Subscript e (.Slice lo hi (some ste) p2) pos) (U4 X.K te tl th tk):=by
 intro pins s σ H Q I h;refine Subscript_ (thn (he pins s σ H _ I h) fun v s1 ⟨x,H1,I1,r1,q1⟩=>?_);refine wpAny_Slice (thn (hl pins s1 σ H1 _ I1 q1) fun vl s2 ⟨l,H2,I2,pl,q2⟩=>thn (hu pins s2 σ H2 _ I2 q2) fun vu s3 ⟨u,H3,I3,pu,q3⟩=>thn (hk pins s3 σ H3 _ I3 q3) fun vk s4 ⟨k,H4,I4,pk,q4⟩=>?_);have I5:Inv X pins σ H4 { s4 with heap:=s4.heap.push { cls:=.type "slice",data:=.fields #[vl,vu,vk] } }:=I4.kept (t':=s4.toks) fun b ob q=>Heap.get?_push_of_some _ q;obtain⟨a,xs,n,rfl,hx,rfl,rfl,hh,q⟩:=q4;cases r1;obtain⟨its,r,ht,hz⟩:=I5.list hx;have hlen:=r.length;show wpAny (model X.prog X.w) X.A (subscriptTail e (.Slice lo hi (some ste) p2) (.ref a) (.ref s4.heap.objs.size)) (EP X pins σ Q) X.xe { s4 with heap:=s4.heap.push { cls:=.type "slice",data:=.fields #[vl,vu,vk] } };refine tail_any (ops:=[.ref a,.ref s4.heap.objs.size]) ht.isList.typeIs slot_list_getitem.lookup (wpAny_getItem_list_slice ht.isList (Heap.IsSliceOf.new ..) pl pu pk (by simp) ?_ (by rw[List.size_toArray]<;>lia)) (by with_unfolding_all rfl);have eq:slicePick its.toArray none u (some (-1))=((its.drop n).reverse).toArray:=by
  rcases hh with⟨rfl,rfl⟩ | ⟨rfl,rfl⟩
  ·rw[oQ,List.drop_zero]
  ·exact uX its
 rw[eq];refine⟨.ref _,_,I5.laid (o:=.lst (xs.drop n).reverse) (fun b ob q=>Heap.get?_push_of_some _ q) (Nat.le_refl _) ?_,rfl,q _ (I5.hok.fresh (Nat.le_refl _))⟩;exact⟨by rw[Yt,Ym];omega,_,0,(r.drop n).reverse,Heap.get?_push_size _ rfl⟩
end
end L2
namespace L2
open PySem PyProof.Rows
end L2
namespace L2
open PySem PySem.Spec PyProof.Rows
section
variable{P:Program}{w:World}{H H':Hp}{h h':Heap}{a:Addr}{o:HO}
theorem dM.here(x:dM P w H h a o):∃u,h.get? a=some u:=by
 cases o with
 |lst xs=>exact let⟨_,_,_,_,e⟩:=x;⟨_,e⟩
 |tup xs=>exact let⟨_,_,_,_,e,_⟩:=x;⟨_,e⟩
 |dK kvs=>exact let⟨_,_,_,_,_,_,_,e,_⟩:=x;⟨_,e⟩
 |dT kvs=>exact let⟨_,_,_,_,_,_,_,e,_⟩:=x;⟨_,e⟩
 |set S n=>exact let⟨_,_,_,_,e,_⟩:=x;⟨_,e⟩
 |ins C dx fs=>exact let⟨_,_,_,e,_⟩:=x;⟨_,e⟩
 |own y=>exact x
 |xd fs=>obtain⟨_,h1,_⟩:=x;obtain⟨_,_,_,e,_⟩:=h1;exact⟨_,e⟩
 |rng lo hi=>exact let⟨_,_,_,e⟩:=x;⟨_,e⟩
 |frz ob u=>exact⟨_,x.1⟩
 |tbl ps=>exact⟨_,(show h.get? a=some _ from x)⟩
 |met f y=>exact⟨_,(show h.get? a=some _ from x)⟩
 |ext φ=>exact x.2.1
theorem HOk.gone(x:HOk P w H h)(e:h.get? a=none):H a=none:=by
 cases q:H a with
 |none=>rfl
 |some o =>
  obtain⟨u,z⟩:=(x a o q).here;rw[e]at z;cases z
theorem HOk.hid{fs:List Addr}(x:HOk P w H h)(n:∀b∈fs,H b=none):HOk P w H (PySem.W.hideAll h fs):=fun a o e=>by
 refine(x a o e).stay (fun b u hb q=>PySem.W.hideAll_get fs q fun m=>?_) (fun _ q=>q) fun _ _ q=>q;have z:=n b m;rcases hb with rfl | hb
 ·rw[z]at e;cases e
 ·rw[z]at hb;cases hb
end
def CXr(P:Program)(w:World)(C:Addr):CXT:=fun outer H s E e s' =>
 ∃(x:Addr) (a0:Value) (B:Heap) (H':Hp),e=.ref x∧s'.os=s.os∧AllBare s'.gens∧Un (frs outer) [] H H' s.heap s'.heap ∧
  (∀b o,s.heap.get? b=some o→H b=none→b∉frs outer→B.get? b=some o)∧(∀b o,s.heap.get? b=some o→b∉frs outer→∃u,B.get? b=some u)∧HOk P w H' B∧Heap.FlyingW B outer x (.ref C) a0 s'.heap∧E e none H'
theorem RZ{K:PySem.W.Frag}{h:Heap}{C:Addr}{bmB:List Value}{newId:String}(X:K.In h)(q:PySem.W.excIn K C bmB newId=true) :
  ∃bm N nm qn bs hdct sn sub ab col dd k0 k1 k2 k3 k5 mN,h.get? C=some (excClassObj nm qn C N bs bm hdct sn sub ab col dd k0 k1 k2 k3 k5 newId)∧h.Ns N mN∧mN "__init__" = none∧OwnTail h bmB bm:=by
 unfold PySem.W.excIn at q;split at q
 ·rename_i dd cd sl ho
  split at q
  ·rename_i C' bm k0 k1 k2 k3 n k5 hm hs
   simp only[Xy,beq_iff_eq,Bool.not_eq_true']at q;obtain⟨⟨⟨⟨⟨e1,e2⟩,e3⟩,e4⟩,e5⟩,e6⟩:=q;subst e1;subst e2;cases cd with
   |mk nm bs mro ns qn hd sn sub ab col del =>
    cases sl with
    |mk l =>
     change mro=_ at hm;change l=_ at hs;change del=false at e3;cases hm;cases hs;cases e3;refine⟨bm,ns,nm,qn,bs,hd,sn,sub,ab,col,dd,k0,k1,k2,k3,k5,h.nsMap ns,?_,?_,?_,PySem.W.tail_of_in X e4⟩
     ·exact X _ _ ho
     ·exact Heap.Ns.of_isNs (PySem.W.isNs_of_in X e5)
     ·exact PySem.W.nsMap_none_of_in X e5 e6
  ·cases q
 ·cases q
def QL(E:XK):TS:=fun _ _ H=>∀x:Addr,E (.ref x) none H
section
variable{P:Program}{w:World}{K:PySem.W.Frag}{mg:Str→Option Value}{base:Heap}{N:List Str}{qual:Str}{scope:Scope}{f C:Addr}{cd:Value}{A:Around}{outer:List Env}{s₀:Shared}{H₀:Hp}{E:XK}
 {x:Str}{Bs newId initId:String}{bm:List Value}{np cpos pos p:Pos}{msg:Str}{j:Nat}
theorem vJ(O:PySem.W.excIn K C bm newId=true)(FB:ExcBaseFacts Bs newId initId bm)(hm:mg x=some (.ref C))(hg:scope.names.lookup x=some .globalImplicit:=by rfl)(hd:(x==("__debug__" : Str))=false:=by decide) :
  PS (uD (CXr P w C) P w K mg base N qual scope f cd A outer s₀ H₀ E) (.Raise (some (.Call (.Name x np) [.Constant (.str msg) j p] [] cpos)) none pos) (QL E):=by
 intro pins s σ H D I h;obtain⟨bm',N',nm,qn,bs,hdct,sn,sub,ab,col,dd,k0,k1,k2,k3,k5,mN,hC,hN,hni,T⟩:=RZ I.ok.mod.kin O;refine wpAny_Raise_call_subT (nm:=nm) (q:=qn) (C:=C) (N:=N') (bs:=bs) (bm:=bm') (hdct:=hdct) (sn:=sn) (sub:=sub) (ab:=ab) (col:=col) (dd:=dd)
  (k0:=k0) (k1:=k1) (k2:=k2) (k3:=k3) (k5:=k5) FB (T.hasType FB.hasBase) (I.ok.hd rfl) rfl hni (qG I hg hm ⟨rfl,?_⟩ hd)
 refine Calls.evalArgs_plain (thn ((aA aY aC:PA _ [.Constant (.str msg) j p] _) cpos pins s σ H (fun vs H1=>vs.length=1∧H1=H) I ⟨rfl,rfl⟩) ?_);rintro us s2 ⟨vs,H2,I2,r,hl,rfl⟩;refine⟨rfl,?_,I2.bk C _ hC,hN.keeps I2.bk,T.keeps I2.bk,fun h' e hx=>?_⟩
 ·show us.length≤ZW;rw[←r.length,hl];decide
 ·have hst:s2.heap.FunFrames base (envOfC qual scope s₀.heap.objs.size f cd::outer):=I2.stack;have hin:∀env∈envOfC qual scope s₀.heap.objs.size f cd::outer,∀b,env.frame=some b→b∈frs (envOfC qual scope s₀.heap.objs.size f cd::outer):=fun env he b hb=>List.mem_filterMap.mpr ⟨env,he,hb⟩;have hfree:∀b∈frs (envOfC qual scope s₀.heap.objs.size f cd::outer),H2 b=none:=I2.stkFree;have hub:Un (frs outer) [] H₀ H2 s₀.heap s2.heap:=I2.base;have old:∀b o,s₀.heap.get? b=some o→b∉frs outer→b∉frs (envOfC qual scope s₀.heap.objs.size f cd::outer):=fun b o hb hn hm=>by
   obtain⟨env,he,hf⟩:=List.mem_filterMap.mp hm;rcases Zn.mp he with rfl | he
   ·have z:s₀.heap.objs.size=b:=Option.some.inj hf;exact Nat.lt_irrefl _ (z▸Heap.lt_size hb)
   ·exact hn (List.mem_filterMap.mpr ⟨env,he,hf⟩)
  have sub:∀b,b∈frs outer→b∈frs (envOfC qual scope s₀.heap.objs.size f cd::outer):=fun b hb=>by
   obtain⟨env,he,hf⟩:=List.mem_filterMap.mp hb;exact List.mem_filterMap.mpr ⟨env,Zw _ he,hf⟩
  refine wpAny_leaves_madeW (base:=PySem.W.hideAll s2.heap (frs (envOfC qual scope s₀.heap.objs.size f cd::outer))) (h:=s2.heap) (L:=s₀.heap.objs.size) I2.ok.frames rfl
   (fun b o q=>PySem.W.of_hideAll _ q) (PySem.W.funFrames_hide hst hin) hx fun h2 t f1 f2 f3 f4=>?_
  have kp:∀b o,s2.heap.get? b=some o→b∉frs (envOfC qual scope s₀.heap.objs.size f cd::outer)→h2.get? b=some o:=fun b o q n=>f1.1 b o (PySem.W.hideAll_get _ q n);have sl:∀b o,s2.heap.get? b=some o→b∈frs (envOfC qual scope s₀.heap.objs.size f cd::outer)→∃z,h2.get? b=some { o with slots:=z }:=fun b o q m=>by
   obtain⟨_,o',ho',hd'⟩:=hst.mem m;rw[q]at ho';cases ho';exact f4 b o (hx.keeps b o q) hd'
  refine⟨e,.ref t,_,H2,rfl,I2.os,I2.bare,⟨?_,?_,hub.free,?_,hub.tups,hub.frzs,hub.tbls⟩,?_,?_,I2.hok.hid hfree,f1,h e⟩
  ·exact fun b o q n hb hx=>kp b o (hub.keep b o q n hb hx) (old b o q hb)
  ·intro b o q n hb hx;obtain⟨z,e1⟩:=hub.slot b o q n hb hx;obtain⟨z',e2⟩:=sl b _ e1 (sub b hb);exact⟨z',e2⟩
  ·intro b o q hx;obtain⟨o',e1⟩:=hub.there b o q hx;by_cases hm:b∈frs (envOfC qual scope s₀.heap.objs.size f cd::outer)
   ·obtain⟨z,e2⟩:=sl b _ e1 hm;exact⟨_,e2⟩
   ·exact⟨_,kp b _ e1 hm⟩
  ·exact fun b o q n hb=>PySem.W.hideAll_get _ (hub.keep b o q n hb (by simp)) (old b o q hb)
  ·intro b o q hb;obtain⟨u,z⟩:=hub.there b o q (by simp);exact⟨u,PySem.W.hideAll_get _ z (old b o q hb)⟩
end
end L2
namespace L2
open PySem PySem.Spec PyProof.Rows
def xT(C x:Addr):HO:=.ext fun h=>∃o,h.get? x=some o∧o.cls=.ref C
theorem OV{P:Program}{w:World}{H:Hp}{h:Heap}{C x:Addr}{o:Obj}(e:h.get? x=some o)(c:o.cls=.ref C):dM P w H h x (xT C x) :=
 ⟨⟨o,e,c⟩,⟨o,e⟩,fun _ _ ⟨u,e1,c1⟩ k=>⟨u,k u e1,c1⟩⟩
abbrev Cx.at'(X:Cx)(A:Around)(calm:Bool)(pn:List (Addr×Obj))(xe:Value→Shared→Prop):Cx:={ X with A:=A,calm:=calm,pn:=pn,xe:=xe }
abbrev O8(X:Cx)(pn:List (Addr×Obj))(xe:Value→Shared→Prop):Cx:=X.at' X.A X.calm pn xe
abbrev w9(X:Cx)(pn:List (Addr×Obj))(xe:Value→Shared→Prop)(e:Addr):Cx:=X.at' (X.A.mark (some (.ref e))) false pn xe
section
variable{X:Cx}{pins pins' pn:List (Addr×Obj)}{σ:St}{H H':Hp}{s s':Shared}{A:Around}{calm:Bool}{xe:Value→Shared→Prop}
theorem Inv.swap(I:Inv X pins σ H s)(hp:∀p∈pn++pins',p∈X.pn++pins)(hA:A.frames=X.A.frames)(hc:calm=true→A.handled=none):Inv (X.at' A calm pn xe) pins' σ H s :=
 let o:=I.ok
 ⟨⟨o.mod,o.kind,o.glob,o.blt,o.above,o.inj,o.has,o.cab,hc,hA.trans o.frames,o.stk,o.exf,o.bs,o.bsz,o.noex,o.exfs,o.funs,o.frf⟩,I.os,I.bare,I.base,I.loc,I.cell,I.free,I.freeC,fun p q=>I.pin p (hp p q),I.hok,I.len⟩
theorem Inv.unset{m:Str→Option Value}{h':Heap}{i:Nat}{x:Str}{u:Option Value}(I:Inv X pins σ H s)(nd:X.N.Nodup)(hi:X.N[i]?=some x)(hn:s.heap.Ns X.env.locals m)
  (hl:∀(i:Nat) (x:Str) (v:V),X.N[i]?=some x→σ[i]?=some (some v)→Vis X.env.scope x→∃u,RelV v u∧Look X.env s.heap m x u)
  (hn':h'.Ns X.env.locals fun y=>if y=x then u else m y) (hs:Heap.SameBut X.env.locals s.heap h'):Inv X pins (σ.set i none) H { s with heap:=h' }:=by
 have cne:=I.cne;have old:∀b o,X.s₀.heap.get? b=some o→b≠X.env.locals:=fun b o e=>Nat.ne_of_lt (Xz (Heap.lt_size e) I.ok.above);refine⟨I.ok,I.os,I.bare,⟨fun b o e n hb hx=>?_,fun b o e n hb hx=>?_,I.base.free,fun b o e hx=>?_,I.base.tups,I.base.frzs,I.base.tbls⟩,⟨_,hn',fun k y v e1 e2 e3=>?_⟩,fun y c e=>?_,I.free,I.freeC,fun p hp=>?_,?_,by simpa using I.len⟩
 ·exact(hs.2 b (old b o e)).trans (I.base.keep b o e n hb hx)
 ·obtain⟨sl,q⟩:=I.base.slot b o e n hb hx;exact⟨sl,(hs.2 b (old b o e)).trans q⟩
 ·obtain⟨o',q⟩:=I.base.there b o e hx;exact⟨o',(hs.2 b (old b o e)).trans q⟩
 ·by_cases hk:k=i
  ·subst hk;by_cases hlt:k<σ.length
   ·rw[List.getElem?_set_self hlt]at e2;cases e2
   ·rw[Zr (by simpa using hlt)]at e2;cases e2
  ·rw[List.getElem?_set_ne (Ne.symm hk)]at e2;obtain⟨u',r',q⟩:=hl k y v e1 e2 e3;refine⟨u',r',?_⟩;have hy:y≠x:=fun z=>hk (vT nd e1 (z▸hi));rcases q with⟨kd,e⟩ | ⟨kd,c,e,z⟩
   ·exact .inl ⟨kd,by simp[hy,e]⟩
   ·exact .inr ⟨kd,c,e,z.sameBut hs (cne y c e)⟩
 ·obtain⟨w',z⟩:=I.cell y c e;exact⟨w',z.sameBut hs (cne y c e)⟩
 ·obtain⟨e,n,ne,nf,d⟩:=I.pin p hp;exact⟨(hs.2 p.1 ne).trans e,n,ne,nf,d⟩
 ·intro b ob e;refine(I.hok b ob e).stay (fun c w' hc q=>(hs.2 c ?_).trans q) (fun _ q=>q) fun _ _ q=>q;rintro rfl;rcases hc with rfl | hc
  ·rw[I.free]at e;cases e
  ·rw[I.free]at hc;cases hc
theorem nN{M:Model}{A:Around}{E:Value→Shared→Prop}{i:Nat}{x:Str}{pos:Pos}{Q:Unit→Shared→Prop}(I:Inv X pins σ H s)(nd:X.N.Nodup)(hi:X.N[i]?=some x)(hk:X.env.scope.names.lookup x=some .local)
  (h:∀s',Inv X pins (σ.set i none) H s'→Q () s'):wpAny M A (do bindName X.env x .none;unbindBehindTheSuite X.env x pos) Q E s:=by
 have hcls:(X.env.scope.kind==.class||(X.env.scope.kind==.module&&X.env.locals != X.env.globals))=false:=by rw[I.ok.kind];rfl
 refine ZZ (wpAny_bindName (jO (v:=.non) I nd hi (.inl hk) rfl (fun s2 I2=>?_) (.inr hk)));have hiσ:i<σ.length:=by rw[I.len];exact(Zj.mp hi).1
 obtain⟨m,hn,hl⟩:=I2.loc;obtain⟨u,_,q⟩:=hl i x .non hi (List.getElem?_set_self hiσ) (.inl hk);have hv:m x=some u:=by
  rcases q with⟨_,e⟩ | ⟨kd,_⟩
  ·exact e
  ·have kd:X.env.scope.names.lookup x=some .cell∨X.env.scope.names.lookup x=some .free:=kd;rw[hk]at kd;rcases kd with kd | kd<;>cases kd
 unfold unbindBehindTheSuite;refine wpAny_onRaise (wpAny_unbindName_local hk hn hv hcls fun h' w hn' hs=>h _ ?_);have z:=I2.unset nd hi hn hl hn' hs
 rwa [List.set_set]at z
end
theorem Inv.track{X:Cx}{pins:List (Addr×Obj)}{σ:St}{H:Hp}{s:Shared}{x:Addr}{o:HO}(I:Inv X pins σ H s)(hx:H x=none)(n0:X.s₀.heap.get? x=none)(nl:x≠X.env.locals)
  (nc:∀y c,X.env.cells.lookup y=some c→c≠x) (np:∀p∈X.pn++pins,p.1≠x) (ok:dM X.prog X.w (upd H x o) s.heap x o):Inv X pins σ (upd H x o) s:=by
 have ne:∀{b:Addr}{u:HO},H b=some u→b≠x:=fun {b u} e z=>by rw[z,hx]at e;cases e
 refine⟨I.ok,I.os,I.bare,⟨I.base.keep,I.base.slot,fun b u e n hb=>?_,I.base.there,fun b xs e=>?_,fun b u v e=>?_,fun b ps e=>?_⟩,I.loc,I.cell,?_,fun y c e=>?_,fun p hp=>?_,fun b u e=>?_,I.len⟩
 ·rw[aP (fun z=>by rw[z,n0]at e;cases e)];exact I.base.free b u e n hb
 ·have z:=I.base.tups b xs e;rw[aP (ne z)];exact z
 ·have z:=I.base.frzs b u v e;rw[aP (ne z)];exact z
 ·obtain⟨more,z⟩:=I.base.tbls b ps e;exact⟨more,by rw[aP (ne z)];exact z⟩
 ·rw[aP (Ne.symm nl)];exact I.free
 ·rw[aP (nc y c e)];exact I.freeC y c e
 ·obtain⟨e,n,r⟩:=I.pin p hp;exact⟨e,by rw[aP (np p hp)];exact n,r⟩
 ·by_cases hb:b=x
  ·subst hb;rw[aB]at e;cases e;exact ok
  ·rw[aP hb]at e;exact(I.hok b u e).stay (fun _ _ _ q=>q) (fun c q=>by rw[aP (ne q)];exact q) fun c xs q=>by rw[aP (ne q)];exact q
section
variable{X:Cx}{C Cb:Addr}{E:XK}{body suite:List Stmt}{b₀:Stmt}{y n:Str}{i:Nat}{np hpos pos:Pos}{tb ts:TS}
end
end L2
namespace L2
open PySem PySem.Spec PyProof.Rows PySem.W
def isExc(C x:Addr)(h:Heap):Prop:=∃o,h.get? x=some o∧o.cls=.ref C
structure xU(K:Frag)(C:Addr):Prop where
 ga:findIn K (.ref C) "__getattribute__" = some (some (.builtin "BaseException.__getattribute__"))
 gt:findIn K (.ref C) "__getattr__" = some none
 cl:findIn K (.ref C) "__class__" = some (some (.builtin "object.__class__"))
 sb:subIn K (.ref C) (.type "BaseException")=some true
 so:subIn K (.ref C) (.type "object")=some true
 ic:isClsIn K C=true
section
variable{prog:Program}{w:World}{A:Around}{E:Value→Shared→Prop}{h:Heap}{g:Array GenState}{d:Drawn}{t:Nat}{os:OsState}{a C:Addr}{K:Frag}
theorem CQ{M:Model}(e:isExc C a h):Looks M h (typeOf (.ref a)) (.ref C):=by
 obtain⟨o,h1,h2⟩:=e;exact h2▸(Looks.ld h1).andThen .now
theorem EJ{R:Result→Shared→Prop}(X:K.In h)(F1:xU K C)(e:isExc C a h)(hq:R (.ok (.ret (.ref C))) ⟨h,g,d,t,os⟩) :
  codeAny (model prog w) A (.call (.builtin "getset_descriptor.__get__") ⟨[.builtin "object.__class__",.ref a,.ref C],[]⟩) R ⟨h,g,d,t,os⟩:=by
 have L0:=CQ (M:=model prog w) e;have L1:Looks (model prog w) h (isSubtype (.ref C) (.type (".".intercalate ("object.__class__".cutAt '.').dropLast))) true:=by
  rw[F.owner_object_class];exact looks_subIn X F1.so
 have hT:(⟨h,g,d,t,os⟩:Shared).TypeIs (.builtin "object.__class__") "getset_descriptor":=F.typeOf_object_class;refine codeAny_call_builtin F.slot_gs_get.plain F.entry_gs_get (F.slot_gs_get.check _ _ _ _ _ _ _ _ hT (F.args_gs_get _ _ _) ?_)
 repeat (any_goals (first | assumption | (with_reducible refine L0.at ?_) | (with_reducible refine L1.at ?_) | wp_step))
 refine⟨Code.quiet_builtin _ (by decide +kernel),codeAny_builtin F.entry_object_class ?_⟩
 repeat (any_goals (first | assumption | (with_reducible refine L0.at ?_) | wp_step))
theorem AU{tk:Tok}{Q:Fin→Shared→Prop}(X:K.In h)(F1:xU K C)(e:isExc C a h)(hq:Q (.done (.ret (.ref C))) ⟨h,g,d,t,os⟩) :
  wpAny (model prog w) A (Builtin.«object.__getattribute__» ⟨[.ref a,.str "__class__" tk],[]⟩) Q E ⟨h,g,d,t,os⟩:=by
 have L0:=CQ (M:=model prog w) e;have L1:=looks_findIn (M:=model prog w) X F1.cl;have hT:(⟨h,g,d,t,os⟩:Shared).TypeIs (.builtin "object.__class__") "getset_descriptor":=F.typeOf_object_class;have f5:=F.typeOf_object_class;have f6:=F.slot_gs_get.lookup;have f7:=F.slot_gs_set.lookup
 repeat (any_goals (first | assumption | (with_reducible refine L0.at ?_) | (with_reducible refine L1.at ?_) | wp_step))
 refine EJ X F1 e ?_
 repeat (any_goals (first | assumption | wp_step))
theorem CP{M:Model}{nameV:Value}{Q:Unit→Shared→Prop}(X:K.In h)(F1:xU K C)(e:isExc C a h)(hq:Q () ⟨h,g,d,t,os⟩) :
  wpAny M A (checkBuiltinCall "BaseException.__getattribute__" ⟨[.ref a,nameV],[]⟩) Q E ⟨h,g,d,t,os⟩:=by
 have hk:builtinKind "BaseException.__getattribute__" = some .slot:=by decide +kernel
 have hsplit:splitId "BaseException.__getattribute__" = some ("BaseException","__getattribute__"):=by decide +kernel
 have ha:=F.args_bexc_ga (.ref a) nameV;have L0:=CQ (M:=M) e;have L1:=looks_subIn (M:=M) X F1.sb;simp only[checkBuiltinCall,hk,hsplit];unfold isInstance
 repeat (first | (with_reducible refine L0.at ?_) | (with_reducible refine L1.at ?_) | wp_step)
 all_goals exact hq
theorem HS{tk:Tok}{Q:Value→Shared→Prop}(X:K.In h)(F1:xU K C)(e:isExc C a h)(hq:Q (.ref C) ⟨h,g,d,t,os⟩) :
  wpAny (model prog w) A (getAttrBy (.ref a) (.str "__class__" tk) false) Q E ⟨h,g,d,t,os⟩:=by
 have L0:=CQ (M:=model prog w) e;have L1:=looks_findIn (M:=model prog w) X F1.ga;have L2:=looks_findIn (M:=model prog w) X F1.gt;have f3:=(show Slot "ValueError" "__getattribute__" "BaseException.__getattribute__" from PySem.F.excAttr_ValueError.ga).bind (.ref a);have hx2:(Value.builtin "BaseException.__getattribute__"==Value.builtin "object.__getattribute__")=false:=by decide +kernel
 have hx1:(onTheHeap (Value.ref C)&&Value.builtin "BaseException.__getattribute__"==Value.builtin "object.__getattribute__")=false:=by rw[hx2];rfl
 repeat (any_goals (first | assumption | (with_reducible refine L0.at ?_) | (with_reducible refine L1.at ?_) | (with_reducible refine L2.at ?_) | wp_step))
 refine codeAny_call_builtin (PySem.F.excAttr_ValueError.ga).plain F.entry_bexc_ga (CP X F1 e (AU X F1 e ?_))
 repeat (any_goals (first | assumption | wp_step))
theorem CO{Q:Option Value→Shared→Prop}(X:K.In h)(F1:xU K C)(e:isExc C a h)(hq:Q (some (.ref C)) ⟨h,g,d,t+1,os⟩) :
  wpAny (model prog w) A (getAttr? (.ref a) "__class__") Q E ⟨h,g,d,t,os⟩:=by
 unfold getAttr? getAttrBy?
 repeat (any_goals (first | assumption | with_reducible apply HS X F1 e | wp_step))
end
theorem CA{K:Frag}{x C:Addr}(F1:xU K C):KitX K (.ref x) (.ref C) (isExc C x) where
 ty:=fun _ _ _ p=>CQ p
 it:=fun _ _ X _=>by
  have z:(clsIn K C).isSome=true:=F1.ic;unfold clsIn at z;split at z
  ·rename_i ho
   intro A' Q' E' s' k q;unfold isType loadHead;exact ZZ (wpAny_loadPart (k _ _ (X _ _ ho)) (ZY q))
  ·cases z
 ne:=fun h tp dd its n sl X htp=>by
  refine Bool.eq_false_iff.mpr fun q=>?_;have e:C=tp:=Value.ref.inj (beq_iff_eq.mp q);have z:(clsIn K C).isSome=true:=F1.ic;rw[e]at z;unfold clsIn at z;split at z
  ·rename_i ho
   have y:=(X _ _ ho).symm.trans htp;cases y
  ·cases z
 ca:=fun {_ _ _ _ _ s} X p k=>by
  obtain⟨h,g,d,t,os⟩:=s;exact CO X F1 p k
structure O6(K:Frag)(C D:Addr):Prop where
 ic:isClsIn K D=true
 ty:typeIn K (.ref D)=some (.type "type")
 sb:subIn K (.ref C) (.ref D)=some true
 ex:subIn K (.ref D) (.type "BaseException")=some true
structure jJ(K:Frag)(C D:Addr):Prop where
 ic:isClsIn K D=true
 ty:typeIn K (.ref D)=some (.type "type")
 sb:subIn K (.ref C) (.ref D)=some false
 ne:(Value.ref C==Value.ref D)=false
theorem FK{K:Frag}{C D:Addr}{b:Bool}(ic:isClsIn K D=true)(ty:typeIn K (.ref D)=some (.type "type"))(sb:subIn K (.ref C) (.ref D)=some b):kitCls K (.ref C) (.ref D)=some b:=by
 have e:((clsIn K D).isSome&&typeIn K (.ref D)==some (.type "type"))=true:=by rw[show(clsIn K D).isSome=true from ic,ty];decide
 unfold kitCls;dsimp only;rw[if_pos e,sb]
theorem O6.exm{K:Frag}{C D:Addr}(h:O6 K C D):exmOne K (.ref C) (.ref D)=some true:=by
 unfold exmOne;rw[h.ex,if_pos (by decide)];exact FK h.ic h.ty h.sb
theorem jJ.one{K:Frag}{C D:Addr}(h:jJ K C D):kitOne K (.ref C) (.ref D)=some false:=by
 unfold kitOne;rw[h.ne,if_neg (by decide)];exact FK h.ic h.ty h.sb
theorem tK{K:Frag}{C:Addr}:∀{cs:List Addr},(∀D∈cs,jJ K C D)→kitAny K (.ref C) (cs.map Value.ref)=some false
 |[],_=>rfl
 |D::cs,h=>by
  rw[List.map_cons];unfold kitAny;rw[(h D Zd).one];exact tK fun E hE=>h E (Zw _ hE)
theorem K5{K:Frag}{C:Addr}:kitOne K (.ref C) (.ref C)=some true:=by
 unfold kitOne;rw[if_pos (by simp)]
theorem RQ{K:Frag}{C:Addr}(sb:subIn K (.ref C) (.type "ValueError")=some true):kitOne K (.ref C) (.type "ValueError")=some true:=by
 have e:kitMeta "ValueError" = true:=by decide +kernel
 unfold kitOne kitCls;dsimp only;rw[if_neg (by intro q;cases beq_iff_eq.mp q),if_pos e,sb]
section
variable{X:Cx}
def SL(c:V)(u:Value):Prop:=(∃D,c=.ref D∧u=.ref D)∨∃n,c=.ty n∧u=.type n
theorem SL.is{c:V}{u v:Value}(h:SL c u)(r:RelV c v):v=u:=by
 rcases h with⟨D,rfl,rfl⟩ | ⟨n,rfl,rfl⟩<;>exact r
theorem j7:gW X (.builtin "isinstance") (fun xs H Q=>∃x C c u b,xs=[.ref x,c]∧SL c u∧H x=some (xT C x)∧xU X.K C∧kitOne X.K (.ref C) u=some b∧Q (.bl b) H):=by
 intro pins s σ H xs us Q I r h;obtain⟨x,C,c,u,b,rfl,rc,hx,F1,e,q⟩:=h;obtain⟨u1,v,rfl,r1,r2⟩:=vals2 r;cases (show u1=Value.ref x from r1);cases rc.is r2;have p:isExc C x s.heap:=(show dM X.prog X.w H s.heap x (xT C x) from I.hok x _ hx).1;exact kia_one (CA F1) I.kIn p e (by intro z;cases z) fun tk=>⟨.bl b,H,I.tok tk,rfl,q⟩
theorem uS:∀{cs:List Addr}{us:List Value},b7 (cs.map V.ref) us→us=cs.map Value.ref
 |[],_,.nil=>rfl
 |c::cs,_,.cons r t=>by rw[uS t,show _=Value.ref c from r];rfl
theorem EO:gW X (.builtin "isinstance") (fun xs H Q=>∃(x C p:Addr) (cs:List Addr) (b:Bool),xs=[.ref x,.ref p]∧H x=some (xT C x)∧H p=some (.tup (cs.map V.ref))∧xU X.K C∧kitAny X.K (.ref C) (cs.map Value.ref)=some b∧Q (.bl b) H):=by
 intro pins s σ H xs us Q I r h;obtain⟨x,C,p,cs,b,rfl,hx,hp,F1,e,q⟩:=h;obtain⟨u1,v,rfl,r1,r2⟩:=vals2 r;cases (show u1=Value.ref x from r1);cases (show v=Value.ref p from r2);have px:isExc C x s.heap:=(show dM X.prog X.w H s.heap x (xT C x) from I.hok x _ hx).1;obtain⟨_,its,r',o,ho,hc,n,hd⟩:=(show dM X.prog X.w H s.heap p (.tup (cs.map V.ref)) from I.hok p _ hp)
 cases uS r';obtain⟨c,dd,dt,sl⟩:=o;cases (show c=.type "tuple" from hc);cases (show dt=.seq (cs.map Value.ref).toArray n from hd);exact kia_tup (CA F1) I.kIn px ho e (by intro z;cases z) fun tk=>⟨.bl b,H,I.tok tk,rfl,q⟩
end
end L2
namespace L2
open PySem PySem.Spec PyProof.Rows
section
variable{P:Program}{w:World}{K:PySem.W.Frag}{mg:Str→Option Value}{base:Heap}{N:List Str}{qual:Str}{scope:Scope}{f C:Addr}{cd:Value}{A:Around}{outer:List Env}{s₀:Shared}{H₀:Hp}{E:XK}
theorem iI:sO (CXr P w C) (uD (CXr P w C) P w K mg base N qual scope f cd A outer s₀ H₀ E) E:=by
 intro pins σ1 H1 s1 e s' J1 hc;obtain⟨x,a0,B,H',rfl,hos,bare,un,kB,tB,okB,fly,hE⟩:=hc;have fly:Heap.FlyingW B (envOfC qual scope s₀.heap.objs.size f cd::outer) x (.ref C) a0 s'.heap:=fly;have un:Un (frs (envOfC qual scope s₀.heap.objs.size f cd::outer)) [] H1 H' s1.heap s'.heap:=un;have kB:∀b o,s1.heap.get? b=some o→H1 b=none→b∉frs (envOfC qual scope s₀.heap.objs.size f cd::outer)→B.get? b=some o:=kB;have tB:∀b o,s1.heap.get? b=some o→b∉frs (envOfC qual scope s₀.heap.objs.size f cd::outer)→∃u,B.get? b=some u:=tB;have hfree:∀b∈frs (envOfC qual scope s₀.heap.objs.size f cd::outer),H1 b=none:=J1.stkFree;have hst:s1.heap.FunFrames base (envOfC qual scope s₀.heap.objs.size f cd::outer):=J1.stack;have old:∀b o,s₀.heap.get? b=some o→b∉frs outer→b∉frs (envOfC qual scope s₀.heap.objs.size f cd::outer):=fun b o hb hn hm=>by
  obtain⟨env,he,hf⟩:=List.mem_filterMap.mp hm;rcases Zn.mp he with rfl | he
  ·have z:s₀.heap.objs.size=b:=Option.some.inj hf;exact Nat.lt_irrefl _ (z▸Heap.lt_size hb)
  ·exact hn (List.mem_filterMap.mpr ⟨env,he,hf⟩)
 have next:∀h5,B.StaysIn h5→s'.heap.UpToSlots h5→Inv (uD (CXr P w C) P w K mg base N qual scope f cd A outer s₀ H₀ E) pins σ1 H' { s' with heap:=h5 }:=fun h5 f5 up=>by
  refine J1.call' (ch:=[]) hos ⟨fun b o q n hb _=>f5 b o (kB b o q n hb),fun b o q n hb hx=>?_,un.free,fun b o q hx=>?_,un.tups,un.frzs,un.tbls⟩ (okB.kept f5) bare (fun b z=>absurd z (by simp))
  ·obtain⟨sl,e1⟩:=un.slot b o q n hb hx;obtain⟨_,o',e2,nf⟩:=hst.mem hb;rw[q]at e2;cases e2;obtain⟨sl',e3⟩:=up b _ e1 nf;exact⟨sl',e3⟩
  ·cases e4:H1 b with
   |some ho =>
    obtain⟨u,z⟩:=tB b o q fun hb=>by rw[hfree b hb]at e4;cases e4
    exact⟨u,f5 b u z⟩
   |none =>
    by_cases hb:b∈frs (envOfC qual scope s₀.heap.objs.size f cd::outer)
    ·obtain⟨sl,e1⟩:=un.slot b o q e4 hb hx;obtain⟨_,o',e2,nf⟩:=hst.mem hb;rw[q]at e2;cases e2;obtain⟨sl',e3⟩:=up b _ e1 nf;exact⟨_,e3⟩
    ·exact⟨_,f5 b o (kB b o q e4 hb)⟩
 have hub:Un (frs outer) [] H₀ H1 s₀.heap s1.heap:=J1.base;refine wpAny_leaves_onW J1.ok.frames rfl fly fun h' f1 up=>?_;have J5:=next h' f1.1 up;refine⟨x,a0,B,H',rfl,J5.os,bare,J5.base,fun b o q n hb=>kB b o (hub.keep b o q n hb (by simp)) (hub.free b o q n (by simp)) (old b o q hb),fun b o q hb=>?_,okB,f1,hE⟩;obtain⟨o1,e1⟩:=hub.there b o q (by simp);exact tB b o1 e1 (old b o q hb)
end
end L2
namespace L2
open PySem PySem.Spec PyProof.Rows
section
variable{M:Model}{A:Around}{Ex:Value→Shared→Prop}{s:Shared}
theorem HD{e:Value}{env env':Env}(h:env.frame=env'.frame):noteFrame e env=noteFrame e env':=by
 unfold noteFrame PySem.frameOf;rw[h]
structure Fly(B:Heap)(l:List Env)(x:Addr)(cls a0:Value)(h:Heap):Prop where
 st:B.StaysIn h
 nw:B.get? x=none
 ff:h.FunFrames B l
 tr:∃fl,h.TracedAtW B x cls a0 fl
theorem wJ{B h:Heap}{l:List Env}{x:Addr}{cls a0:Value}(F:Fly B l x cls a0 h):∃oe vs T oT ts,h.get? x=some oe∧oe.data=.fields vs∧vs[1]?=some (.ref T)∧h.get? T=some oT∧oT.data=.fields ts∧3<ts.size ∧
  ∀v:Value,Fly B l x cls a0 (h.update T (Obj.mapFields (·.setIfInBounds 3 v)))∧(v=.none→(h.update T (Obj.mapFields (·.setIfInBounds 3 v))).TracedW B x cls a0)∧∀b o,h.get? b=some o→(∀ws,o.data≠.fields ws)→(h.update T (Obj.mapFields (·.setIfInBounds 3 v))).get? b=some o:=by
 obtain⟨f1,f2,f3,fl,oe,vs,T,oT,ts,he,hc,hd,h1,hnT,hTe,hT,hdT,h3⟩:=F;have h33:3<ts.size:=(Array.getElem?_eq_some_iff.mp h3).1;refine⟨oe,vs,T,oT,ts,he,hd,h1,hT,hdT,h33,fun v=>?_⟩;have oth:∀b,b≠T→(h.update T (Obj.mapFields (·.setIfInBounds 3 v))).get? b=h.get? b:=fun b hb=>Heap.get?_update_other _ _ (Ne.symm hb);have nrec:∀b o,h.get? b=some o→(∀ws,o.data≠.fields ws)→b≠T:=fun b o hb hn q=>by
  rw[q,hT]at hb;cases hb;exact hn ts hdT
 have tr:(h.update T (Obj.mapFields (·.setIfInBounds 3 v))).TracedAtW B x cls a0 v :=
  ⟨oe,vs,T,_,_,(oth x (Ne.symm hTe)).trans he,hc,hd,h1,hnT,hTe,Heap.get?_update_self _ hT (Obj.isFreed_of_fields (Obj.data_mapFields hdT _)),Obj.data_mapFields hdT _,by simp[h33]⟩
 refine⟨⟨fun b o hb=>(oth b fun q=>by rw[q,hnT]at hb;cases hb).trans (f1 b o hb),f2,f3.of_keeps fun b o hb hn=>⟨o,(oth b (nrec b o hb hn)).trans hb,rfl⟩,v,tr⟩,fun e=>e▸tr,fun b o hb hn=>(oth b (nrec b o hb hn)).trans hb⟩
theorem EG{B:Heap}{env:Env}{outer:List Env}{L x:Addr}{cls a0:Value}{Q:Unit→Shared→Prop}(hfr:A.frames=some (env::outer))(hf:env.frame=some L)(F:Fly B (env::outer) x cls a0 s.heap)
  (hQ:∀h',Heap.FlyingW B outer x cls a0 h'→s.heap.UpToSlots h'→Q () { s with heap:=h' }):wpAny M A (leaving env (.ref x)) Q Ex s:=by
 have dn:∀{h':Heap},Heap.FlyingW B (env::outer) x cls a0 h'→Heap.FlyingW B outer x cls a0 h':=fun ⟨k1,k2,⟨_,_,k3⟩,k4⟩=>⟨k1,k2,k3,k4⟩
 obtain⟨f1,f2,f3,fl,tr⟩:=id F;by_cases hl:fl=rawInt L
 ·subst hl;unfold leaving;exact ZZ (wpAny_noteFrame_againW hf tr (wpAny_landsW ⟨f1,f2,f3,tr⟩ fun h' k up=>hQ h' (dn k) up))
 ·obtain⟨oe,vs,T,oT,ts,he,⟨hcls,h0⟩,hd,h1,hnT,hTe,hT,hdT,h3⟩:=tr;subst hcls;unfold leaving noteFrame;simp only[hf];refine ZZ (ZZ (wpAny_field he hd h1 ?_));rw[if_pos (by simp)];refine ZZ (wpAny_field hT hdT h3 ?_);rw[if_neg (fun z=>hl (beq_iff_eq.mp z))];refine ZZ (wpAny_setField hT hdT (Array.getElem?_eq_some_iff.mp h3).1 ?_);obtain⟨oe',vs',T',oT',ts',he',hd',h1',hT',hdT',h33',fs⟩:=wJ F;rw[he]at he';cases he';rw[hd]at hd';cases hd';rw[h1]at h1';cases h1';obtain⟨F2,tn,kp⟩:=fs .none;obtain⟨oe2,vs2,_,_,_,he2,⟨hc2,h02⟩,hd2,h12,_⟩:=tn rfl;refine wpAny_newEntryW hfr F2.ff hf he2 F2.st f2 hd2 (Array.getElem?_eq_some_iff.mp h12).1 h02 fun h' ⟨x1,⟨_,_,x2⟩,x3,x4⟩=>?_;rw[hc2]at x3;exact hQ h' ⟨x1,f2,x2,x3⟩ fun b o hb hn=>x4 b o (kp b o hb hn) hn
theorem NY{α:Type}{B:Heap}{l:List Env}{x:Addr}{cls a0:Value}{what:String}{env:Env}{Q:α→Shared→Prop}(F:Fly B l x cls a0 s.heap)
  (hQ:∀h',Fly B l x cls a0 h'→(∀b o,s.heap.get? b=some o→(∀ws,o.data≠.fields ws)→h'.get? b=some o)→Ex (.ref x) { s with heap:=h' }):wpAny M A (PySem.passOn what (.ref x) env:Sem α) Q Ex s:=by
 obtain⟨oe,vs,T,oT,ts,he,hd,h1,hT,hdT,h33,fs⟩:=wJ F;unfold PySem.passOn setFlight;refine ZZ (wpAny_field he hd h1 ?_);rw[if_neg (by simp)];refine ZZ (ZZ (wpAny_field he hd h1 ?_));rw[if_pos (by simp)];exact wpAny_setField hT hdT h33 (wpAny_throw (hQ _ (fs _).1 (fs _).2.2))
end
def CXg(P:Program)(w:World)(C:Addr)(ch:List Addr):CXT:=fun outer H s E e s' =>
 ∃(x:Addr) (a0:Value) (B:Heap) (H':Hp),e=.ref x∧s'.os=s.os∧AllBare s'.gens∧Un (frs outer) ch H H' s.heap s'.heap ∧
  (∀b o,s.heap.get? b=some o→H b=none→b∉frs outer→b∉ch→B.get? b=some o)∧(∀b o,s.heap.get? b=some o→b∉frs outer→b∉ch→∃u,B.get? b=some u)∧HOk P w H' B∧Fly B outer x (.ref C) a0 s'.heap∧E e none H'
structure XG(X:Cx)(C:Addr)(E:XK):Prop where
 fr:X.env.frame=some X.env.locals
 st:X.stack=X.env::X.outer
 ps:∀{pins:List (Addr×Obj)}{σ:St}{H:Hp}{s:Shared}{e:Value}{s':Shared}{ch:List Addr},Inv X pins σ H s→CXg X.prog X.w C ch X.stack H s E e s' →
  (∀b∈ch,(b∈X.ex∨X.s₀.heap.objs.size≤b)∧b≠X.env.locals∧(∀x c,X.env.cells.lookup x=some c→c≠b)∧∀p∈X.pn++pins,p.1≠b)→X.xe e s'
section
variable{P:Program}{w:World}{K:PySem.W.Frag}{mg:Str→Option Value}{base:Heap}{N:List Str}{qual:Str}{scope:Scope}{f C:Addr}{cd:Value}{A:Around}{outer:List Env}{s₀:Shared}{H₀:Hp}{E:XK}
theorem IG:XG (uD (CXr P w C) P w K mg base N qual scope f cd A outer s₀ H₀ E) C E where
 fr:=rfl
 st:=rfl
 ps:=by
  intro pins σ1 H1 s1 e s' ch J1 hc hch;obtain⟨x,a0,B,H',rfl,hos,bare,un,kB,tB,okB,fly,hE⟩:=hc;have fly:Fly B (envOfC qual scope s₀.heap.objs.size f cd::outer) x (.ref C) a0 s'.heap:=fly;have un:Un (frs (envOfC qual scope s₀.heap.objs.size f cd::outer)) ch H1 H' s1.heap s'.heap:=un;have kB:∀b o,s1.heap.get? b=some o→H1 b=none→b∉frs (envOfC qual scope s₀.heap.objs.size f cd::outer)→b∉ch→B.get? b=some o:=kB;have tB:∀b o,s1.heap.get? b=some o→b∉frs (envOfC qual scope s₀.heap.objs.size f cd::outer)→b∉ch→∃u,B.get? b=some u:=tB;have hfree:∀b∈frs (envOfC qual scope s₀.heap.objs.size f cd::outer),H1 b=none:=J1.stkFree;have hst:s1.heap.FunFrames base (envOfC qual scope s₀.heap.objs.size f cd::outer):=J1.stack;have old:∀b o,s₀.heap.get? b=some o→b∉frs outer→b∉frs (envOfC qual scope s₀.heap.objs.size f cd::outer):=fun b o hb hn hm=>by
   obtain⟨env,he,hf⟩:=List.mem_filterMap.mp hm;rcases Zn.mp he with rfl | he
   ·have z:s₀.heap.objs.size=b:=Option.some.inj hf;exact Nat.lt_irrefl _ (z▸Heap.lt_size hb)
   ·exact hn (List.mem_filterMap.mpr ⟨env,he,hf⟩)
  have nch:∀b o,s₀.heap.get? b=some o→b∉ch:=fun b o hb hm=>by
   rcases(hch b hm).1 with z | z
   ·exact absurd (show b∈([]:List Addr) from z) (by simp)
   ·exact absurd (Xz (Heap.lt_size hb) z) (Nat.lt_irrefl _)
  have next:∀h5,B.StaysIn h5→s'.heap.UpToSlots h5→Inv (uD (CXr P w C) P w K mg base N qual scope f cd A outer s₀ H₀ E) pins σ1 H' { s' with heap:=h5 }:=fun h5 f5 up=>by
   refine J1.call' (ch:=ch) hos ⟨fun b o q n hb hx=>f5 b o (kB b o q n hb hx),fun b o q n hb hx=>?_,un.free,fun b o q hx=>?_,un.tups,un.frzs,un.tbls⟩ (okB.kept f5) bare hch
   ·obtain⟨sl,e1⟩:=un.slot b o q n hb hx;obtain⟨_,o',e2,nf⟩:=hst.mem hb;rw[q]at e2;cases e2;obtain⟨sl',e3⟩:=up b _ e1 nf;exact⟨sl',e3⟩
   ·by_cases hb:b∈frs (envOfC qual scope s₀.heap.objs.size f cd::outer)
    ·obtain⟨sl,e1⟩:=un.slot b o q (hfree b hb) hb hx;obtain⟨_,o',e2,nf⟩:=hst.mem hb;rw[q]at e2;cases e2;obtain⟨sl',e3⟩:=up b _ e1 nf;exact⟨_,e3⟩
    ·obtain⟨u,z⟩:=tB b o q hb hx;exact⟨u,f5 b u z⟩
  have hub:Un (frs outer) [] H₀ H1 s₀.heap s1.heap:=J1.base;refine EG J1.ok.frames rfl fly fun h' f1 up=>?_;have J5:=next h' f1.1 up;refine⟨x,a0,B,H',rfl,J5.os,bare,J5.base,fun b o q n hb=>kB b o (hub.keep b o q n hb (by simp)) (hub.free b o q n (by simp)) (old b o q hb) (nch b o q),fun b o q hb=>?_,okB,f1,hE⟩;obtain⟨o1,e1⟩:=hub.there b o q (by simp);exact tB b o1 e1 (old b o q hb) (nch b o q)
end
theorem FY{h h' B B':Heap}:∀{l:List Env},h.FunFrames B l→(∀b∈frs l,h'.get? b=h.get? b)→(∀b,B.get? b=none→B'.get? b=none)→h'.FunFrames B' l
 |[],_,_,_=>trivial
 |env::l,⟨a,⟨L,o,hf,hn,ho,hd⟩,r⟩,k,n=>⟨a,⟨L,o,hf,n L hn,(k L (List.mem_filterMap.mpr ⟨env,Zd,hf⟩)).trans ho,hd⟩,FY r (fun b hb=>k b (by
  obtain⟨e,h1,h2⟩:=List.mem_filterMap.mp hb;exact List.mem_filterMap.mpr ⟨e,Zw _ h1,h2⟩)) n⟩
def Cx.compE(X:Cx)(C:Addr)(E:XK)(N:List Str)(scope:Scope)(cl:List (Str×Addr))(L:Addr)(fp:List Addr)(s:Shared)(H:Hp):Cx :=
 { X.comp N scope cl L fp s H with xe:=fun e s'=>∃(pins:List (Addr×Obj)) (σ:St) (H1:Hp) (s1:Shared),Inv (X.comp N scope cl L fp s H) pins σ H1 s1∧CXr X.prog X.w C X.stack H1 s1 E e s' }
section
variable{X:Cx}{C:Addr}{E:XK}{N:List Str}{scope:Scope}{cl:List (Str×Addr)}{L:Addr}{fp:List Addr}{s:Shared}{H:Hp}
theorem Inv.toE{pins:List (Addr×Obj)}{σ:St}{H1:Hp}{s1:Shared}(I:Inv (X.comp N scope cl L fp s H) pins σ H1 s1):Inv (X.compE C E N scope cl L fp s H) pins σ H1 s1 :=
 let o:=I.ok
 ⟨⟨o.mod,o.kind,o.glob,o.blt,o.above,o.inj,o.has,o.cab,o.hd,o.frames,o.stk,o.exf,o.bs,o.bsz,o.noex,o.exfs,o.funs,o.frf⟩,I.os,I.bare,I.base,I.loc,I.cell,I.free,I.freeC,I.pin,I.hok,I.len⟩
theorem Inv.ofE{pins:List (Addr×Obj)}{σ:St}{H1:Hp}{s1:Shared}(I:Inv (X.compE C E N scope cl L fp s H) pins σ H1 s1):Inv (X.comp N scope cl L fp s H) pins σ H1 s1 :=
 let o:=I.ok
 ⟨⟨o.mod,o.kind,o.glob,o.blt,o.above,o.inj,o.has,o.cab,o.hd,o.frames,o.stk,o.exf,o.bs,o.bsz,o.noex,o.exfs,o.funs,o.frf⟩,I.os,I.bare,I.base,I.loc,I.cell,I.free,I.freeC,I.pin,I.hok,I.len⟩
theorem JX:sO (CXr X.prog X.w C) (X.compE C E N scope cl L fp s H) E:=fun pins σ H1 s1 _ _ I h=>⟨pins,σ,H1,s1,I.ofE,h⟩
theorem C3{pins:List (Addr×Obj)}{σ:St}{e:Value}{s6:Shared}{Q:Value→Shared→Prop}{acc:Value}(G:XG X C E)(I3:Inv X pins σ H s)(hL:L=s.heap.objs.size)
  (hch:∀b∈fp,(b∈X.ex∨X.s₀.heap.objs.size≤b)∧b≠X.env.locals∧(∀x c,X.env.cells.lookup x=some c→c≠b)∧∀p∈X.pn++pins,p.1≠b) (hx:(X.compE C E N scope cl L fp s H).xe e s6) :
  notedBy (model X.prog X.w) X.A (compEnvC scope cl L X.env) (fun y s'=>compPost (model X.prog X.w) X.A X.xe none Q acc L (.error y) s') e s6:=by
 obtain⟨pins5,σ5,H5,s5,I5,x,a0,B,H',rfl,hos,bare,un,kB,tB,okB,fly,hE⟩:=hx;have un:Un (frs X.stack) [] H5 H' s5.heap s6.heap:=un;have b5:Un (frs X.stack) fp H H5 s.heap s5.heap:=I5.base;have f5:H5 L=none:=I5.free;have hfree:∀b∈frs X.stack,H b=none:=I3.stkFree;have hst:=I3.stack;have lnf:L∉frs X.stack:=fun hm=>by
  obtain⟨_,o,ho,_⟩:=hst.mem hm;exact Nat.lt_irrefl _ (hL▸Heap.lt_size ho)
 have lnew:∀b o,s.heap.get? b=some o→b≠L:=fun b o hb z=>Nat.lt_irrefl _ (hL▸z▸Heap.lt_size hb);show wpAny _ _ (noteFrame (.ref x) (compEnvC scope cl L X.env)) _ _ s6;rw[HD (env:=compEnvC scope cl L X.env) (env':=X.env) rfl];have fr:=I3.ok.frames;rw[G.st]at fr fly;refine wpAny_looks_onW fr G.fr fly fun h7 held up7=>?_;rw[←G.st]at held;obtain⟨k1,k2,k3,k4⟩:=held;obtain⟨m5,⟨oC,es,ep,hoC,hdC,rC⟩,_⟩:=I5.loc;have hoC:s5.heap.get? L=some oC:=hoC;have nC:∀ws,oC.data≠.fields ws:=fun ws q=>by rw[hdC]at q;cases q
 obtain⟨sC,g7⟩:=up7 L oC (un.keep L oC hoC f5 lnf (by simp)) nC;refine⟨m5,⟨_,es,ep,g7,hdC,rC⟩,fun h8 sb cenv' _=>?_⟩;have sb:Heap.SameBut L h7 h8:=sb;have hid:∀b o,b≠L→B.get? b=some o→(PySem.W.hideAll B [L]).get? b=some o:=fun b o hb q=>PySem.W.hideAll_get [L] q (by simpa using hb);have F8:Fly (PySem.W.hideAll B [L]) X.stack x (.ref C) a0 h8:=by
  obtain⟨oe,vs,T,oT,ts,he,hc,hd,h1,hnT,hTe,hT,hdT,h3⟩:=k4;have hxL:x≠L:=fun z=>by rw[z,g7]at he;cases he;exact nC _ hd
  have hTL:T≠L:=fun z=>by rw[z,g7]at hT;cases hT;exact nC _ hdT
  have hn:∀b,B.get? b=none→(PySem.W.hideAll B [L]).get? b=none:=fun b q=>by
   cases z:(PySem.W.hideAll B [L]).get? b with
   |none=>rfl
   |some o=>rw[PySem.W.of_hideAll [L] z]at q;cases q
  refine⟨fun b o hb=>?_,hn x k2,FY k3 (fun b hb=>sb.2 b fun z=>lnf (z▸hb)) hn,_,oe,vs,T,oT,ts,(sb.2 x hxL).trans he,hc,hd,h1,hn T hnT,hTe,(sb.2 T hTL).trans hT,hdT,h3⟩;by_cases z:b=L
  ·subst z;rw[PySem.W.hideAll_none [b] (by simp)]at hb;cases hb
  ·exact(sb.2 b z).trans (k1 b o (PySem.W.of_hideAll [L] hb))
 refine NY (s:={ s6 with heap:=h8 }) F8 fun h9 F9 kp=>?_;refine G.ps I3 (ch:=fp) ⟨x,a0,_,H',rfl,hos.trans I5.os,bare,⟨fun b o q n hb hx=>?_,fun b o q n hb hx=>?_,fun b o q n hx=>?_,fun b o q hx=>?_,fun b xs q=>un.tups _ _ (b5.tups _ _ q),fun b o u q=>un.frzs _ _ _ (b5.frzs _ _ _ q),fun b ps q=>?_⟩,fun b o q n hb hx=>?_,fun b o q hb hx=>?_,okB.hid ?_,F9,hE⟩ hch
 ·exact F9.st b o (hid b o (lnew b o q) (kB b o (b5.keep b o q n hb hx) (b5.free b o q n hx) hb))
 ·obtain⟨sl,e1⟩:=b5.slot b o q n hb hx;obtain⟨sl2,e2⟩:=un.slot b _ e1 (b5.free b o q n hx) hb (by simp);obtain⟨_,o',e3,nf⟩:=hst.mem hb;rw[q]at e3;cases e3;obtain⟨sl3,e4⟩:=up7 b _ e2 nf;exact⟨sl3,kp b _ ((sb.2 b (lnew b o q)).trans e4) nf⟩
 ·obtain⟨o5,e5⟩:=b5.there b o q hx;exact un.free b o5 e5 (b5.free b o q n hx) (by simp)
 ·by_cases hb:b∈frs X.stack
  ·obtain⟨sl,e1⟩:=b5.slot b o q (hfree b hb) hb hx;obtain⟨sl2,e2⟩:=un.slot b _ e1 (b5.free b o q (hfree b hb) hx) hb (by simp);obtain⟨_,o',e3,nf⟩:=hst.mem hb;rw[q]at e3;cases e3;obtain⟨sl3,e4⟩:=up7 b _ e2 nf;exact⟨_,kp b _ ((sb.2 b (lnew b o q)).trans e4) nf⟩
  ·obtain⟨o5,e5⟩:=b5.there b o q hx;obtain⟨u,z⟩:=tB b o5 e5 hb;exact⟨u,F9.st b u (hid b u (lnew b o q) z)⟩
 ·obtain⟨more,q2⟩:=b5.tbls b ps q;obtain⟨more2,q3⟩:=un.tbls b _ q2;exact⟨more++more2,by rw[←Array.append_assoc];exact q3⟩
 ·exact hid b o (lnew b o q) (kB b o (b5.keep b o q n hb hx) (b5.free b o q n hx) hb)
 ·obtain⟨o5,e5⟩:=b5.there b o q hx;obtain⟨u,z⟩:=tB b o5 e5 hb;exact⟨u,hid b u (lnew b o q) z⟩
 ·intro b hb;rw[Zb.mp hb];exact un.free L oC hoC f5 (by simp)
end
end L2
namespace L2
open PySem PySem.Spec PyProof.Rows
section
variable{prog:Program}{w:World}{A:Around}{E:Value→Shared→Prop}{R:Result→Shared→Prop}{s:Shared}
theorem AZ{elt target iter:Expr}{ifs:List Expr}{scope:Scope}{pos:Pos}{it acc:Value}{env:Env}(I:Nat→Shared→Prop)
  (turn:∀n s,I n s→wpAny (model prog w) A (pyNext it) (fun r s₁=>match r with
   |none=>R (.ok .next) s₁
   |some v=>wpAny (model prog w) A (letOwnedTupleGo target it v) (fun _ s₀=>wpAny (model prog w) A (assign target env v) (fun _ s₂ =>
     wpAny (model prog w) A (forIn ifs true fun c r=>if r=true then do let ok ←isTrue c env (eval c env);pure (ForInStep.yield ok) else pure (ForInStep.yield r)) (fun ok s₃ =>
      if ok=true then wpAny (model prog w) A (eval elt env) (fun x s₄ =>
       wpAny (model prog w) A (call (.builtin "list.append") [acc,x]) (fun _ s₅=>∃m,m<n∧I m s₅) (notedBy (model prog w) A env fun x s'=>R (.error x) s') s₄) (notedBy (model prog w) A env fun x s'=>R (.error x) s') s₃
      else ∃m,m<n∧I m s₃) (notedBy (model prog w) A env fun x s'=>R (.error x) s') s₂) (notedBy (model prog w) A env fun x s'=>R (.error x) s') s₀) (notedBy (model prog w) A env fun x s'=>R (.error x) s') s₁) (notedBy (model prog w) A env fun x s'=>R (.error x) s') s)
  (n:Nat) (h:I n s) :
  codeAny (model prog w) A (.compLoop (.ListComp elt [⟨target,iter,ifs,0⟩] scope pos) 0 it acc env) R s:=by
 refine codeAny_loop rfl I (fun n s hI=>?_) n h;show wpAny _ A ((compTurn (.ListComp elt [⟨target,iter,ifs,0⟩] scope pos) 0 it acc env).onRaise (fun x=>do noteFrame x env;theTreesLotGoes x)) _ _ s;refine wpAny_noted ?_;rw[compTurn_list];refine ZZ (wpAny_standAt (ZZ (ZX (turn n s hI) (fun r s₁ h₁=>?_) fun _ _ h'=>h')));cases r with
 |none=>exact ZY h₁
 |some v =>
  refine ZZ (ZX h₁ (fun _ s₀ h₀=>?_) fun _ _ h'=>h');refine ZZ (ZX h₀ (fun _ s₂ h₂=>ZZ (ZX h₂ (fun ok s₃ h₃=>?_) fun _ _ h'=>h')) fun _ _ h'=>h');cases ok with
  |false=>exact ZY ⟨rfl,h₃⟩
  |true =>
   exact ZZ (ZZ (ZX h₃ (fun x s₄ h₄=>ZZ (ZX h₄ (fun _ s₅ h₅=>ZY (ZY ⟨rfl,h₅⟩)) fun _ _ h'=>h')) fun _ _ h'=>h'))
end
section
variable{X:Cx}{C0:Addr}{E0:XK}
theorem C6{N':List Str}{js:List (Option Nat)}{scope:Scope}{target iter elt:Expr}{ifs:List Expr}{pos:Pos}{g:TG}{tc:TT}{te:TE}{pins:List (Addr×Obj)}{σ:St}{H:Hp}{s:Shared}{Q:VK}{E:Value→Shared→Prop}
  {RR:Value→Addr→Result→Shared→Prop}{it:Addr}{fp:List Addr}{tn:Nat→Heap→Prop}{J:It}(I:Inv X pins σ H s) (T:Turn X.prog X.w X.K target J fp it tn) (st:tn 0 s.heap) (f:∀b∈fp,rB X pins H b) (hc:X.calm=true)
  (q:∀D,H D=none→∃W:Nat→Nat→List V→Hp→Prop,(∃m,W 0 m [] (upd H D (.lst []))) ∧
   ∀i m ys H,W i m ys H→(J.stop i H∧Q (.ref D) H)∨(J.go i H∧∃N:List V→Hp→Prop,(∀ys' H',N ys' H'→∃m',m' < m∧W (i+1) m' ys' H')∧∀x H',J.yld i H x H'→g x (inner js σ) H' fun σ2 H2=>Fills (inner js σ) σ2∧tc σ2 H2 fun b H3 =>
  if b=true then te σ2 H3 fun y H4=>H4 D=some (.lst ys)∧ys.length<ZW∧N (ys++[y]) (upd H4 D (.lst (ys++[y]))) else N ys H3))
  (hg:∀cl C fp s H,PG (X.compE C0 E0 N' scope cl C fp s H) target g) (hf:∀cl C fp s H,PF (X.compE C0 E0 N' scope cl C fp s H) ifs tc) (he:∀cl C fp s H,PE (X.compE C0 E0 N' scope cl C fp s H) elt te)
  (hk:scope.kind=.function) (hcell:∀y∈scope.names,y.2≠.cell) (hfree:∀y∈scope.names,y.2=.free→X.env.kindOf y.1=some .cell∨X.env.kindOf y.1=some .free) (hjs:AM X.N scope N' js=true)
  (hRR:∀D C H' s',Inv X pins σ H' s'→Q (.ref D) H'→(∃m,s'.heap.Ns C m)→H' C=none→C≠X.env.locals→X.s₀.heap.objs.size≤C→C∉X.fs→(∀x c,X.env.cells.lookup x=some c→c≠C)→(∀p∈X.pn++pins,p.1≠C) →
   RR (.ref D) C (.ok .next) s')
  (hRX:∀D C s3 H3 e s6,Inv X pins σ H3 s3→C=s3.heap.objs.size→(∀b∈fp,(b∈X.ex∨X.s₀.heap.objs.size≤b)∧b≠X.env.locals∧(∀x c,X.env.cells.lookup x=some c→c≠b)∧∀p∈X.pn++pins,p.1≠b) →
   (X.compE C0 E0 N' scope (fG X.env.cells scope.names []) C fp s3 H3).xe e s6→notedBy (model X.prog X.w) X.A (compEnvC scope (fG X.env.cells scope.names []) C X.env) (fun y s'=>RR (.ref D) C (.error y) s') e s6) :
  wpAny (model X.prog X.w) X.A (newList []) (fun acc s₃=>wpAny (model X.prog X.w) X.A (newFunctionEnv scope X.env.globals (fG X.env.cells scope.names []) [] X.env.qual none .none (some X.env)) (fun cenv s₄ =>
   codeAny (model X.prog X.w) X.A (.compStart (.ListComp elt [⟨target,iter,ifs,0⟩] scope pos) 0 (.ref it) acc { cenv with scope:=relabel scope X.env }) (RR acc cenv.locals) s₄) E s₃) E s:=by
 refine wpAny_newObj_type (wpAny_newFunctionEnv hcell (by intro y hy;simp at hy) (fun h₁ hns₁ hsb₁=>?_) hk);dsimp only at hns₁ hsb₁ ⊢;have I3:Inv X pins σ (upd H s.heap.objs.size (.lst [])) { s with heap:=s.heap.push { cls:=.type "list",dict:=none,data:=.seq ([]:List Value).toArray } }:=I.lnew (its:=[]) (ys:=[]) (t':=s.toks) .nil (Nat.zero_le _);obtain⟨W,⟨m0,w0⟩,turn⟩:=q s.heap.objs.size I.fresh;generalize hD:s.heap.objs.size=D at I3 turn w0 ⊢;have hsz:(s.heap.push { cls:=.type "list",dict:=none,data:=.seq ([]:List Value).toArray }).objs.size=D+1:=by rw[Heap.size_push,hD]
 have fpl:∀b∈fp,b<D:=fun b hb=>by
  obtain⟨o,e,_⟩:=T.obj _ _ st b hb;rw[←hD];exact Heap.lt_size e
 generalize hs3:({ s with heap:=s.heap.push { cls:=.type "list",dict:=none,data:=.seq ([]:List Value).toArray } }:Shared)=s3 at I3;have eh:s.heap.push { cls:=.type "list",dict:=none,data:=.seq ([]:List Value).toArray }=s3.heap:=by rw[←hs3]
 rw[eh]at hns₁ hsb₁ hsz ⊢;have f3:∀b∈fp,rB X pins (upd H D (.lst [])) b:=fun b hb=>⟨by rw[aP (Nat.ne_of_lt (fpl b hb))];exact(f b hb).1,(f b hb).2⟩
 have keep1:∀b o,s3.heap.get? b=some o→h₁.get? b=some o:=fun b o e=>hsb₁.extBut b o (Nat.ne_of_lt (Heap.lt_size e)) (Heap.get?_push_of_some _ e);have I4:=C4 (N':=N') (js:=js) (tk:=s.toks+([]:List (Str×Value)).length) I3 hk hcell hfree hjs f3 (fun b hb=>by rw[hsz];exact Xj (fpl b hb)) hns₁ keep1;have es:({ s with heap:=h₁,toks:=s.toks+([]:List (Str×Value)).length }:Shared)={ s3 with heap:=h₁,toks:=s.toks+([]:List (Str×Value)).length }:=by rw[←hs3]
 rw[show({ s with heap:=h₁,toks:=s.toks+([]:List (Str×Value)).length }:Shared)={ s3 with heap:=h₁,toks:=s.toks+([]:List (Str×Value)).length } from es];have st4:tn 0 h₁:=T.keep _ _ _ st fun b hb o e=>keep1 b o (eh▸Heap.get?_push_of_some _ e);have hCne:s3.heap.objs.size≠X.env.locals:=Nat.ne_of_gt I3.lt;have loop:∀s4:Shared,tn 0 s4.heap→Inv (X.compE C0 E0 N' scope (fG X.env.cells scope.names []) s3.heap.objs.size fp s3 (upd H D (.lst []))) [] (inner js σ) (upd H D (.lst [])) s4 →
   codeAny (model X.prog X.w) X.A (.compLoop (.ListComp elt [⟨target,iter,ifs,0⟩] scope pos) 0 (.ref it) (.ref D) (compEnvC scope (fG X.env.cells scope.names []) s3.heap.objs.size X.env)) (RR (.ref D) s3.heap.objs.size) s4:=by
  intro s4 st4 I4;generalize hX:X.compE C0 E0 N' scope (fG X.env.cells scope.names []) s3.heap.objs.size fp s3 (upd H D (.lst []))=X' at I4;have xprog:X'.prog=X.prog:=by rw[←hX];rfl
  have stat:∀{H':Hp},(∀b∈fp,H' b=none)→∀b∈fp,rB X' [] H' b:=fun hn b hb=>by
   rw[←hX];refine⟨hn b hb,?_,?_,.inl hb,?_,fun p hp=>nomatch hp⟩
   ·exact Nat.ne_of_lt (by show b<s3.heap.objs.size;rw[hsz];exact Xj (fpl b hb))
   ·exact fun z=>(Zn.mp (I3.stkSub b z)).elim (f3 b hb).2.1 (f3 b hb).2.2.1
   ·intro x c e;rcases uM _ _ e with z | z
    ·simp at z
    ·exact(f3 b hb).2.2.2.2.1 x c z
  have hg':=hg (fG X.env.cells scope.names []) s3.heap.objs.size fp s3 (upd H D (.lst []));have hf':=hf (fG X.env.cells scope.names []) s3.heap.objs.size fp s3 (upd H D (.lst []));have he':=he (fG X.env.cells scope.names []) s3.heap.objs.size fp s3 (upd H D (.lst []));rw[hX]at hg' hf' he';have xA:X'.A=X.A:=by rw[←hX];rfl
  have xw:X'.w=X.w:=by rw[←hX];rfl
  have xK:X'.K=X.K:=by rw[←hX];rfl
  have xc:X'.calm=true:=by rw[←hX];exact hc
  have xe:X'.env=compEnvC scope (fG X.env.cells scope.names []) s3.heap.objs.size X.env:=by rw[←hX];rfl
  have xx:∀e s6,X'.xe e s6→notedBy (model X'.prog X'.w) X'.A X'.env (fun y s'=>RR (.ref D) s3.heap.objs.size (.error y) s') e s6:=fun e s6 z=>by
   rw[xprog,xw,xA,xe];rw[←hX]at z;exact hRX D _ s3 _ e s6 I3 rfl (fun b hb=>⟨(f3 b hb).2.2.2.1,(f3 b hb).2.1,(f3 b hb).2.2.2.2.1,(f3 b hb).2.2.2.2.2⟩) z
  have T':Turn X'.prog X'.w X'.K target J fp it tn:=by rw[xprog,xw,xK];exact T
  rw[←xA,←xw,←xprog,←xe];refine AZ (fun n s'=>∃i ys H',Inv X' [] (inner js σ) H' s'∧tn i s'.heap∧(∀b∈fp,H' b=none)∧W i n ys H') ?_ m0 ⟨0,[],_,I4,st4,fun b hb=>(f3 b hb).1,w0⟩;rintro n s5 ⟨i,ys,H5,I5,st5,fr5,w5⟩;rcases turn i n ys H5 w5 with⟨stop,q⟩ | ⟨go,N,hN,step⟩
  ·refine thn (T'.done X' rfl rfl rfl xc i [] s5 _ H5 _ I5 (stat fr5) st5 stop) fun r s6 ⟨hr,I6⟩=>?_;subst hr;subst hX;have I7:Inv X pins σ H5 s6:=I3.call' (s':=s6) I6.os I6.base I6.hok I6.bare fun b hb=>⟨(f3 b hb).2.2.2.1,(f3 b hb).2.1,(f3 b hb).2.2.2.2.1,(f3 b hb).2.2.2.2.2⟩
   obtain⟨m6,hn6,_⟩:=I6.loc;refine hRR D s3.heap.objs.size H5 s6 I7 q ⟨m6,hn6⟩ I6.free hCne I3.sz (I3.nofs (Nat.le_refl _)) (fun x c e z=>?_) (fun p hp z=>?_)
   ·obtain⟨v,y⟩:=I3.cell x c e;exact absurd (Xz y.lt (by rw[z];exact Nat.le_refl _)) (Nat.lt_irrefl _)
   ·exact absurd (Xz (Heap.lt_size (I3.pin p hp).1) (by rw[z];exact Nat.le_refl _)) (Nat.lt_irrefl _)
  ·refine thn (T'.item X' rfl rfl rfl xc i [] s5 _ H5 _ I5 (stat fr5) st5 go) fun r s6 ⟨u,hr,h6⟩=>?_;subst hr;refine thn h6 fun _ s7 ⟨x,H7,I7,r7,y7,st7,fr7⟩=>?_;have I7':=I7.pinned (stat fr7) (T.obj _ _ st7);refine ZX (hg' _ s7 _ H7 x u _ I7' r7 (step x H7 y7)) (fun _ s8 ⟨σ8,H8,I8,fill8,q8⟩=>?_) (fun _ _ z=>xx _ _ z);refine ZX (hf' _ s8 σ8 H8 _ I8 q8) (fun b s9 ⟨H9,I9,q9⟩=>?_) (fun _ _ z=>xx _ _ z);have again:∀{H':Hp}{s':Shared}{ys':List V},Inv X' ([]++rT fp s7.heap) σ8 H' s'→N ys' H'→∃m,m<n∧∃i ys H',Inv X' [] (inner js σ) H' s'∧tn i s'.heap∧(∀b∈fp,H' b=none)∧W i m ys H':=fun {H' s' ys'} I' n'=>by
    obtain⟨m',hm,w'⟩:=hN ys' H' n';refine⟨m',hm,i+1,ys',H',I'.unpinned.weak fill8.len fill8.at_,T.keep _ _ _ st7 fun b hb o e=>(I'.pin (b,o) (List.mem_append_right _ (List.mem_append_right _ (gD hb e)))).1,fun b hb=>?_,w'⟩;obtain⟨o,e,d⟩:=T.obj _ _ st7 b hb;exact(I'.pin (b,o) (List.mem_append_right _ (List.mem_append_right _ (gD hb e)))).2.1
   cases b with
   |false=>exact again I9 q9
   |true =>
    refine ZX (he' _ s9 σ8 H9 _ I9 q9) (fun yv s10 ⟨y,H10,I10,ry,hD10,hz,q10⟩=>?_) (fun _ _ z=>xx _ _ z);refine ZX (bR (X:=X') _ s10 σ8 H10 (.ref D) [y] (.ref D) [yv] (fun _ H'=>H'=upd H10 D (.lst (ys++[y]))) I10 rfl (.cons ry .nil) ⟨D,ys,y,rfl,rfl,hD10,hz,rfl⟩) (fun _ s11 ⟨_,H11,I11,_,e11⟩=>?_) (fun _ _ z=>xx _ _ z);subst e11;exact again I11 q10
 have l4:=loop { s3 with heap:=h₁,toks:=s.toks+([]:List (Str×Value)).length } st4 I4.toE;exact codeAny_compStart_list l4 (T.self _ 0 _ _ _ st4 l4)
theorem vM(G:XG X C0 E0){N':List Str}{js:List (Option Nat)}{scope:Scope}{target iter elt:Expr}{ifs:List Expr}{pos:Pos}{wi:TI}{g:TG}{tc:TT}{te:TE}(hc:X.calm=true)(hi:PI X target iter wi)
  (hg:∀cl C fp s H,PG (X.compE C0 E0 N' scope cl C fp s H) target g) (hf:∀cl C fp s H,PF (X.compE C0 E0 N' scope cl C fp s H) ifs tc) (he:∀cl C fp s H,PE (X.compE C0 E0 N' scope cl C fp s H) elt te)
  (hk:scope.kind=.function:=by rfl) (hcell:(scope.names.all fun y=>y.2 != .cell)=true:=by rfl) (hfree:(scope.names.all fun y=>y.2 != .free||(X.env.kindOf y.1==some .cell||X.env.kindOf y.1==some .free))=true:=by rfl)
  (hnames:(scope.names.all fun y=>y.2 != .local||scope.names.lookup y.1==some .local)=true:=by rfl) (hjs:AM X.N scope N' js=true:=by rfl) (hs:∀x,foldedSetIterable iter X.env x=pure x:=by intro _;rfl) :
  PE X (.ListComp elt [⟨target,iter,ifs,0⟩] scope pos) (IU js wi g tc te):=by
 have hcell':∀y∈scope.names,y.2≠.cell:=fun y hy z=>by have:=List.all_eq_true.mp hcell y hy;simp[z]at this
 have hfree':∀y∈scope.names,y.2=.free→X.env.kindOf y.1=some .cell∨X.env.kindOf y.1=some .free:=fun y hy z=>by have:=List.all_eq_true.mp hfree y hy;simpa[z] using this
 have hnames':∀y∈scope.names,y.2=.local→scope.names.lookup y.1=some .local:=fun y hy z=>by have:=List.all_eq_true.mp hnames y hy;simpa[z] using this
 intro pins s σ H Q I h;rw[eval_ListComp];refine wpAny_comprehension_free (use:=none) rfl hs (jI fun x hx z=>I.ok.has x.1 (hfree' x hx z)) hk hnames' ?_;refine thn (hi pins s σ H _ I h) fun v s1 h1=>thn h1 fun itv s2 h2=>?_;obtain⟨it,fp,tn,J,H2,e,I2,T,st2,f2,q2⟩:=h2;subst e;refine C6 (C0:=C0) (E0:=E0) (RR:=fun acc C=>compPost (model X.prog X.w) X.A X.xe none (EP X pins σ Q) acc C) I2 T st2 f2 hc q2 hg hf he hk hcell' hfree' hjs ?_ fun D C s3 H3 e s6 I3 hC hch hx=>C3 G I3 hC hch hx;intro D C H' s' I' q ⟨m,hn⟩ c0 c1 c2 c3 c4 c5;exact⟨m,hn,fun h' hs'=>⟨.ref D,H',I'.turned (t':=s'.toks) (fun b o hb e=>(hs'.2 b hb).trans e) c0 c1 (.inr c2) c4 c5,rfl,q⟩⟩
end
end L2
namespace L2
open PySem PySem.Spec PyProof.Rows
def GH(CX:CXT)(X:Cx)(σ:St)(E:XK):Prop:=∀(pins:List (Addr×Obj)) (H:Hp) (s:Shared) (e:Value) (s':Shared),Inv X pins σ H s→CX X.stack H s E e s'→X.xe e s'
def t6(X:Cx)(σ:St)(st:List Stmt)(t:TS):Prop:=∀(pins:List (Addr×Obj)) (s:Shared) (H:Hp) (D:Ends),Inv X pins σ H s→t D σ H→wpAny (model X.prog X.w) X.A (execs st X.env) (SP X pins D) X.xe s
section
variable{X:Cx}{CX:CXT}{k:Nat}{f:Addr}{fd:FuncData}{ps:List Str}{sp:Sp}{E:XK}{x y:Str}{p pos pos' spos:Pos}{e:Expr}{es:List Expr}{t:TA}{σ:St}{i:Nat}
theorem BW(F:cU X.prog X.w X.K X.mg X.base CX k f fd ps sp)(hr:kD k X.A)(hg:Gl X x)(hm:X.mg x=some (.ref f))(hk:PySem.W.keepIn X.K (.ref f)=true)(hb:Binds X.K fd ps [])(hx:GH CX X σ E)(ha:PA X (e::es) t)
  (hN:X.N.Nodup) (hi:X.N[i]?=some y) (hl:X.env.scope.names.lookup y=some .local) (hdb:(x==("__debug__" : Str))=false:=by decide) (he:starEach (e::es) X.env=(false,eval e X.env)::starEach es X.env:=by rfl) (hpl:(backTo pos (starEach es X.env)).any (·.1)=false:=by rfl)
  (hs:swapsWith (.Call (.Name x p) (e::es) [] pos) (some (.Name y pos')) spos.line X.env=pure false:=by rfl) :
  t6 X σ [.Assign [.Name y pos'] (.Call (.Name x p) (e::es) [] pos) spos] (GM (IW sp [] E t) (bT i)):=by
 intro pins s H D I h;have key:wpAny (model X.prog X.w) X.A (eval (.Call (.Name x p) (e::es) [] pos) X.env) (EP X pins σ fun v H1=>bT i v σ H1 D.nx) X.xe s:=by
  refine wpAny_Call_Name_kw (qG I hg hm ?_ hdb);refine PySem.W.callWith_K (h₀:=X.base) I.ok.mod.kin hk (thn (ha pos pins s σ H _ I h) fun us s1 ⟨vs,H1,I1,r,q⟩=>⟨I1.kIn,?_⟩) he hpl;have hl:(us++[]).length=ps.length:=by rw[List.append_nil,←r.length];have:=F.len _ _ _ _ q;rwa [List.append_nil]at this
  refine wpAny_call (codeAny_mono (F.run X.A X.stack s1 H1 ⟨us,[]⟩ (us++[]) (vs++[]) _ E hr I1.env0 (hb s1 us I1.kIn hl) (r.append .nil) q) fun r s' hq=>?_);cases r with
  |error e=>exact hx pins H1 s1 e s' I1 hq
  |ok fl =>
   cases fl with
   |ret u=>exact I1.after hq
   |next=>exact False.elim hq
   |brk=>exact False.elim hq
   |cont=>exact False.elim hq
 refine wpAny_execs_cons (thn (wpAny_Assign_Name (thn key fun v s1 ⟨z,H1,I1,r1,q1⟩=>jO I1 hN hi (.inl hl) r1 (fun s2 I2=>(show SP X pins D .next s2 from⟨_,H1,I2,q1⟩)) (.inr hl)) hs) fun f s1 q=>?_);cases f with
 |next=>exact wpAny_execs_nil q
 |ret v=>exact q
 |brk=>exact q
 |cont=>exact q
end
def S4(i:Nat)(C:Addr)(E:XK)(tb ts:TS):TS:=fun D σ H=>tb D σ H∧∀(x:Addr) (H':Hp),E (.ref x) none H'→H' x=none →
 ts { nx:=fun σ2 H2=>D.nx (σ2.set i none) H2,rt:=D.rt,bk:=fun σ2 H2=>D.bk (σ2.set i none) H2,ct:=fun σ2 H2=>D.ct (σ2.set i none) H2 } (σ.set i (some (.ref x))) (upd H' x (xT C x))
section
variable{X:Cx}{C Cb:Addr}{E:XK}{body suite:List Stmt}{b₀:Stmt}{y n:Str}{i:Nat}{np hpos pos:Pos}{tb ts:TS}
theorem JR(hx0:X.ex=[])(hst:X.stack=X.env::X.outer)(hf:X.env.frame=some X.env.locals)(hcalm:X.calm=true)(hm:X.mg y=some (.ref Cb))(hg:Gl X y)(hex:PySem.W.exmOne X.K (.ref C) (.ref Cb)=some true)
  (nd:X.N.Nodup) (hi:X.N[i]?=some n) (hl:X.env.scope.names.lookup n=some .local) (hb:∀pn xe σ,GH (CXr X.prog X.w C) (O8 X pn xe) σ E→t6 (O8 X pn xe) σ body tb)
  (hs:∀pn xe e,PSs (w9 X pn xe e) (b₀::suite) ts) (hd:(y==("__debug__" : Str))=false:=by decide) :
  PS X (.Try body [.ExceptHandler (some (.Name y np)) (some n) (b₀::suite) hpos] [] [] pos) (S4 i C E tb ts):=by
 intro pins s σ H D I ⟨h1,h2⟩;refine wpAny_Try_except ?_;refine ZX (hb (X.pn++pins) _ σ ?pass [] s H D (I.swap (by simp) rfl I.ok.hd) h1) ?fin fun e s' he=>he
 case fin =>
  intro f s' hf;cases f with
  |next =>
   obtain⟨σ',H',J,q⟩:=hf;exact ZY ⟨σ',H',J.swap (A:=X.A) (calm:=X.calm) (pn:=X.pn) (xe:=X.xe) (pins':=pins) (by simp) rfl I.ok.hd,q⟩
  |brk =>
   obtain⟨σ',H',J,q⟩:=hf;exact⟨σ',H',J.swap (A:=X.A) (calm:=X.calm) (pn:=X.pn) (xe:=X.xe) (pins':=pins) (by simp) rfl I.ok.hd,q⟩
  |cont =>
   obtain⟨σ',H',J,q⟩:=hf;exact⟨σ',H',J.swap (A:=X.A) (calm:=X.calm) (pn:=X.pn) (xe:=X.xe) (pins':=pins) (by simp) rfl I.ok.hd,q⟩
  |ret u =>
   obtain⟨v,σ',H',J,r,q⟩:=hf;exact⟨v,σ',H',J.swap (A:=X.A) (calm:=X.calm) (pn:=X.pn) (xe:=X.xe) (pins':=pins) (by simp) rfl I.ok.hd,r,q⟩
 case pass =>
  intro pins' H1 s1 e s' I1 hc;obtain⟨x,a0,B,H',rfl,hos,bare,un,kB,tB,okB,fly,hE⟩:=hc;have J1:Inv X pins σ H1 s1:=I1.swap (A:=X.A) (calm:=X.calm) (pn:=X.pn) (xe:=X.xe) (pins':=pins) (fun p q=>List.mem_append_left _ q) rfl I.ok.hd;have fly:Heap.FlyingW B X.stack x (.ref C) a0 s'.heap:=fly;have un:Un (frs X.stack) [] H1 H' s1.heap s'.heap:=un;have kB:∀b o,s1.heap.get? b=some o→H1 b=none→b∉frs X.stack→B.get? b=some o:=kB;have tB:∀b o,s1.heap.get? b=some o→b∉frs X.stack→∃u,B.get? b=some u:=tB;have hfree:∀b∈frs X.stack,H1 b=none:=J1.stkFree;have xfree:H' x=none:=okB.gone fly.2.1;have next:∀h5,Heap.FlyingW B X.stack x (.ref C) a0 h5→s'.heap.UpToSlots h5→Inv X pins σ H' { s' with heap:=h5 }:=fun h5 f5 up=>by
   refine J1.call' (ch:=[]) hos ⟨fun b o q n hb _=>f5.1 b o (kB b o q n hb),fun b o q n hb hx=>?_,un.free,fun b o q hx=>?_,un.tups,un.frzs,un.tbls⟩ (okB.kept f5.1) bare (fun b z=>absurd z (by simp))
   ·obtain⟨sl,e1⟩:=un.slot b o q n hb hx;obtain⟨_,o',e2,nf⟩:=J1.stack.mem hb;rw[q]at e2;cases e2;obtain⟨sl',e3⟩:=up b _ e1 nf;exact⟨sl',e3⟩
   ·cases e4:H1 b with
    |some ho =>
     obtain⟨u,z⟩:=tB b o q fun hb=>by rw[hfree b hb]at e4;cases e4
     exact⟨u,f5.1 b u z⟩
    |none =>
     by_cases hb:b∈frs X.stack
     ·obtain⟨sl,e1⟩:=un.slot b o q e4 hb hx;obtain⟨_,o',e2,nf⟩:=J1.stack.mem hb;rw[q]at e2;cases e2;obtain⟨sl',e3⟩:=up b _ e1 nf;exact⟨_,e3⟩
     ·exact⟨_,f5.1 b o (kB b o q e4 hb)⟩
  have hfr:X.A.frames=some (X.env::X.outer):=by rw[←hst];exact I.ok.frames
  rw[hst]at fly next;refine wpAny_looks_onW hfr hf fly fun h4 held4 up4=>?_;refine wpAny_landsW held4 fun h5 fly5 up5=>?_;have J5:=next h5 fly5 (up4.trans up5);refine wpAny_handleBy_cons (codeAny_handlers_test ?_) (by intro q;cases q);have C5:∀xe,Inv (w9 X (X.pn++pins) xe x) [] σ H' { s' with heap:=h5 }:=fun xe=>J5.swap (by simp) rfl (fun z=>by cases z);refine qG (C5 fun _ _=>True) hg hm ?_ hd;obtain⟨ob,hob,hcl⟩:=fly5.there;have LT:PySem.W.Looks (model X.prog X.w) h5 (typeOf (.ref x)) (.ref C):=hcl▸(PySem.W.Looks.ld hob).andThen .now;refine PySem.W.exm_one J5.kIn LT hex _ _ _ _ (fun _ _ q=>q) ?_;refine codeAny_handlers_suite_as ?_;refine lands_againW fly5 fun h6 fly6 up6=>?_;have J6:=next h6 fly6 ((up4.trans up5).trans up6);obtain⟨oe,vs,hoe,hcl6,hda,_⟩:=fly6.first;have nfr:x∉frs X.stack:=fun m=>by
   obtain⟨_,o,e1,nf⟩:=J6.stack.mem m;have e1:h6.get? x=some o:=e1;rw[hoe]at e1;cases e1;exact nf vs hda
  have nl:x≠X.env.locals:=fun z=>nfr (by rw[hst];exact List.mem_filterMap.mpr ⟨X.env,Zd ..,z▸hf⟩);have nB:∀b o,B.get? b=some o→b≠x:=fun b o e z=>by rw[z,fly6.2.1]at e;cases e
  have K6:=J6.track (x:=x) (o:=xT C x) xfree ?n0 nl ?nc ?np (OV hoe hcl6)
  case n0 =>
   cases e:X.s₀.heap.get? x with
   |none=>rfl
   |some o =>
    obtain⟨o1,e1⟩:=J1.base.there x o e (by rw[hx0];simp);obtain⟨u,e2⟩:=tB x o1 e1 nfr;exact absurd rfl (nB x u e2)
  case nc =>
   intro yy c e z;obtain⟨v,o,e1,e2⟩:=J6.cell yy c e;have e1:h6.get? c=some o:=e1;rw[z,hoe]at e1;cases e1;rw[hda]at e2;cases e2
  case np =>
   intro p hp;obtain⟨e1,e2,e3,e4,_⟩:=J1.pin p hp;refine nB p.1 p.2 (kB p.1 p.2 e1 e2 fun m=>?_);rw[hst]at m;obtain⟨env,he,hf'⟩:=List.mem_filterMap.mp m;rcases Zn.mp he with rfl | he
   ·rw[hf]at hf';exact e3 (Option.some.inj hf').symm
   ·exact e4 (List.mem_filterMap.mpr ⟨env,he,hf'⟩)
  have K7:∀xe,Inv (w9 X (X.pn++pins) xe x) [] σ (upd H' x (xT C x)) { s' with heap:=h6 }:=fun xe=>K6.swap (by simp) rfl (fun z=>by cases z);refine jO (X:=w9 X (X.pn++pins) (fun _ _=>True) x) (v:=.ref x) (K7 _) nd hi (.inl hl) rfl (fun s7 I7=>?_) (.inr hl);refine thn (hs (X.pn++pins) _ x [] s7 _ _ _ (I7.swap (A:=X.A.mark (some (.ref x))) (calm:=false) (pn:=X.pn++pins) (pins':=[]) (fun p q=>q) rfl (fun z=>by cases z)) (h2 x H' hE xfree)) ?_;intro f s8 hsp;dsimp only;have back:∀{σ8 H8},Inv (w9 X (X.pn++pins) (fun _ _=>True) x) [] σ8 H8 s8→Inv X pins σ8 H8 s8:=fun J=>J.swap (A:=X.A) (calm:=X.calm) (pn:=X.pn) (xe:=X.xe) (pins':=pins) (by simp) rfl I.ok.hd;cases f with
  |next =>
   obtain⟨σ8,H8,J8,q⟩:=hsp;exact nN (back (J8.swap (A:=X.A.mark (some (.ref x))) (calm:=false) (pn:=X.pn++pins) (pins':=[]) (fun p q=>q) rfl (fun z=>by cases z))) nd hi hl fun s9 I9=>⟨_,_,I9,q⟩
  |brk =>
   obtain⟨σ8,H8,J8,q⟩:=hsp;exact nN (back (J8.swap (A:=X.A.mark (some (.ref x))) (calm:=false) (pn:=X.pn++pins) (pins':=[]) (fun p q=>q) rfl (fun z=>by cases z))) nd hi hl fun s9 I9=>⟨_,_,I9,q⟩
  |cont =>
   obtain⟨σ8,H8,J8,q⟩:=hsp;exact nN (back (J8.swap (A:=X.A.mark (some (.ref x))) (calm:=false) (pn:=X.pn++pins) (pins':=[]) (fun p q=>q) rfl (fun z=>by cases z))) nd hi hl fun s9 I9=>⟨_,_,I9,q⟩
  |ret u =>
   obtain⟨v,σ8,H8,J8,r,q⟩:=hsp;exact nN (back (J8.swap (A:=X.A.mark (some (.ref x))) (calm:=false) (pn:=X.pn++pins) (pins':=[]) (fun p q=>q) rfl (fun z=>by cases z))) nd hi hl fun s9 I9=>⟨v,_,_,I9,r,q⟩
end
end L2
namespace TX
open PySem
def sT(l:List Nat):Str:=⟨l.toArray⟩
theorem rO(x:Str):sT x.cps.toList=x:=by cases x;simp[sT]
theorem eZ(l:List Nat):(sT l).cps.toList=l:=by simp[sT]
theorem cG(l:List Nat):(sT l).length=l.length:=by simp[sT,Str.length]
theorem fW{a b:List Nat}(h:sT a=sT b):a=b:=by
 have:=congrArg (fun x:Str=>x.cps.toList) h;simpa[sT] using this
theorem bZ(a b:List Nat):sT a++sT b=sT (a++b):=by
 apply PySem.Str.ext';show(sT a).cps++(sT b).cps=(sT (a++b)).cps;simp[sT]
def sp(c:Nat):List Nat→List (List Nat)
 |[]=>[[]]
 |a::l=>if a=c then []::sp c l else match sp c l with
  |[]=>[[a]]
  |p::r=>(a::p)::r
def jn(c:Nat):List (List Nat)→List Nat
 |[]=>[]
 |[p]=>p
 |p::r=>p++c::jn c r
theorem fM(c:Nat)(p:List Nat){r:List (List Nat)}(h:r≠[]):jn c (p::r)=p++c::jn c r:=by
 cases r with
 |nil=>exact absurd rfl h
 |cons q r=>rfl
theorem EX{c:Nat}:∀{p:List Nat},c∉p→sp c p=[p]
 |[],_=>rfl
 |a::p,h=>by
  have h1:a≠c:=fun z=>h (z▸Zd);have h2:c∉p:=fun z=>h (Zw _ z);rw[sp,if_neg h1,EX h2]
theorem JA{c:Nat}:∀{p:List Nat},c∉p→∀r,sp c (p++c::r)=p::sp c r
 |[],_,r=>by rw[List.nil_append,sp,if_pos rfl]
 |a::p,h,r=>by
  have h1:a≠c:=fun z=>h (z▸Zd);have h2:c∉p:=fun z=>h (Zw _ z);rw[List.cons_append,sp,if_neg h1,JA h2]
theorem x6{c:Nat}:∀{ps:List (List Nat)},ps≠[]→(∀p∈ps,c∉p)→sp c (jn c ps)=ps
 |[],h,_=>absurd rfl h
 |[p],_,h=>EX (h p Zd)
 |p::q::r,_,h=>by
  rw[fM c p (by simp),JA (h p Zd),x6 (by simp) fun z hz=>h z (Zw _ hz)]
theorem sV(c:Nat)(l:List Nat):sp c l≠[]:=by
 cases l with
 |nil=>simp[sp]
 |cons a l =>
  rw[sp];split
  ·simp
  ·split<;>simp
theorem AN(c:Nat):∀ps:List (List Nat),Str.join (sT [c]) (ps.map sT)=sT (jn c ps)
 |[]=>rfl
 |[p]=>rfl
 |p::q::r=>by
  have e:=AN c (q::r);show sT p++sT [c]++Str.join (sT [c]) ((q::r).map sT)=_;rw[e,bZ,bZ,fM c p (by simp),Yf];rfl
theorem uW(l:List Nat)(c:Nat):Txt.split (sT l) (sT [c])=(sp c l).map sT:=by
 have e:Txt.split (sT l) (sT [c])=((Txt.split (sT l) (sT [c])).map fun x:Str=>x.cps.toList).map sT:=by
  rw[Yb];refine((List.map_id _).symm.trans (Yp fun x _=>?_));exact(rO x).symm
 have hj:=PySem.StrLaws.join_split (sT l) (sT [c]);have h1:(Txt.split (sT l) (sT [c])).map (fun x:Str=>x.cps.toList)≠[]:=fun z=>by
  have:=PyProof.Rows.split_pos (sT l) (sT [c]);rw[List.map_eq_nil_iff.mp z]at this;exact absurd this (by decide)
 have h2:∀p∈(Txt.split (sT l) (sT [c])).map (fun x:Str=>x.cps.toList),c∉p:=fun p hp=>by
  obtain⟨x,hx,rfl⟩:=Zh.mp hp;exact PySem.StrLaws.split_free (sT l) c x hx
 rw[e]at hj ⊢;generalize (Txt.split (sT l) (sT [c])).map (fun x:Str=>x.cps.toList)=ps at hj h1 h2 ⊢;rw[AN]at hj;rw[←fW hj,x6 h1 h2]
theorem hZ(c:Nat):∀l:List Nat,(sp c l).length=l.count c+1
 |[]=>rfl
 |a::l=>by
  rw[sp];have ih:=hZ c l;split
  ·rename_i h;subst h;simp[ih]
  ·rename_i h
   split
   ·rename_i e;exact absurd e (sV c l)
   ·rename_i p r e
    rw[e]at ih;rw[List.count_cons_of_ne (fun z=>h z)];simpa using ih
theorem jG(c:Nat):∀{ps:List (List Nat)},ps≠[]→(jn c ps).length+1=(ps.map List.length).sum+ps.length
 |[],h=>absurd rfl h
 |[p],_=>by simp[jn]
 |p::q::r,_=>by
  have:=jG c (ps:=q::r) (by simp);rw[fM c p (by simp)];simp only[Zm,Yq,List.map_cons,List.sum_cons]at this ⊢
  lia
theorem wB(c:Nat):∀l:List Nat,jn c (sp c l)=l
 |[]=>rfl
 |a::l=>by
  have ih:=wB c l;rw[sp];split
  ·rename_i h
   subst h;rw[fM _ _ (sV _ _),ih];rfl
  ·split
   ·rename_i e;exact absurd e (sV c l)
   ·rename_i p r e
    rw[e]at ih;cases r with
    |nil=>rw[←ih];rfl
    |cons q r=>rw[fM _ _ (by simp)]at ih ⊢;rw[←ih];rfl
theorem zU(c:Nat):∀(l:List Nat) (p:List Nat),p∈sp c l→c∉p
 |[],p,h=>by
  rw[sp,Zb]at h;subst h;exact List.not_mem_nil
 |a::l,p,h=>by
  rw[sp]at h;split at h
  ·rcases Zn.mp h with rfl | h
   ·exact List.not_mem_nil
   ·exact zU c l p h
  ·rename_i ha
   split at h
   ·rename_i e;exact absurd e (sV c l)
   ·rename_i q r e
    rcases Zn.mp h with rfl | h
    ·intro z;rcases Zn.mp z with z | z
     ·exact ha z.symm
     ·exact zU c l q (by rw[e];exact Zd) z
    ·exact zU c l p (by rw[e];exact Zw _ h)
theorem K0:∀{l:List Nat}{a:Nat},a∈l→a≤l.sum
 |b::l,a,h=>by
  rw[List.sum_cons];rcases Zn.mp h with rfl | h
  ·lia
  ·have:=K0 h
   lia
theorem lU(c:Nat)(l:List Nat){p:List Nat}(h:p∈sp c l):p.length≤l.length:=by
 have e:=jG c (sV c l);rw[wB]at e;have h1:p.length≤((sp c l).map List.length).sum:=K0 (Yn h);have h2:1≤(sp c l).length:=by rw[hZ];lia
 lia
end TX
namespace L2
open PySem PySem.Spec PyProof.Rows TX
section
variable{X:Cx}
abbrev vx(l:List Nat):V:=.str (sT l)
abbrev vxs(ws:List (List Nat)):List V:=ws.map vx
theorem xW:∀{ws:List (List Nat)}{us:List Value},b7 (vxs ws) us→∃l:List (Str×Tok),us=strValues l∧l.map (·.1)=ws.map sT
 |[],_,.nil=>⟨[],rfl,rfl⟩
 |w::ws,_,.cons r t=>by
  obtain⟨l,rfl,e⟩:=xW t;obtain⟨k,rfl⟩:=(show ∃t,_=Value.str (sT w) t from r)
  exact⟨(sT w,k)::l,rfl,by rw[List.map_cons,e];rfl⟩
theorem nP:∀(l:List (Str×Tok)) {ws:List (List Nat)},l.map (·.1)=ws.map sT→b7 (vxs ws) (strValues l)
 |[],[],_=>.nil
 |[],_::_,e=>by cases e
 |_::_,[],e=>by cases e
 |(x,t)::l,w::ws,e=>by
  rw[List.map_cons,List.map_cons]at e;injection e with e1 e2;exact .cons ⟨t,by rw[show x=sT w from e1]⟩ (nP l e2)
def Q3:V→List V→Hp→VK→Prop:=fun x vs H Q=>∃(z y:Str) (l:List Nat) (c:Nat),x=.str z∧z=sT l∧vs=[.str y]∧y=sT [c]∧l.length≤1000000∧∀D,H D=none→Q (.ref D) (upd H D (.lst (vxs (sp c l))))
theorem gM:MtM X "str.split" Q3:=by
 intro pins s σ H x vs v us Q I rx rv h;obtain⟨z,y,l,c,rfl,rfl,rfl,rfl,hl,q⟩:=h;obtain⟨t,rfl⟩:=(show ∃t,v=Value.str (sT l) t from rx)
 obtain⟨u,rfl,ru⟩:=rv.one;obtain⟨t',rfl⟩:=(show ∃t,u=Value.str (sT [c]) t from ru)
 have h1:(sT l).length≤ZW:=by rw[cG];exact YQ hl (by decide)
 have sz:(sp c l).length≤ZW:=by
  rw[hZ];have:l.count c≤l.length:=List.count_le_length;exact YQ (by lia:l.count c+1≤1000001) (by decide)
 cases k1:(decide ((sT l).length<(sT [c]).length)||decide (Builtin.Str.strKind (sT l)<Builtin.Str.strKind (sT [c])))
 ·cases k2:(Builtin.Str.occurrences (sT l) (sT [c]) 0 (sT l).length ((sT l).length+1)).isEmpty
  ·have e:Txt.split (sT l) (sT [c])=Builtin.Str.partsBetween (sT l) (Builtin.Str.occurrences (sT l) (sT [c]) 0 (sT l).length ((sT l).length+1)) (sT [c]).length:=(if_neg (ne_true_of_eq_false k1)).trans (if_neg (ne_true_of_eq_false k2));have e2:=uW l c;refine call_meets F.slot_str_split (typeIs_str _ _ _) F.entry_str_split (F.args_str_split_2 _ _) (meets_str_split_sep (sT l) (sT [c]) t t' k1 rfl k2 h1 (by rw[←e,e2,Zq];exact sz)) ?_;show wants (EP X pins σ Q) X.xe _ { s with toks:=_,heap:=s.heap.push { cls:=.type "list",data:=.seq (strsFrom s.toks (Builtin.Str.partsBetween (sT l) (Builtin.Str.occurrences (sT l) (sT [c]) 0 (sT l).length ((sT l).length+1)) (sT [c]).length)).toArray } };rw[←e,e2,strsFrom_eq];exact⟨.ref _,_,I.lnew (nP _ (numbered_texts _ _)) (by rw[Zq];exact sz),rfl,q _ I.fresh⟩
  ·have e:Txt.split (sT l) (sT [c])=[sT l]:=(if_neg (ne_true_of_eq_false k1)).trans (if_pos k2);have e2:=(uW l c).symm.trans e;exact call_meets F.slot_str_split (typeIs_str _ _ _) F.entry_str_split (F.args_str_split_2 _ _) (meets_str_split_not_found (sT l) (sT [c]) t t' k1 rfl k2)
    ⟨.ref _,_,I.lnew (t':=s.toks) (nP [(sT l,t)] e2.symm) (by rw[Zq];exact sz),rfl,q _ I.fresh⟩
 ·have e:Txt.split (sT l) (sT [c])=[sT l]:=if_pos k1;have e2:=(uW l c).symm.trans e;exact call_meets F.slot_str_split (typeIs_str _ _ _) F.entry_str_split (F.args_str_split_2 _ _) (meets_str_split_cannot_occur (sT l) (sT [c]) t t' k1)
   ⟨.ref _,_,I.lnew (t':=s.toks) (nP [(sT l,t)] e2.symm) (by rw[Zq];exact sz),rfl,q _ I.fresh⟩
def rJoin(K:PySem.W.Frag):V→List V→Hp→VK→Prop:=fun x vs H Q=>∃(z:Str) (c:Nat) (p:Addr) (ws:List (List Nat)),x=.str z∧z=sT [c]∧vs=[.ref p]∧SqL K H p (vxs ws)∧(ws.map List.length).sum+ws.length≤1000000∧Q (vx (jn c ws)) H
theorem gG:MtM X "str.join" (rJoin X.K):=by
 intro pins s σ H x vs v us Q I rx rv h;obtain⟨z,c,p,ws,rfl,rfl,rfl,hp,hl,q⟩:=h;obtain⟨t,rfl⟩:=(show ∃t,v=Value.str (sT [c]) t from rx)
 obtain⟨u,rfl,ru⟩:=rv.one;cases ru;obtain⟨its,r,pl,hz⟩:=I.list hp;obtain⟨l,rfl,e⟩:=xW r;have el:(ws.map sT).map (fun x:Str=>x.length)=ws.map List.length:=by
  rw[Yb];exact Yp fun w _=>cG w
 refine SC.join pl.isList rfl ?_ fun t' k=>⟨vx (jn c ws),H,I.tok _,⟨t',?_⟩,q⟩
 ·unfold JoinOk;rw[StrLaws.joinTotal,e,el,Zq,cG];rw[Bool.not_eq_true'];unfold Builtin.Str.tooLong;exact decide_eq_false (by rw[sizeLine_eq];simp only[Yq,List.length_nil];lia)
 ·show Value.str (Txt.join (sT [c]) (l.map (·.1))) t'=Value.str (sT (jn c ws)) t';rw[e];show Value.str (Builtin.Str.glued (sT [c]) (ws.map sT)) t'=_;rw[StrLaws.glued_eq_join,AN]
def Q6:V→List V→Hp→VK→Prop:=fun x vs H Q=>∃z y:Str,x=.str z∧vs=[.str y]∧Q (.int (Txt.find z y)) H
theorem OF:MtM X "str.find" Q6:=by
 intro pins s σ H x vs v us Q I rx rv h;obtain⟨z,y,rfl,rfl,q⟩:=h;obtain⟨t,rfl⟩:=(show ∃t,v=Value.str z t from rx)
 obtain⟨u,rfl,ru⟩:=rv.one;obtain⟨t',rfl⟩:=(show ∃t,u=Value.str y t from ru)
 exact SC.find ⟨.int _,H,I.tok _,⟨_,rfl⟩,q⟩
def NK:V→List V→Hp→VK→Prop:=fun x vs H Q=>∃z y:Str,x=.str z∧vs=[.str y]∧Q (.bl (Txt.startswith z y)) H
theorem HE:MtM X "str.startswith" NK:=by
 intro pins s σ H x vs v us Q I rx rv h;obtain⟨z,y,rfl,rfl,q⟩:=h;obtain⟨t,rfl⟩:=(show ∃t,v=Value.str z t from rx)
 obtain⟨u,rfl,ru⟩:=rv.one;obtain⟨t',rfl⟩:=(show ∃t,u=Value.str y t from ru)
 exact SC.startswith ⟨.bl _,H,I,rfl,q⟩
theorem j8:gW X (.type "int") (fun xs H Q=>∃(z:Str) (n:Int),xs=[.str z]∧z.length≤640∧PySem.intText? z=some n∧Q (.int n) H):=by
 intro pins s σ H xs us Q I r h;obtain⟨z,n,rfl,hz,e,q⟩:=h;obtain⟨u,rfl,rx⟩:=vals1 r;obtain⟨t,rfl⟩:=(show ∃t,u=Value.str z t from rx)
 exact PySem.W.KIN.call_text e hz ⟨.int n,H,I.tok _,⟨_,rfl⟩,q⟩
end
end L2
namespace TX
open PySem PySem.Builtin PySem.Builtin.Str L2
def kY(l:List Nat)(lo hi:Option Int):List Nat:=(l.drop (HT.sIx l.length 0 lo)).take (HT.sIx l.length l.length hi-HT.sIx l.length 0 lo)
theorem L8(l:List Nat)(lo hi:Option Int):(kY l lo hi).length≤l.length:=by
 unfold kY;rw[Yx,Ym]
 lia
theorem idx_eq(lo hi:Option Int)(n:Nat):strSliceIndices lo hi 1 n=strSliceIndices (some ((HT.sIx n 0 lo:Nat):Int)) (some ((HT.sIx n n hi:Nat):Int)) 1 n:=by
 unfold strSliceIndices;have h1:=HT.rP n 0 (Nat.zero_le _) lo;have h2:=HT.rP n n (Nat.le_refl _) hi;simp only[show((1:Int)>0)=True from by simp,if_true];congr 1
 ·cases lo with
  |none=>show(0:Int)=_;simp only[HT.sIx]at h1 ⊢;simp;lia
  |some v =>
   simp only[HT.sIx]at h1 ⊢;by_cases hv:v<0
   ·simp only[hv,if_true]at h1 ⊢;lia
   ·simp only[hv,if_false]at h1 ⊢;lia
 ·cases hi with
  |none=>show(n:Int)=_;simp only[HT.sIx]at h2 ⊢;lia
  |some v =>
   simp only[HT.sIx]at h2 ⊢;by_cases hv:v<0
   ·simp only[hv,if_true]at h2 ⊢;lia
   ·simp only[hv,if_false]at h2 ⊢;lia
theorem LH{a b n:Nat}(h:b<a)(hn:a≤n):strSliceIndices (some (a:Int)) (some (b:Int)) 1 n=[]:=by
 have h1:¬((a:Int)<0):=by lia
 have h2:¬((b:Int)<0):=by lia
 have e1:max (0:Int) (min (a:Int) (n:Int))=a:=by lia
 have e2:max (0:Int) (min (b:Int) (n:Int))=b:=by lia
 simp only[strSliceIndices,sliceRange,h1,h2,if_false,e1,e2,show((1:Int)>0)=True from by simp,if_true];rw[if_neg (by lia)];rfl
theorem picked_eq(l:List Nat)(lo hi:Option Int):(strSliceIndices lo hi 1 l.length).filterMap (l[·]?)=kY l lo hi:=by
 rw[idx_eq];have h2:=HT.rP l.length l.length (Nat.le_refl _) hi;unfold kY;by_cases h:HT.sIx l.length 0 lo≤HT.sIx l.length l.length hi
 ·have:=StrLaws.sliced_plain (sT l) h (by rw[cG];exact h2);rw[cG,eZ]at this;rw[←this];simp[sT]
 ·have e:HT.sIx l.length l.length hi-HT.sIx l.length 0 lo=0:=by lia
  rw[e,List.take_zero];rw[LH (by lia) (HT.rP l.length 0 (Nat.zero_le _) lo)];rfl
theorem BK(l:List Nat)(lo hi:Option Int):Txt.slice (sT l) lo hi=sT (kY l lo hi):=by
 unfold Txt.slice;have e:(strSliceIndices lo hi 1 (sT l).length).filterMap ((sT l).cps[·]?)=kY l lo hi:=by
  rw[←picked_eq,cG];simp[sT]
 split
 ·rename_i h
  have hl:(strSliceIndices lo hi 1 l.length).length=l.length:=by
   simpa[cG] using h
  have h1:(kY l lo hi).length=l.length:=by
   unfold kY;rw[idx_eq]at hl;have a1:=HT.rP l.length 0 (Nat.zero_le _) lo;have a2:=HT.rP l.length l.length (Nat.le_refl _) hi;by_cases h:HT.sIx l.length 0 lo≤HT.sIx l.length l.length hi
   ·rw[StrLaws.strSliceIndices_plain h a2,Zq,Yj]at hl;rw[Yx,Ym]
    lia
   ·rw[LH (by lia) a1]at hl;have:l.length=0:=hl.symm
    lia
  have h2:kY l lo hi=l:=by
   have:(kY l lo hi).Sublist l:=((List.take_sublist _ _).trans (List.drop_sublist _ _))
   exact this.eq_of_length h1
  rw[h2]
 ·exact congrArg (fun z:List Nat=>(⟨z.toArray⟩:Str)) e
theorem kX(l:List Nat)(k:Nat):kY l none (some (k:Int))=l.take k:=by
 unfold kY;rw[HT.mC,HT.uF,List.drop_zero,Nat.sub_zero];by_cases h:k≤l.length
 ·rw[Nat.min_eq_left h]
 ·rw[Nat.min_eq_right (by lia),List.take_of_length_le (Nat.le_refl _),List.take_of_length_le (by lia)]
theorem fO(l:List Nat)(k:Nat):kY l (some (k:Int)) none=l.drop k:=by
 unfold kY;rw[HT.mC,HT.uF];by_cases h:k≤l.length
 ·rw[Nat.min_eq_left h,List.take_of_length_le (by rw[Ym];lia)]
 ·rw[Nat.min_eq_right (by lia),List.drop_of_length_le (Nat.le_refl _),List.drop_of_length_le (by lia),List.take_nil]
end TX
namespace L2
open PySem PySem.Spec PyProof.Rows TX
section
variable{X:Cx}
def VL:V→Option Int→Option Int→Hp→VK→Prop:=fun x lo hi H Q=>∃(z:Str) (l:List Nat),x=.str z∧z=sT l∧l.length≤1000000∧Q (vx (kY l lo hi)) H
theorem iA:SlR X VL:=by
 intro pins s σ H x v vl vu lo hi sl Q I rx hs pl pu h;obtain⟨z,l,rfl,rfl,hl,q⟩:=h;obtain⟨t,rfl⟩:=(show ∃t,v=Value.str (sT l) t from rx)
 refine⟨"str",_,F.slot_str_getitem.lookup,typeIs_str _ _ _,?_⟩;have fin:∀t' k,EP X pins σ Q (.str (Txt.slice (sT l) lo hi) t') { s with toks:=k }:=fun t' k=>⟨vx (kY l lo hi),H,I.tok _,⟨t',by rw[BK]⟩,q⟩
 have hz:(Txt.slice (sT l) lo hi).length≤ZW:=by
  rw[BK,cG];exact YQ (L8 l lo hi) (YQ hl (by decide))
 obtain⟨o,h1,h2,h3⟩:=hs;cases pl with
 |none =>
  cases pu with
  |none=>exact wpAny_getItem_str_slice (l:=none) (u:=none) (st:=none) ⟨o,h1,h2,h3⟩ rfl (post_val_or_str ⟨hz,fin⟩)
  |int j tj=>exact wpAny_getItem_str_slice (l:=none) (u:=some (j,tj)) (st:=none) ⟨o,h1,h2,h3⟩ rfl (post_val_or_str ⟨hz,fin⟩)
 |int i ti =>
  cases pu with
  |none=>exact wpAny_getItem_str_slice (l:=some (i,ti)) (u:=none) (st:=none) ⟨o,h1,h2,h3⟩ rfl (post_val_or_str ⟨hz,fin⟩)
  |int j tj=>exact wpAny_getItem_str_slice (l:=some (i,ti)) (u:=some (j,tj)) (st:=none) ⟨o,h1,h2,h3⟩ rfl (post_val_or_str ⟨hz,fin⟩)
def Itx(l:List Nat):It:=⟨fun i _=>i<l.length,fun i H x H'=>H'=H∧∃c,l[i]?=some c∧x=vx [c],fun i _=>l.length≤i⟩
theorem DS{P:Program}{w:World}{K:PySem.W.Frag}{tg:Expr}(it:Addr)(l:List Nat)(t:Tok):Turn P w K tg (Itx l) [it] it (fun i h=>h.IsStrIter it "str_ascii_iterator" (sT l) t i) where
 mem:=by simp
 obj:=fun i h st b hb=>by
  have e:b=it:=by simpa using hb
  subst e;obtain⟨o,e,c,d⟩:=st;exact⟨o,e,fun v z=>by rw[d]at z;cases z⟩
 keep:=fun i h h' st k=>let⟨o,ho,r⟩:=st;⟨o,k it (by simp) o ho,r⟩
 item:=by
  intro X hP hw hK hc i pins s σ H E I hf st hg;subst hP hw hK;have hg:i<l.length:=hg;obtain⟨f0,f1,f2,f3,f4,f5⟩:=hf it (by simp);refine wpAny_pyNext_ascii_item st (c:=l[i]) (by simp[sT,hg]) fun h' st' sb=>?_;have I1:Inv X pins σ H { s with heap:=h',toks:=s.toks+1 }:=I.turned (t':=s.toks+1) (fun b o hb e=>(sb.2 b hb).trans e) f0 f1 f3 f4 f5;obtain⟨o,e,c,d⟩:=id st';exact⟨_,rfl,LK (s:={ s with heap:=h',toks:=s.toks+1 }) e c d (by decide) ⟨vx [l[i]],H,I1,⟨_,rfl⟩,⟨rfl,_,Zz hg,rfl⟩,st',fun b hb=>(hf b hb).1⟩⟩
 done:=by
  intro X hP hw hK hc i pins s σ H E I hf st hg;subst hP hw hK;have hg:l.length≤i:=hg;obtain⟨f0,f1,f2,f3,f4,f5⟩:=hf it (by simp);exact wpAny_pyNext_ascii_end (I.ok.hd hc) st (by simp[sT];lia) fun h' eb=>⟨rfl,I.turned (t':=s.toks) (fun b o hb e=>eb b o hb e) f0 f1 f3 f4 f5⟩
 self:=fun _ _ _ _ _ st h=>wpAny_pyIter_striter_ascii st h
def VU(tl:TE):TI:=fun σ H R=>tl σ H fun x H1=>∃(z:Str) (l:List Nat),x=.str z∧z=sT l∧(∀c∈l,c<128)∧R (Itx l) H1
theorem JU{tg l:Expr}{tl:TE}(hl:PE X l tl):PI X tg l (VU tl):=by
 intro pins s σ H R I h;refine thn (hl pins s σ H _ I h) fun v s1 ⟨x,H1,I1,r1,q1⟩=>?_;obtain⟨z,l,rfl,rfl,ha,q⟩:=q1;obtain⟨t,rfl⟩:=(show ∃t,v=Value.str (sT l) t from r1)
 refine wpAny_pyIter_ascii (by rw[Array.all_eq_true'];intro c hc;exact decide_eq_true (ha c (by simpa[sT] using hc))) ?_;refine⟨s1.heap.objs.size,[s1.heap.objs.size],_,_,H1,rfl,I1.kept (t':=s1.toks) fun b o e=>Heap.get?_push_of_some _ e,DS _ l t,⟨_,Heap.get?_push_size _ rfl,rfl,rfl⟩,fun b hb=>?_,q⟩;have e:b=s1.heap.objs.size:=by simpa using hb
 subst e;exact I1.fpOk (Nat.le_refl _) (I1.hok.fresh (Nat.le_refl _))
theorem E3(l:List Nat):∀(n:Nat) (a:Array Nat),(List.replicate n l.toArray).foldl (·++·) a=a++(List.replicate n l).flatten.toArray
 |0,a=>by simp
 |n+1,a=>by
  rw[List.replicate_succ,List.foldl_cons,E3 l n,List.replicate_succ,List.flatten_cons];simp
theorem iJ:OpR X (binaryOp .Mult) (fun x y H Q=>∃(z:Str) (l:List Nat) (n:Nat),x=.str z∧z=sT l∧y=.int (n:Int)∧l.length*n≤1000000∧n≤1000000∧Q (vx (List.replicate n l).flatten) H):=by
 intro pins s σ H x y v u Q I rx ry h;obtain⟨z,l,n,rfl,rfl,rfl,hz,hn,q⟩:=h;obtain⟨t,rfl⟩:=(show ∃t,v=Value.str (sT l) t from rx)
 obtain⟨t',rfl⟩:=ry;refine SB.mul ⟨?_,fun h1 h2=>?_,fun h1 h2=>?_⟩ fun t2 k=>⟨vx (List.replicate n l).flatten,H,I.tok _,⟨t2,?_⟩,q⟩
 ·rw[decide_eq_false (by lia),decide_eq_false (by lia)];rfl
 ·rw[cG];have h3:1≤n:=by omega
  have h4:l.length≤l.length*n:=Nat.le_mul_of_pos_right _ h3;intro z;have h5:=Int.lt_iff_add_one_le.mp z;have h6:(2 ^ 63-1) / (n:Int)≥1000000:=by
   rw[ge_iff_le,Int.le_ediv_iff_mul_le (by omega)]
   lia
  lia
 ·rw[cG];unfold Builtin.Str.tooLong;exact decide_eq_false (by rw[sizeLine_eq,Int.toNat_natCast];lia)
 ·congr 1;unfold Txt.mul;by_cases h1:(n:Int)<1
  ·rw[if_pos h1];have:n=0:=by lia
   subst this;rfl
  ·rw[if_neg h1];split
   ·rename_i h2
    rw[Bool.or_eq_true,beq_iff_eq,beq_iff_eq,cG]at h2;rcases h2 with h2 | h2
    ·have:n=1:=by lia
     subst this;simp
    ·rw[List.eq_nil_of_length_eq_zero h2];simp
   ·rw[Int.toNat_natCast];show(⟨(List.replicate n l.toArray).foldl (·++·) #[]⟩:Str)=_;rw[E3];simp[sT]
end
end L2
namespace L2
open PySem PySem.Spec PyProof.Rows
theorem EH{X:Cx}{K:PySem.W.Frag}{o e:Expr}{es:List Expr}{to:TE}{t:TA}{name:Str}{apos cpos:Pos}{T id:String}{r:V→List V→Hp→VK→Prop}(hK:X.K=K)(pa:PlainAttrs T)(slot:Slot T name id)(hty:typeOf (.builtin id)=pure (.type "method_descriptor"))(hm:MtR X id r)(ho:PE X o to)(ha:PA X (e::es) t)
  (hbase:attributeBase o name X.env (eval o X.env)=eval o X.env:=by rfl)
  (hfew:((backTo cpos (starEach (e::es) X.env)).all (fun x=>!x.1)&&(backToKw cpos (keywordEach [] X.env)).all (fun x=>x.1.isSome)
   && decide ((e::es).length+([]:List Keyword).length+(if ([]:List Keyword).isEmpty then 0 else 1)<30))=true:=by rfl)
  (hline:(apos.endLine==cpos.line)=true:=by rfl) (hs:starEach (e::es) X.env=(false,eval e X.env)::starEach es X.env:=by rfl) (hplain:(backTo cpos (starEach es X.env)).any (·.1)=false:=by rfl) :
  PE X (.Call (.Attribute o name apos) (e::es) [] cpos) (tBM K T r to t):=by
 subst hK;exact lI pa slot hty hm ho ha hbase hfew hline hs hplain
section
variable{X:Cx}{pins:List (Addr×Obj)}{σ:St}{H:Hp}{s:Shared}{h':Heap}
end
section
variable{X:Cx}
end
end L2
namespace L2
open PySem PySem.Spec PyProof.Rows
end L2
namespace L2
open PySem PyProof.Rows
end L2
namespace SO
open PySem PyProof PyProof.Rows
structure Kept(k:SortKind)(z:Array Keyed)(t:SortSt):Prop where
 kd:kindOf t=k
 pm:(arrOf t).Perm z
 nf:failedOf t=none
 np:pendingOf t=#[]
def rk(ρ:Keyed→Int)(xs:Array Keyed)(i:Nat):Int:=(xs[i]?.map ρ).getD 0
def Up(ρ:Keyed→Int)(xs:Array Keyed)(m:Nat):Prop:=∀i j,i≤j→j<m→rk ρ xs i≤rk ρ xs j
def Dn(ρ:Keyed→Int)(xs:Array Keyed)(m:Nat):Prop:=∀i j,i≤j→j<m→rk ρ xs j≤rk ρ xs i
theorem BR{ρ:Keyed→Int}{xs ys:Array Keyed}{i j:Nat}(e:xs[i]?=ys[j]?):rk ρ xs i=rk ρ ys j:=by
 simp only[rk,e]
theorem yI{ρ:Keyed→Int}{xs:Array Keyed}{a d:Nat}(ha:a<xs.size)(hd:d≤a)(i:Nat) :
  rk ρ (bubble xs a d) i=if i=a-d then rk ρ xs a else if a-d<i∧i≤a then rk ρ xs (i-1) else rk ρ xs i:=by
 have e:=getElem?_bubble ha d hd i;split
 ·next q=>rw[if_pos q]at e;exact BR e
 ·next q =>
  rw[if_neg q]at e;split
  ·next q2=>rw[if_pos q2]at e;exact BR e
  ·next q2=>rw[if_neg q2]at e;exact BR e
theorem rR{ρ:Keyed→Int}{xs:Array Keyed}{a b:Nat}(hb:b≤xs.size)(i:Nat) :
  rk ρ (mirror xs a b ((b-a) / 2)) i=if a≤i∧i<b then rk ρ xs (a+b-1-i) else rk ρ xs i:=by
 have e:=getElem?_mirror_all (i:=a) hb i;split
 ·next q=>rw[if_pos q]at e;exact BR e
 ·next q=>rw[if_neg q]at e;exact BR e
theorem vG{ρ:Keyed→Int}{xs:Array Keyed}{a b:Nat}(hb:b≤xs.size)
  (h:∀i,a≤i→i<b→rk ρ xs i=rk ρ xs (b-1)) (i:Nat):rk ρ (mirror xs a b ((b-a) / 2)) i=rk ρ xs i:=by
 rw[rR hb];by_cases q:a≤i∧i<b
 ·rw[if_pos q];have h1:=h (a+b-1-i) (by omega) (by omega);have h2:=h i q.1 q.2
  lia
 ·rw[if_neg q]
def Tells(M:Model)(A:Around)(E:Value→Shared→Prop)(s:Shared)(k:SortKind)(z:Array Keyed)(ρ:Keyed→Int):Prop :=
 ∀(p q:Keyed) (t:SortSt) (Q:Option Bool→SortSt→Prop),p∈z.toList→q∈z.toList→kindOf t=k →
  Q (some (decide (ρ p<ρ q))) t→wpS M A E s (lt' p q) Q t
section
variable{M:Model}{A:Around}{E:Value→Shared→Prop}{s:Shared}{k:SortKind}{z:Array Keyed}{ρ:Keyed→Int}
theorem Kept.len{t:SortSt}(h:Kept k z t):(arrOf t).size=z.size:=h.pm.size_eq
theorem Kept.put{t:SortSt}(h:Kept k z t){xs:Array Keyed}(q:xs.Perm (arrOf t)):Kept k z (setArr t xs) :=
 ⟨h.kd,q.trans h.pm,h.nf,h.np⟩
theorem Kept.nth{t:SortSt}(h:Kept k z t){i:Nat}(hi:i<z.size) :
  ∃p,(arrOf t)[i]?=some p∧p∈z.toList∧rk ρ (arrOf t) i=ρ p:=by
 have hi':i<(arrOf t).size:=by rw[h.len];exact hi
 have e:(arrOf t)[i]?=some (arrOf t)[i]:=getElem?_pos _ i hi';refine⟨_,e,(Array.perm_iff_toList_perm.mp h.pm).mem_iff.mp (by simp),?_⟩;simp[rk,e]
theorem less(T:Tells M A E s k z ρ){t:SortSt}(h:Kept k z t){i j:Nat}(hi:i<z.size)(hj:j<z.size){Q:Option Bool→SortSt→Prop}
  (q:Q (some (decide (rk ρ (arrOf t) i<rk ρ (arrOf t) j))) t):wpS M A E s (ltAt' i j) Q t:=by
 obtain⟨a,ea,ma,ra⟩:=h.nth (ρ:=ρ) hi;obtain⟨b,eb,mb,rb⟩:=h.nth (ρ:=ρ) hj;rw[ra,rb]at q;rw[ltAt'_eq];refine wpS_bind (wpS_get ?_);have e1:elem' (arrOf t) i=pure a:=by rw[elem'_eq,ea]
 have e2:elem' (arrOf t) j=pure b:=by rw[elem'_eq,eb]
 show wpS M A E s (elem' (arrOf t) i >>= fun u=>elem' (arrOf t) j >>= fun v=>lt' u v) Q t;rw[e1,e2];exact wpS_bind (wpS_pure (wpS_bind (wpS_pure (T a b t Q ma mb h.kd q))))
def Slot(ρ:Keyed→Int)(xs:Array Keyed)(m l r:Nat):Prop :=
 l≤r∧r≤m∧(∀i,i<l→rk ρ xs i≤rk ρ xs m)∧(∀i,r≤i→i<m→rk ρ xs m<rk ρ xs i)
theorem Up.slotted{xs:Array Keyed}{m l:Nat}(hm:m<xs.size)(hu:Up ρ xs m)(h:Slot ρ xs m l l):Up ρ (bubble xs m (m-l)) (m+1):=by
 obtain⟨_,h2,h3,h4⟩:=h;intro i j hij hj;have el:m-(m-l)=l:=by lia
 rw[yI hm (by lia),yI hm (by lia),el];by_cases c1:i<l
 ·rw[if_neg (by lia),if_neg (by lia)];by_cases c2:j=l
  ·rw[if_pos c2];exact h3 i c1
  ·rw[if_neg c2];by_cases c3:l<j∧j≤m
   ·rw[if_pos c3];exact hu _ _ (by lia) (by omega)
   ·rw[if_neg c3];exact hu _ _ hij (by lia)
 ·by_cases c2:j=l
  ·have:i=l:=by lia
   rw[if_pos c2,if_pos this];exact Int.le_refl _
  ·rw[if_neg c2,if_pos (show l<j∧j≤m by lia)];by_cases c3:i=l
   ·rw[if_pos c3];exact Int.le_of_lt (h4 _ (by lia) (by lia))
   ·rw[if_neg c3,if_pos (by lia)];exact hu _ _ (by omega) (by lia)
theorem LC(T:Tells M A E s k z ρ){t:SortSt}{n d:Nat}(hn:n≤z.size)(hd:d≤n)(hK:Kept k z t)(hu:Up ρ (arrOf t) d)
  {Q:Bool→SortSt→Prop}(q:∀t',Kept k z t'→Up ρ (arrOf t') n→Q true t'):wpS M A E s (binarySort' 0 n d) Q t:=by
 rw[binarySort'_eq];simp only[Nat.zero_add];refine wpS_bind (wpS_mono (wpS_forRange (Q:=fun c t'=>c=(none,())∧Kept k z t'∧Up ρ (arrOf t') n)
  (fun m c t'=>c=(none,())∧Kept k z t'∧Up ρ (arrOf t') (min m n)) ?_ ?_ ?_) fun c t' h=>by obtain⟨rfl,a,b⟩:=h;exact wpS_pure (q t' a b))
 ·rintro m c t' h1 h2 ⟨rfl,hK',hu'⟩;rw[Nat.min_eq_left (by lia)]at hu';have hm:m<z.size:=by lia
  have hm':m<(arrOf t').size:=by rw[hK'.len];exact hm
  refine wpS_bind (wpS_mono (wpS_forRange (Q:=fun c t2=>t2=t'∧∃l,c=(none,l,l)∧Slot ρ (arrOf t') m l l)
   (fun x c t2=>t2=t'∧∃l r,c=(none,l,r)∧r-l≤m-x∧Slot ρ (arrOf t') m l r) ?_ ?_ ?_) ?_)
  ·rintro x c t2 _ hx ⟨rfl,l,r,rfl,hs,hS⟩;dsimp only;obtain⟨s1,s2,s3,s4⟩:=hS;by_cases hlr:l≥r
   ·rw[if_pos hlr];exact wpS_pure ⟨rfl,l,by rw[show r=l by lia],Nat.le_refl _,by lia,s3,fun i a b=>s4 i (by lia) b⟩
   ·rw[if_neg hlr];refine wpS_bind (less T hK' hm (show(l+r) / 2<z.size by lia) ?_);by_cases hc:rk ρ (arrOf t2) m<rk ρ (arrOf t2) ((l+r) / 2)
    ·rw[decide_eq_true hc];simp only[if_true];refine wpS_pure ⟨rfl,l,(l+r) / 2,rfl,by omega,by lia,by lia,s3,fun i a b=>?_⟩;exact Int.lt_of_lt_of_le hc (hu' _ _ a b)
    ·rw[decide_eq_false hc];simp only[Bool.false_eq_true,if_false];refine wpS_pure ⟨rfl,(l+r) / 2+1,r,rfl,by omega,by lia,by lia,fun i a=>?_,s4⟩;have:=hu' i ((l+r) / 2) (by lia) (by lia)
     lia
  ·rintro c t2 ⟨rfl,l,r,rfl,hs,hS⟩;have e:r=l:=by have:=hS.1;lia
   subst e;exact⟨rfl,_,rfl,hS⟩
  ·exact⟨rfl,0,m,rfl,by lia,by lia,by lia,fun i a=>by lia,fun i a b=>by lia⟩
  ·rintro c t2 ⟨rfl,l,rfl,hS⟩;dsimp only;rw[moveDown'_eq];refine wpS_bind (wpS_modify (wpS_pure ⟨rfl,hK'.put (bubble_perm _ _ _),?_⟩));rw[Nat.min_eq_left (by lia)];exact hu'.slotted hm' hS
 ·rintro c t' ⟨e,hK',hu'⟩;refine⟨e,hK',?_⟩
  rwa [show min (max (max d 1) n) n=n by lia]at hu'
 ·refine⟨rfl,hK,fun i j hij hj=>?_⟩;by_cases hd0:d=0
  ·rw[show i=j by lia];exact Int.le_refl _
  ·exact hu i j hij (by lia)
end
end SO
namespace SO
open PySem PyProof PyProof.Rows
section
variable{prog:Program}{w:World}{A:Around}{E:Value→Shared→Prop}{s:Shared}{k:SortKind}{z:Array Keyed}{ρ:Keyed→Int}
theorem Up.one(xs:Array Keyed){m:Nat}(h:m≤1):Up ρ xs m:=fun i j a b=>by
 rw[show i=j by lia];exact Int.le_refl _
theorem Up.more{xs:Array Keyed}{m:Nat}(hu:Up ρ xs m)(h:¬rk ρ xs m<rk ρ xs (m-1)):Up ρ xs (m+1):=by
 intro i j a b;by_cases c:j<m
 ·exact hu i j a c
 ·rw[show j=m by lia];by_cases c2:i=m
  ·rw[c2];exact Int.le_refl _
  ·have:=hu i (m-1) (by lia) (by lia);lia
theorem Dn.more{xs:Array Keyed}{m:Nat}(hu:Dn ρ xs m)(h:rk ρ xs m≤rk ρ xs (m-1)):Dn ρ xs (m+1):=by
 intro i j a b;by_cases c:j<m
 ·exact hu i j a c
 ·rw[show j=m by lia];by_cases c2:i=m
  ·rw[c2];exact Int.le_refl _
  ·have:=hu i (m-1) (by lia) (by lia);lia
theorem Dn.same{xs ys:Array Keyed}{m:Nat}(hu:Dn ρ xs m)(h:∀i,rk ρ ys i=rk ρ xs i):Dn ρ ys m:=fun i j a b=>by
 rw[h,h];exact hu i j a b
theorem Dn.turned{xs:Array Keyed}{m:Nat}(hm:m≤xs.size)(hu:Dn ρ xs m):Up ρ (mirror xs 0 m ((m-0) / 2)) m:=fun i j a b=>by
 rw[rR hm,rR hm,if_pos (by lia),if_pos (by lia)];exact hu _ _ (by omega) (by omega)
theorem rising(T:Tells (model prog w) A E s k z ρ){t:SortSt}{a n:Nat}(hn:n≤z.size)(h1:1≤a)(h2:a≤n)(hK:Kept k z t)(hu:Up ρ (arrOf t) a)
  {Q:AscSt→SortSt→Prop}
  (q:∀m,a≤m→m≤n→Up ρ (arrOf t) m→(m=n∨rk ρ (arrOf t) m<rk ρ (arrOf t) (m-1))→Q (none,m) t) :
  wpS (model prog w) A E s (ascLoop a n) Q t:=by
 unfold ascLoop;refine wpS_forRange (fun x c t'=>c=(none,x)∧t'=t∧Up ρ (arrOf t) x) ?_ ?_ ⟨rfl,rfl,hu⟩
 ·rintro x c t' g1 g2 ⟨rfl,rfl,hx⟩;dsimp only;refine wpS_bind (less T hK (show x<z.size by lia) (show x-1<z.size by lia) ?_);by_cases c:rk ρ (arrOf t') x<rk ρ (arrOf t') (x-1)
  ·rw[decide_eq_true c];simp only[if_true];exact wpS_pure (q x g1 (by lia) hx (Or.inr c))
  ·rw[decide_eq_false c];simp only[Bool.false_eq_true,if_false];exact wpS_pure ⟨rfl,rfl,hx.more c⟩
 ·rintro c t' ⟨rfl,rfl,hx⟩;have e:max a n=n:=by lia
  rw[e]at hx ⊢;exact q n h2 (Nat.le_refl _) hx (Or.inl rfl)
def Flat(ρ:Keyed→Int)(xs:Array Keyed)(m e:Nat):Prop:=e+1≤m∧∀i,m-(e+1)≤i→i<m→rk ρ xs i=rk ρ xs (m-1)
theorem Flat.nought(xs:Array Keyed){m:Nat}(h:1≤m):Flat ρ xs m 0:=⟨h,fun i a b=>by rw[show i=m-1 by lia]⟩
theorem Flat.more{xs:Array Keyed}{m e:Nat}(h:Flat ρ xs m e)(g:rk ρ xs m=rk ρ xs (m-1)):Flat ρ xs (m+1) (e+1) :=
 ⟨by have:=h.1;lia,fun i a b=>by
  rw[show m+1-1=m by lia];by_cases c:i=m
  ·rw[c]
  ·rw[g];exact h.2 i (by lia) (by lia)⟩
theorem back(T:Tells (model prog w) A E s k z ρ){t:SortSt}{m n:Nat}(hn:n≤z.size)(h1:1≤m)(h2:m≤n)(hK:Kept k z t)(hd:Dn ρ (arrOf t) m)
  {Q:Option Nat→SortSt→Prop}(q:∀m' t',1≤m'→m'≤n→Kept k z t'→Up ρ (arrOf t') m'→Q (some m') t') :
  wpS (model prog w) A E s (tail3 m n) Q t:=by
 unfold tail3;have hs:m≤(arrOf t).size:=by rw[hK.len];lia
 refine wpS_bind (wpS_reverse ?_);have hK':=hK.put (mirror_perm (arrOf t) 0 m ((m-0) / 2));refine wpS_bind (rising T hn h1 h2 hK' (hd.turned hs) fun m' g1 g2 g3 _=>?_);exact wpS_pure (q m' _ (by lia) g2 hK' g3)
theorem OU(T:Tells (model prog w) A E s k z ρ){t:SortSt}{m n:Nat}(hn:n≤z.size)(h1:1≤m)(h2:m≤n)(hK:Kept k z t)(hd:Dn ρ (arrOf t) m)
  {Q:DescSt→SortSt→Prop}
  (q:∀m' e t',1≤m'→m'≤n→Kept k z t'→Dn ρ (arrOf t') m'→Flat ρ (arrOf t') m' e→Q (none,m',e) t') :
  wpS (model prog w) A E s (descLoop m n) Q t:=by
 unfold descLoop;refine wpS_forRange (fun x c t'=>∃e,c=(none,x,e)∧Kept k z t'∧Dn ρ (arrOf t') x∧Flat ρ (arrOf t') x e) ?_ ?_ ⟨0,rfl,hK,hd,Flat.nought _ h1⟩
 ·rintro x c t' g1 g2 ⟨e,rfl,hK',hx,hF⟩;dsimp only;have hs:x≤(arrOf t').size:=by rw[hK'.len];lia
  refine wpS_bind (less T hK' (show x<z.size by lia) (show x-1<z.size by lia) ?_);by_cases c:rk ρ (arrOf t') x<rk ρ (arrOf t') (x-1)
  ·rw[decide_eq_true c];simp only[if_true];have hm:=hx.more (Int.le_of_lt c);by_cases c2:e>0
   ·rw[if_pos c2];refine wpS_bind (wpS_reverse (wpS_pure ⟨0,rfl,hK'.put (mirror_perm _ _ _ _),hm.same (vG hs hF.2),Flat.nought _ (by lia)⟩))
   ·rw[if_neg c2];exact wpS_pure ⟨0,rfl,hK',hm,Flat.nought _ (by lia)⟩
  ·rw[decide_eq_false c];simp only[Bool.false_eq_true,if_false];refine wpS_bind (less T hK' (show x-1<z.size by lia) (show x<z.size by lia) ?_);by_cases c2:rk ρ (arrOf t') (x-1)<rk ρ (arrOf t') x
   ·rw[decide_eq_true c2];simp only[if_true];exact wpS_pure (q x e t' (by lia) (by lia) hK' hx hF)
   ·rw[decide_eq_false c2];simp only[Bool.false_eq_true,if_false];have e2:rk ρ (arrOf t') x=rk ρ (arrOf t') (x-1):=by lia
    exact wpS_pure ⟨e+1,rfl,hK',hx.more (by lia),hF.more e2⟩
 ·rintro c t' ⟨e,rfl,hK',hx,hF⟩;have e2:max m n=n:=by lia
  rw[e2]at hx hF ⊢;exact q n e t' (by lia) (Nat.le_refl _) hK' hx hF
theorem LR(T:Tells (model prog w) A E s k z ρ){t:SortSt}{m n:Nat}(hn:n≤z.size)(h2:m+1≤n)(hK:Kept k z t)(hd:Dn ρ (arrOf t) (m+1))
  {Q:Option Nat→SortSt→Prop}(q:∀m' t',1≤m'→m'≤n→Kept k z t'→Up ρ (arrOf t') m'→Q (some m') t') :
  wpS (model prog w) A E s (descPart m n) Q t:=by
 unfold descPart;refine wpS_bind (wpS_lift (wpAny_rule ⟨rfl,?_⟩));refine wpS_bind (OU T hn (by lia) h2 hK hd fun m' e t' g1 g2 g3 g4 g5=>?_);dsimp only;have hs:m'≤(arrOf t').size:=by rw[g3.len];lia
 by_cases c:e>0
 ·rw[if_pos c];exact wpS_bind (wpS_reverse (back T hn g1 g2 (g3.put (mirror_perm _ _ _ _)) (g4.same (vG hs g5.2)) q))
 ·rw[if_neg c];exact back T hn g1 g2 g3 g4 q
theorem run(T:Tells (model prog w) A E s k z ρ){t:SortSt}{n:Nat}(hn:n≤z.size)(h1:1≤n)(hK:Kept k z t)
  {Q:Option Nat→SortSt→Prop}(q:∀m' t',1≤m'→m'≤n→Kept k z t'→Up ρ (arrOf t') m'→Q (some m') t') :
  wpS (model prog w) A E s (countRun' 0 n) Q t:=by
 rw[countRun0_eq];refine wpS_bind (rising T hn (Nat.le_refl 1) h1 hK (Up.one _ (Nat.le_refl 1)) fun m g1 g2 g3 g4=>?_);dsimp only;by_cases c:m=n
 ·rw[if_pos (by simpa using c)];exact wpS_pure (q m t g1 g2 hK g3)
 rw[if_neg (by simpa using c)];have lt:=g4.resolve_left c;have hs:m≤(arrOf t).size:=by rw[hK.len];lia
 by_cases c2:m>1
 ·rw[if_pos c2];refine wpS_bind (less T hK (show 0<z.size by lia) (show m-1<z.size by lia) ?_);by_cases c3:rk ρ (arrOf t) 0<rk ρ (arrOf t) (m-1)
  ·rw[decide_eq_true c3];simp only[if_true];exact wpS_pure (q m t g1 g2 hK g3)
  ·rw[decide_eq_false c3];simp only[Bool.false_eq_true,if_false];have lev:∀i,0≤i→i<m→rk ρ (arrOf t) i=rk ρ (arrOf t) (m-1):=fun i _ b=>by
    have a1:=g3 0 i (by lia) b;have a2:=g3 i (m-1) (by lia) (by lia)
    lia
   have hd:Dn ρ (arrOf t) m:=fun i j a b=>by
    rw[lev i (by lia) (by lia),lev j (by lia) b];exact Int.le_refl _
   exact wpS_bind (wpS_reverse (LR T hn (by lia) (hK.put (mirror_perm _ _ _ _)) ((hd.more (Int.le_of_lt lt)).same (vG hs lev)) q))
 ·rw[if_neg c2];have e:m=1:=by lia
  have hd:Dn ρ (arrOf t) m:=fun i j a b=>by rw[show i=j by lia];exact Int.le_refl _
  exact LR T hn (by lia) hK (hd.more (Int.le_of_lt lt)) q
end
end SO
namespace SO
open PySem PyProof PyProof.Rows
section
variable{prog:Program}{w:World}{A:Around}{E:Value→Shared→Prop}{s:Shared}{k:SortKind}{z:Array Keyed}{ρ:Keyed→Int}
def MQ(ρ:Keyed→Int)(z:Array Keyed)(t:SortSt):Prop :=
 (arrOf t).Perm z∧Up ρ (arrOf t) z.size∧failedOf t=none∧(pendingOf t).size≤1
theorem Kept.ended{t:SortSt}(h:Kept k z t)(hu:Up ρ (arrOf t) z.size)(x:Nat×Nat×Nat):MQ ρ z (setPending t ((pendingOf t).push x)):=by
 refine⟨h.pm,hu,h.nf,?_⟩;show((pendingOf t).push x).size≤1;rw[h.np];exact Nat.le_refl 1
theorem ordered(T:Tells (model prog w) A E s k z ρ){t:SortSt}(h2:2≤z.size)(h64:z.size<64)(hK:Kept k z t)
  {Q:Unit→SortSt→Prop}(q:∀t',(arrOf t').Perm z→failedOf t'=none→Up ρ (arrOf t') z.size→Q () t') :
  wpS (model prog w) A E s sortRuns' Q t:=by
 have least:minRun' z.size z.size 0=z.size:=by
  cases e:z.size with
  |zero=>lia
  |succ f=>rw[e]at h64;rw[minRun'_succ,if_pos h64]
 rw[sortRuns'_eq];refine wpS_bind (wpS_get ?_);dsimp only;simp only[hK.len,least];refine wpS_bind (wpS_mono (wpS_forRange (Q:=fun c t'=>c=(none,z.size)∧MQ ρ z t')
  (fun x c t'=>(x=0∧c=(none,0)∧Kept k z t')∨(0<x∧c=(none,z.size)∧MQ ρ z t')) ?_ ?_ ?_) ?_)
 ·rintro x c t' _ hx (⟨rfl,rfl,hK'⟩ | ⟨g,rfl,hE⟩)
  ·dsimp only;rw[if_neg (by lia)];simp only[Nat.sub_zero,Nat.min_self,Nat.zero_add];refine wpS_bind (run T (Nat.le_refl _) (by lia) hK' fun m t2 g1 g2 g3 g4=>?_);dsimp only;by_cases c:m<z.size
   ·rw[if_pos c];refine wpS_bind (wpS_lift (wpAny_rule ⟨rfl,?_⟩));refine wpS_bind (LC T (Nat.le_refl _) g2 g3 g4 fun t3 g5 g6=>?_);simp only[Bool.not_true,Bool.false_eq_true,if_false];refine wpS_bind (wpS_get ?_);have e:(pendingOf t3).back?=none:=by rw[g5.np];rfl
    rw[e];exact wpS_bind (wpS_modify (wpS_pure (Or.inr ⟨by lia,rfl,g5.ended g6 _⟩)))
   ·rw[if_neg c];have e1:m=z.size:=by lia
    subst e1;refine wpS_bind (wpS_get ?_);have e:(pendingOf t2).back?=none:=by rw[g3.np];rfl
    rw[e];exact wpS_bind (wpS_modify (wpS_pure (Or.inr ⟨by lia,rfl,g3.ended g4 _⟩)))
  ·dsimp only;rw[if_pos (Nat.le_refl _)];exact wpS_pure ⟨rfl,hE⟩
 ·rintro c t' (⟨g,_,_⟩ | ⟨_,e,hE⟩)
  ·lia
  ·exact⟨e,hE⟩
 ·exact Or.inl ⟨rfl,rfl,hK⟩
 ·rintro c t' ⟨rfl,hE⟩;dsimp only;refine wpS_bind (wpS_mono (wpS_forRange (Q:=fun c t2=>c=(none,())∧t2=t') (fun _ c t2=>c=(none,())∧t2=t') ?_ (fun _ _ h=>h) ⟨rfl,rfl⟩) ?_)
  ·rintro x c t2 _ _ ⟨rfl,rfl⟩;refine wpS_bind (wpS_get ?_);rw[if_pos hE.2.2.2];exact wpS_pure ⟨rfl,rfl⟩
  ·rintro c t2 ⟨rfl,rfl⟩;exact wpS_pure (q _ hE.1 hE.2.2.1 hE.2.1)
def DF(h:Heap)(a:Addr)(vs:List Value):Heap :=
 ((h.update a (Obj.mapSeq fun _=>#[])).push (seqObj "tuple" vs.toArray 0)).push (seqObj "list" #[] 0)
abbrev dW(vs:List Value):Array Keyed:=vs.toArray.zip vs.toArray
theorem gJ(vs:List Value):(dW vs).size=vs.length:=by simp[dW]
theorem GT{a:Addr}{vs:List Value}{n:Nat}{P:Fin→Shared→Prop}(ho:s.heap.get? a=some (seqObj "list" vs.toArray n))(h64:vs.length<64)
  (hk:2≤vs.length→∀{Q:SortKind→Shared→Prop},Q k { s with heap:=DF s.heap a vs }→wpAny (model prog w) A (keyKind' vs.toArray) Q E { s with heap:=DF s.heap a vs })
  (T:Tells (model prog w) A (fun _ _=>False) { s with heap:=DF s.heap a vs } k (dW vs) ρ)
  (h:∀xs:Array Keyed,xs.Perm (dW vs)→Up ρ xs vs.length→P (.done (.ret .none)) { s with heap:=sortedHeap s.heap a vs (xs.map (·.2)) }) :
  wpAny (model prog w) A (Builtin.«list.sort» ⟨[.ref a],[]⟩) P E s:=by
 have ha:a<s.heap.objs.size:=Heap.lt_size ho;obtain⟨n1,ho1⟩:∃n1,(s.heap.update a (Obj.mapSeq fun _=>#[])).get? a=some (seqObj "list" #[] n1):=⟨_,get?_update_seq ho (fun _=>#[])⟩
 have ho2:(DF s.heap a vs).get? a=some (seqObj "list" #[] n1):=Heap.get?_push_of_some _ (Heap.get?_push_of_some _ ho1);have room:∀xs:Array Keyed,xs.Perm (dW vs)→(xs.map (·.2)).size≤ZW+1:=fun xs p=>by
  rw[Array.size_map,p.size_eq,gJ,sizeLine_eq];lia
 rw[list_sort_plain];refine ZZ (listItems_at ho rfl ?_);refine ZZ (listUpdate_at ho rfl ?_);refine ZZ (seqEpoch_at ho1 rfl ?_);refine ZZ (wpAny_newTuple ?_);refine ZZ (wpAny_newList ?_);refine ZU ?_;show wpAny (model prog w) A _ P E { s with heap:=DF s.heap a vs };dsimp only;have last:∀t:SortSt,(arrOf t).Perm (dW vs)→failedOf t=none→Up ρ (arrOf t) vs.length →
   wpAny (model prog w) A (do
    let out:=(arrOf t).map (·.2)
    let touched:=(←seqEpoch a) != n1
    Builtin.List.listUpdate (.ref a) fun _=>out
    if let some e:=failedOf t then rule "list.sort.comparison-raised";throw e
    if touched then rule "list.sort.modified";raiseError "ValueError" "list modified during sort"
    ret .none) P E { s with heap:=DF s.heap a vs }:=by
  intro t p f u;refine ZZ (seqEpoch_at ho2 rfl ?_);refine ZZ (listUpdate_at ho2 rfl ?_ (hsz2:=room _ p));rw[f];simp only[bne_self_eq_false,Bool.false_eq_true,if_false];exact ZY (h _ p u)
 by_cases c:vs.length<2
 ·have c':vs.toArray.size<2:=by simpa using c
  rw[if_pos c',if_pos c'];refine ZZ (ZY ?_);rw[StateT.run_pure];refine ZZ (ZY ?_);exact last (SortSt.mk' general' (dW vs) #[] 7 none) (Array.Perm.refl _) rfl (Up.one _ (by lia))
 ·have c':¬vs.toArray.size<2:=by simpa using c
  rw[if_neg c',if_neg c'];refine ZZ (hk (by lia) ?_);refine ZZ (ZX (ordered (Q:=fun _ t=>(arrOf t).Perm (dW vs)∧failedOf t=none∧Up ρ (arrOf t) (dW vs).size) T
   (t:=SortSt.mk' k (dW vs) #[] 7 none) (by rw[gJ];lia) (by rw[gJ];exact h64) ⟨rfl,Array.Perm.refl _,rfl,rfl⟩
   fun t' a1 a2 a3=>⟨a1,a2,a3⟩) ?_ fun _ _ e=>e.elim)
  rintro⟨⟨⟩,t⟩ s' ⟨rfl,p,f,u⟩;rw[gJ]at u;exact last t p f u
end
end SO
namespace SO
def lx:List Int→List Int→Bool
 |[],[]=>false
 |[],_::_=>true
 |_::_,[]=>false
 |a::x,b::y=>if a=b then lx x y else decide (a<b)
theorem FI:∀x:List Int,lx x x=false
 |[]=>rfl
 |a::x=>by unfold lx;rw[if_pos rfl];exact FI x
theorem vW:∀x y u:List Int,lx x y=true→lx y u=true→lx x u=true
 |[],[],_,h,_=>by simp[lx]at h
 |[],_::_,[],_,h=>by simp[lx]at h
 |[],_::_,_::_,_,_=>rfl
 |_::_,[],_,h,_=>by simp[lx]at h
 |_::_,_::_,[],_,h=>by simp[lx]at h
 |a::x,b::y,c::u,h1,h2=>by
  unfold lx at h1 h2 ⊢;by_cases e1:a=b
  ·rw[if_pos e1]at h1;by_cases e2:b=c
   ·rw[if_pos e2]at h2;rw[if_pos (e1.trans e2)];exact vW x y u h1 h2
   ·rw[if_neg e2]at h2;rw[if_neg (by lia)];rw[e1];exact h2
  ·rw[if_neg e1]at h1;have l1:=of_decide_eq_true h1;by_cases e2:b=c
   ·rw[if_neg (by lia)];exact decide_eq_true (by lia)
   ·rw[if_neg e2]at h2;have l2:=of_decide_eq_true h2;rw[if_neg (by lia)];exact decide_eq_true (by lia)
theorem B7:∀x y:List Int,lx x y=false→lx y x=false→x=y
 |[],[],_,_=>rfl
 |[],_::_,h,_=>by simp[lx]at h
 |_::_,[],_,h=>by simp[lx]at h
 |a::x,b::y,h1,h2=>by
  unfold lx at h1 h2;by_cases e:a=b
  ·rw[if_pos e]at h1;rw[if_pos e.symm]at h2;rw[e,B7 x y h1 h2]
  ·rw[if_neg e]at h1;rw[if_neg (fun g=>e g.symm)]at h2;have l1:=of_decide_eq_false h1;have l2:=of_decide_eq_false h2;lia
def place(L:List (List Int))(x:List Int):Nat:=L.countP fun y=>lx y x
theorem JT(L:List (List Int)){x y:List Int}(h:lx x y=true):place L x≤place L y :=
 List.countP_mono_left fun u _ g=>vW u x y g h
theorem place_lt:∀(L:List (List Int)) {x y:List Int},x∈L→lx x y=true→place L x<place L y
 |[],_,_,m,_=>by cases m
 |u::L,x,y,m,h=>by
  unfold place;rw[List.countP_cons,List.countP_cons];have a:=JT L h;unfold place at a;by_cases e:u=x
  ·subst e;rw[FI,h];simp;lia
  ·have b:=place_lt L (x:=x) (y:=y) (by cases m with | head=>exact absurd rfl e | tail _ g=>exact g) h;unfold place at b;by_cases g:lx u x=true
   ·rw[g,vW _ _ _ g h];simp;lia
   ·have g':lx u x=false:=by simpa using g
    rw[g'];simp;lia
theorem yK(L:List (List Int)){x y:List Int}(hx:x∈L)(hy:y∈L):decide ((place L x:Int)<place L y)=lx x y:=by
 cases h:lx x y with
 |true=>exact decide_eq_true (by have:=place_lt L hx h;lia)
 |false =>
  refine decide_eq_false ?_;cases g:lx y x with
  |true=>have:=place_lt L hy g;lia
  |false=>rw[B7 x y h g];lia
end SO
namespace SO
open PySem PyProof PyProof.Rows
section
variable{prog:Program}{w:World}{A:Around}{E:Value→Shared→Prop}{s:Shared}
theorem N1(b:Bool){x y:Int}{t u:Tok}{Q:Bool→Shared→Prop}(h:Q (decide (x<y)) s):wpAny (model prog w) A (oneLt' b (.int x t) (.int y u)) Q E s:=by
 cases b with
 |true=>exact oneLt_int h
 |false=>exact PySem.W.kat_one _ _ (wpAny_lt_int h)
theorem B8{b fin:Bool}{Q:Bool→Shared→Prop}:∀{xs ys:List Value}{ns ms:List Int}(i:Nat),IntsAre xs ns→IntsAre ys ms →
  fin=decide (ns.length<ms.length)→Q (lx ns ms) s→PySem.W.KatLex prog w A b fin Q (xs.zip ys) i s
 |_,_,_,_,i,.nil,.nil,e,q=>by subst e;exact PySem.W.kat_nil q
 |_,_,_,_,i,.nil,.cons _ _ _,e,q=>by
  subst e;refine PySem.W.kat_nil ?_;rw[decide_eq_true (by simp)];exact q
 |_,_,_,_,i,.cons _ _ _,.nil,e,q=>by
  subst e;refine PySem.W.kat_nil ?_;rw[decide_eq_false (by simp)];exact q
 |_,_,_,_,i,.cons (vs:=xs) (ns:=ns) n t hx,.cons (vs:=ys) (ns:=ms) m u hy,e,q=>by
  rw[List.zip_cons_cons];refine PySem.W.kat_cons (wpAny_eqBool_int ?_);unfold lx at q;by_cases c:n=m
  ·rw[if_pos c]at q;rw[show(n==m)=true by simpa using c];refine PySem.W.kat_yes (B8 (i+1) hx hy ?_ q);rw[e];simp
  ·rw[if_neg c]at q;rw[show(n==m)=false by simpa using c];exact PySem.W.kat_no (N1 _ q)
def EU(h:Heap)(vs:List Value)(kf:Value→List Int):Prop :=
 ∀v∈vs,∃a o xs n,v=.ref a∧h.get? a=some o∧o.cls=.type "tuple"∧o.data=.seq xs n∧IntsAre xs.toList (kf v)
def rank(vs:List Value)(kf:Value→List Int)(p:Keyed):Int:=place (vs.map kf) (kf p.1)
theorem oH{vs:List Value}{p:Keyed}(h:p∈(dW vs).toList):p.1∈vs:=by
 have:p∈vs.zip vs:=by simpa[dW] using h
 exact(List.of_mem_zip (a:=p.1) (b:=p.2) this).1
theorem wF{xs:List Value}{ns:List Int}(h:IntsAre xs ns):xs.length=ns.length:=by
 induction h with
 |nil=>rfl
 |cons _ _ _ ih=>simp[ih]
theorem DU{vs:List Value}{kf:Value→List Int}{b:Bool}(h:EU s.heap vs kf):Tells (model prog w) A E s (tuples' b) (dW vs) (rank vs kf):=by
 intro p q t Q hp hq hk hQ;have mp:=oH hp;have mq:=oH hq;obtain⟨a,o,xs,n,e1,g1,_,d1,i1⟩:=h _ mp;obtain⟨a',o',xs',n',e2,g2,_,d2,i2⟩:=h _ mq;have r:decide (rank vs kf p<rank vs kf q)=lx (kf p.1) (kf q.1):=yK _ (Yn mp) (Yn mq);rw[r]at hQ;rw[lt'_eq];refine wpS_bind (wpS_get ?_);rw[hk,e1,e2];refine wpS_bind (wpS_lift (wpAny_attempt (PySem.W.kat_lt g1 d1 g2 d2 (B8 0 i1 i2 ?_ ⟨rfl,?_⟩))))
 ·have l1:=wF i1;have l2:=wF i2;simp only[Array.length_toList]at l1 l2;rw[l1,l2]
 ·exact wpS_pure hQ
end
end SO
namespace SO
open PySem PyProof PyProof.Rows
open AutoSeq1 (wpAny_loadPart')
theorem FR:∀{xs:List Value}{ns:List Int},IntsAre xs ns→∀i,i<xs.length→∃n t,xs[i]?=some (.int n t)∧ns[i]?=some n
 |_,_,.nil,i,h=>by simp at h
 |_,_,.cons n t _,0,_=>⟨n,t,rfl,rfl⟩
 |_,_,.cons _ _ r,i+1,h=>by
  obtain⟨n,t,e1,e2⟩:=FR r i (by simpa using h);exact⟨n,t,by simpa using e1,by simpa using e2⟩
theorem DX:PySem.Slot "list" "__lt__" "list.__lt__":=PySem.F.slot_list_lt
section
variable{prog:Program}{w:World}{A:Around}{E:Value→Shared→Prop}{s:Shared}
end
end SO
namespace SO
open PySem PyProof PyProof.Rows
theorem BD:∀vs:List Value,vs.zip vs=vs.map fun v=>(v,v)
 |[]=>rfl
 |v::vs=>by rw[List.zip_cons_cons,BD vs];rfl
theorem sR(vs:List Value):(dW vs).toList=vs.map fun v=>(v,v):=by
 rw[←BD];simp[dW]
theorem twice{vs:List Value}{q:Keyed}(h:q∈(dW vs).toList):q.2=q.1:=by
 rw[sR]at h;obtain⟨v,_,rfl⟩:=Zh.mp h;rfl
theorem MB{vs:List Value}{kf:Value→List Int}{xs:Array Keyed}(p:xs.Perm (dW vs))(u:Up (rank vs kf) xs vs.length) :
  (xs.map (·.2)).toList.Perm vs∧(xs.map (·.2)).toList.Pairwise fun a b=>lx (kf b) (kf a)=false:=by
 have pl:=Array.perm_iff_toList_perm.mp p;constructor
 ·have e:=pl.map (·.2);rw[sR,Yb]at e;have e2:vs.map ((fun q:Keyed=>q.2)∘fun v=>(v,v))=vs:=by
   have:((fun q:Keyed=>q.2)∘fun v:Value=>(v,v))=id:=rfl;rw[this,List.map_id]
  rw[e2]at e;rw[Array.toList_map];exact e
 ·rw[Array.toList_map,List.pairwise_map,List.pairwise_iff_getElem];intro i j hi hj hij;have z:xs.size=vs.length:=by rw[p.size_eq,gJ]
  have hi':i<xs.size:=by simpa using hi
  have hj':j<xs.size:=by simpa using hj
  have r:=u i j (by lia) (by lia);have mi:xs[i]∈(dW vs).toList:=pl.mem_iff.mp (by simp);have mj:xs[j]∈(dW vs).toList:=pl.mem_iff.mp (by simp);have ri:rk (rank vs kf) xs i=rank vs kf xs[i]:=by simp[rk,hi']
  have rj:rk (rank vs kf) xs j=rank vs kf xs[j]:=by simp[rk,hj']
  rw[ri,rj]at r;have t:=yK (vs.map kf) (x:=kf xs[j].1) (y:=kf xs[i].1) (Yn (oH mj)) (Yn (oH mi));rw[decide_eq_false (by unfold rank at r;lia)]at t;simp only[Array.getElem_toList];rw[twice mi,twice mj];exact t.symm
section
variable{prog:Program}{w:World}{A:Around}{E:Value→Shared→Prop}{s:Shared}
theorem EU.mono{h h':Heap}{vs:List Value}{kf:Value→List Int}(H:EU h vs kf)(g:∀b o,h.get? b=some o→h'.get? b=some o):EU h' vs kf:=fun v m=>by
 obtain⟨a,o,xs,n,e,g1,r⟩:=H v m;exact⟨a,o,xs,n,e,g _ _ g1,r⟩
end
end SO
namespace L2
open PySem PySem.Spec PyProof.Rows
section
variable{X:Cx}
theorem xX:∀{ps:List Addr}{us:List Value},b7 (ps.map V.ref) us→us=ps.map Value.ref
 |[],us,r=>by rw[List.map_nil]at r;cases r;rfl
 |p::ps,us,r=>by
  rw[List.map_cons]at r;cases r with
  |cons a b =>
   rw[xX b];cases a;rfl
theorem yJ:∀(ps:List Addr),b7 (ps.map V.ref) (ps.map Value.ref)
 |[]=>.nil
 |_::ps=>.cons rfl (yJ ps)
end
end L2
namespace SO
open PySem PyProof PyProof.Rows
section
variable{prog:Program}{w:World}{A:Around}{E:Value→Shared→Prop}{s:Shared}
theorem LP{h:Heap}{kf:Value→List Int}:∀{vs:List Value},EU h vs kf→(∀v∈vs,kf v≠[]) →
  ∃fs:List Value,PySem.W.KatTups h vs fs∧fs.length=vs.length∧∀f∈fs,∃n t,f=.int n t
 |[],_,_=>⟨[],PySem.W.KatTups.nil,rfl,fun _ m=>by cases m⟩
 |v::vs,H,ne=>by
  obtain⟨fs,k,l,g⟩:=LP (vs:=vs) (fun u m=>H u (.tail _ m)) fun u m=>ne u (.tail _ m);obtain⟨a,o,xs,n,e,g1,c,d,i⟩:=H v (.head _);have hz:0<xs.toList.length:=by
   rw[wF i];exact List.length_pos_iff.mpr (ne v (.head _))
  obtain⟨n0,t0,e0,_⟩:=FR i 0 hz;subst e;refine⟨.int n0 t0::fs,PySem.W.KatTups.cons g1 c d (by simpa using e0) k,by simp[l],fun f m=>?_⟩;cases m with
  |head=>exact⟨n0,t0,rfl⟩
  |tail _ m=>exact g f m
end
end SO
namespace L2
open PySem PySem.Spec PyProof.Rows
section
variable{X:Cx}
end
end L2
namespace ST
open PySem PySem.SetTable
abbrev Bl(m:Nat):SetTable:={ mask:=m,place:=#[],dummies:=#[],finger:=0,led:=true,moves:=0,plain:=true }
def ad(m:Nat)(p:Probe):Probe:=(Bl m).advance p
def nth(m:Nat)(p:Probe):Nat→Probe
 |0=>p
 |n+1=>ad m (nth m p n)
theorem jA(m:Nat)(p:Probe)(a:Nat):∀b,nth m p (a+b)=nth m (nth m p a) b
 |0=>rfl
 |b+1=>by rw[←Nat.add_assoc];show ad m _=ad m _;rw[jA m p a b]
theorem vS(m:Nat)(p:Probe)(n:Nat):nth m (ad m p) n=nth m p (n+1):=by
 rw[Nat.add_comm n 1,jA];rfl
def st(m:Nat)(h:Int):Probe:=(Bl m).probeStart h
def lp(m:Nat)(h:Int):Nat→Nat×Nat
 |0=>(bits h%(m+1),bits h)
 |k+1=>leap m (lp m h k).1 (lp m h k).2
structure At(m:Nat)(h:Int)(k:Nat)(p:Probe):Prop where
 i:p.i=(lp m h k).1
 pe:p.perturb=(lp m h k).2
 j:p.j=p.i
 mo:p.more=runEnd m p.i-p.i
 du:p.dummy=none
theorem PH(m:Nat)(h:Int):At m h 0 (st m h):=⟨rfl,rfl,rfl,rfl,rfl⟩
theorem uO{m:Nat}{p:Probe}(h:0<p.more):ad m p={ p with j:=p.j+1,more:=p.more-1 }:=if_pos h
theorem uP{m:Nat}{p:Probe}(h:p.more=0):ad m p={ p with j:=(leap m p.i p.perturb).1,more:=runEnd m (leap m p.i p.perturb).1-(leap m p.i p.perturb).1,i:=(leap m p.i p.perturb).1,perturb:=(leap m p.i p.perturb).2 }:=if_neg (by lia)
theorem D4{m:Nat}{p:Probe}:∀k,k≤p.more→nth m p k={ p with j:=p.j+k,more:=p.more-k }
 |0,_=>rfl
 |k+1,h=>by
  have ih:=D4 (m:=m) (p:=p) k (by lia);show ad m (nth m p k)=_;have hm:0<p.more-k:=by lia
  rw[ih,uO hm];show({ p with j:=p.j+k+1,more:=p.more-k-1 }:Probe)=_;rw[show p.more-k-1=p.more-(k+1) from rfl];rfl
theorem FH{m:Nat}{h:Int}{k:Nat}{p:Probe}(a:At m h k p):At m h (k+1) (nth m p (p.more+1)):=by
 have e:nth m p (p.more+1)=ad m (nth m p p.more):=rfl;rw[e,D4 p.more (Nat.le_refl _),uP (by show p.more-p.more=0;lia)];refine⟨?_,?_,rfl,rfl,a.du⟩
 ·show(leap m p.i p.perturb).1=(leap m (lp m h k).1 (lp m h k).2).1;rw[a.i,a.pe]
 ·show(leap m p.i p.perturb).2=(leap m (lp m h k).1 (lp m h k).2).2;rw[a.i,a.pe]
theorem more_le{m:Nat}{h:Int}{k:Nat}{p:Probe}(a:At m h k p):p.more≤9:=by
 rw[a.mo];unfold runEnd;split<;>lia
theorem US(m:Nat)(h:Int):∀k,∃n,n≤10*k∧At m h k (nth m (st m h) n)
 |0=>⟨0,Nat.le_refl _,PH m h⟩
 |k+1=>by
  obtain⟨n,hn,a⟩:=US m h k;refine⟨n+((nth m (st m h) n).more+1),?_,?_⟩
  ·have:=more_le a;lia
  ·rw[jA];exact FH a
theorem O1(h:Int):bits h<2 ^ 64:=by
 unfold bits;have h0:0≤h%(2 ^ 64:Int):=Xv _ (by decide);have h1:h%(2 ^ 64:Int)<2 ^ 64:=Xw _ (by decide)
 lia
theorem T4(m:Nat)(h:Int):∀k,(lp m h k).2=bits h / 32 ^ k
 |0=>by show bits h=_;simp
 |k+1=>by
  show(lp m h k).2 / 32=_;rw[T4 m h k,Nat.div_div_eq_div_mul,Nat.pow_succ]
theorem T3(m:Nat)(h:Int){k:Nat}(hk:13≤k):(lp m h k).2=0:=by
 rw[T4];refine Nat.div_eq_of_lt (Xz (O1 h) ?_);exact YQ (by decide:2 ^ 64≤32 ^ 13) (Nat.pow_le_pow_right (by decide) hk)
def cyc(m:Nat):Nat→Nat→Nat
 |i,0=>i
 |i,k+1=>(cyc m i k*5+1)%(m+1)
theorem EC(m:Nat)(h:Int):∀k,(lp m h (13+k)).1=cyc m (lp m h 13).1 k
 |0=>rfl
 |k+1=>by
  show((lp m h (13+k)).1*5+1+(lp m h (13+k)).2 / 32)%(m+1)=(cyc m (lp m h 13).1 k*5+1)%(m+1);rw[T3 m h (by lia),EC m h k]
theorem PV(m:Nat)(h:Int):∀k,(lp m h k).1<m+1
 |0=>Nat.mod_lt _ (Nat.succ_pos m)
 |k+1=>Nat.mod_lt _ (Nat.succ_pos m)
def Ful(m:Nat):Prop:=∀i,i<m+1→∀j,j<m+1→∃k,k<m+1∧cyc m i k=j
theorem VX:Ful 7:=by unfold Ful;decide +kernel
theorem UP:Ful 31:=by unfold Ful;decide +kernel
theorem comes{m:Nat}(f:Ful m)(h:Int){j:Nat}(hj:j<m+1):∃n,n≤10*m+130∧(nth m (st m h) n).j=j:=by
 obtain⟨k,hk,e⟩:=f (lp m h 13).1 (PV m h 13) j hj;obtain⟨n,hn,a⟩:=US m h (13+k);refine⟨n,by lia,?_⟩;rw[a.j,a.i,EC,e]
theorem KL(m:Nat)(h:Int):∀n,(nth m (st m h) n).dummy=none
 |0=>rfl
 |n+1=>by
  have ih:=KL m h n;show(ad m (nth m (st m h) n)).dummy=none;by_cases hm:0<(nth m (st m h) n).more
  ·rw[uO hm];exact ih
  ·rw[uP (by lia)];exact ih
theorem qK(m:Nat)(h:Int):∀n,(nth m (st m h) n).j+(nth m (st m h) n).more<m+1
 |0=>by
  show bits h%(m+1)+(runEnd m (bits h%(m+1))-bits h%(m+1))<m+1;have:bits h%(m+1)<m+1:=Nat.mod_lt (bits h) (Nat.succ_pos m);unfold runEnd;split<;>lia
 |n+1=>by
  have ih:=qK m h n;show(ad m (nth m (st m h) n)).j+(ad m (nth m (st m h) n)).more<m+1;by_cases hm:0<(nth m (st m h) n).more
  ·rw[uO hm];show _+1+(_-1)<_;lia
  ·rw[uP (by lia)];have:(leap m (nth m (st m h) n).i (nth m (st m h) n).perturb).1<m+1:=Nat.mod_lt _ (Nat.succ_pos m);show(leap m (nth m (st m h) n).i (nth m (st m h) n).perturb).1+(runEnd m (leap m (nth m (st m h) n).i (nth m (st m h) n).perturb).1-(leap m (nth m (st m h) n).i (nth m (st m h) n).perturb).1)<_;generalize (leap m (nth m (st m h) n).i (nth m (st m h) n).perturb).1=x at this ⊢;unfold runEnd;split<;>lia
theorem xB{xs:Array Nat}{j:Nat}(up:∀a b (h1:a<xs.size) (h2:b<xs.size),a<b→xs[a]<xs[b]):∀(fuel lo hi:Nat),hi-lo≤fuel→lo≤hi→hi≤xs.size→(∀i (h:i<xs.size),i<lo→xs[i]<j)→(∀i (h:i<xs.size),hi≤i→j≤xs[i]) →
  below.go xs j fuel lo hi≤xs.size∧(∀i (h:i<xs.size),i<below.go xs j fuel lo hi→xs[i]<j)∧(∀i (h:i<xs.size),below.go xs j fuel lo hi≤i→j≤xs[i])
 |0,lo,hi,hf,hl,hh,h1,h2=>by
  have:lo=hi:=by lia
  subst this;exact⟨hh,h1,h2⟩
 |fuel+1,lo,hi,hf,hl,hh,h1,h2=>by
  unfold below.go;by_cases hlt:lo<hi
  ·rw[if_pos hlt];have hm:(lo+hi) / 2<xs.size:=by lia
   have e:xs.getD ((lo+hi) / 2) j=xs[(lo+hi) / 2]:=by simp[Array.getD,hm]
   show _≤_∧_;dsimp only;by_cases hc:xs.getD ((lo+hi) / 2) j<j
   ·rw[if_pos hc];refine xB up fuel _ hi (by omega) (by lia) hh (fun i h hi'=>?_) h2;by_cases q:i=(lo+hi) / 2
    ·subst q;rw[←e];exact hc
    ·have:=up i ((lo+hi) / 2) h hm (by lia);rw[e]at hc;lia
   ·rw[if_neg hc];refine xB up fuel lo _ (by omega) (by lia) (by lia) h1 (fun i h hi'=>?_);by_cases q:i=(lo+hi) / 2
    ·subst q;rw[←e];lia
    ·have:=up ((lo+hi) / 2) i hm h (by lia);rw[e]at hc;lia
  ·rw[if_neg hlt];have:lo=hi:=by lia
   subst this;exact⟨hh,h1,h2⟩
theorem S2{l:List Nat}(r:l.Pairwise (· < ·)):∀a b (h1:a<l.toArray.size) (h2:b<l.toArray.size),a<b→l.toArray[a]<l.toArray[b]:=fun a b h1 h2 h=>by
 simp only[List.getElem_toArray];exact List.pairwise_iff_getElem.mp r a b (by simpa using h1) (by simpa using h2) h
theorem qU{l:List Nat}(r:l.Pairwise (· < ·))(j:Nat):below l.toArray j≤l.length∧(∀i (h:i<l.length),i<below l.toArray j→l[i]<j)∧(∀i (h:i<l.length),below l.toArray j≤i→j≤l[i]):=by
 have:=xB (xs:=l.toArray) (j:=j) (S2 r) l.toArray.size 0 l.toArray.size (by lia) (Nat.zero_le _) (Nat.le_refl _) (fun i h hi=>by lia) (fun i h hi=>by lia);simpa[below] using this
theorem below_at{l:List Nat}(r:l.Pairwise (· < ·)){i j:Nat}(h:l[i]?=some j):below l.toArray j=i:=by
 obtain⟨h1,h2,h3⟩:=qU r j;obtain⟨hi,e⟩:=Zj.mp h;by_cases q:i<below l.toArray j
 ·have:=h2 i hi q;lia
 ·by_cases q2:below l.toArray j<i
  ·have a:=h3 (below l.toArray j) (by lia) (Nat.le_refl _);have b:=List.pairwise_iff_getElem.mp r (below l.toArray j) i (by omega) hi q2
   lia
  ·lia
structure Pl(t:SetTable)(l:List Nat):Prop where
 pl:t.place=l.toArray
 up:l.Pairwise (· < ·)
 du:t.dummies=#[]
theorem Pl.live{t:SetTable}{l:List Nat}(p:Pl t l){i j:Nat}(h:l[i]?=some j):t.slot j=.live i:=by
 unfold slot;rw[p.pl,below_at p.up h];have e:l.toArray[i]?=some j:=by simpa using h
 simp[h]
theorem Pl.empty{t:SetTable}{l:List Nat}(p:Pl t l){j:Nat}(h:j∉l):t.slot j=.empty:=by
 unfold slot;rw[p.pl,p.du];have e:¬(l.toArray[below l.toArray j]?==some j)=true:=by
  intro z;rw[beq_iff_eq]at z;refine h (Zg (i:=below l.toArray j) ?_);simpa using z
 have e2:has #[] j=false:=by unfold has;simp
 dsimp only;rw[if_neg e,e2];rfl
theorem OL(m:Nat)(p:Probe):(ad m p).dummy=p.dummy:=by
 by_cases h:0<p.more
 ·rw[uO h]
 ·rw[uP (by lia)]
theorem LJ{t:SetTable}{l:List Nat}(P:Pl t l){hA:Nat→Int}{h:Int}:∀(d fuel:Nat) (p:Probe),d<fuel→(∀e,e<d→∃i,l[i]?=some (nth t.mask p e).j∧hA i≠h) →
  ((nth t.mask p d).j∉l→probe.go t hA h fuel p=some (.empty (nth t.mask p d).j p.dummy))∧(∀i,l[i]?=some (nth t.mask p d).j→hA i=h→probe.go t hA h fuel p=some (.candidate (nth t.mask p d).j i (nth t.mask p (d+1))))
 |0,0,_,hf,_=>absurd hf (by lia)
 |0,fuel+1,p,hf,hb=>by
  refine⟨fun hn=>?_,fun i hi he=>?_⟩
  ·unfold probe.go;rw[show p.j=(nth t.mask p 0).j from rfl,P.empty hn]
  ·unfold probe.go;rw[show p.j=(nth t.mask p 0).j from rfl,P.live hi];simp only[he,beq_self_eq_true,if_true];rfl
 |d+1,0,_,hf,_=>absurd hf (by lia)
 |d+1,fuel+1,p,hf,hb=>by
  obtain⟨i,hi,hne⟩:=hb 0 (by lia);have ih:=LJ P (hA:=hA) (h:=h) d fuel (ad t.mask p) (by lia) fun e he=>by
   obtain⟨i',a,b⟩:=hb (e+1) (by lia);exact⟨i',by rw[vS];exact a,b⟩
  rw[vS,vS,OL]at ih;have go1:probe.go t hA h (fuel+1) p=probe.go t hA h fuel (ad t.mask p):=by
   rw[probe.go];rw[show p.j=(nth t.mask p 0).j from rfl,P.live hi];have:(hA i==h)=false:=by rw[beq_eq_false_iff_ne];exact hne
   simp only[this];rfl
  rw[go1];exact ih
theorem least{P:Nat→Prop}:∀{n:Nat},P n→∃N,N≤n∧P N∧∀e,e<N→¬P e
 |0,h=>⟨0,Nat.le_refl _,h,fun e he=>absurd he (by lia)⟩
 |n+1,h=>by
  by_cases q:∃e,e≤n∧P e
  ·obtain⟨e,he,pe⟩:=q;obtain⟨N,h1,h2,h3⟩:=least (P:=fun k=>P k) (n:=e) pe;exact⟨N,by lia,h2,h3⟩
  ·exact⟨n+1,Nat.le_refl _,h,fun e he pe=>q ⟨e,by lia,pe⟩⟩
termination_by n=>n
theorem sub_len{α:Type}[DecidableEq α]:∀{a b:List α},a.Nodup→(∀x∈a,x∈b)→a.length≤b.length
 |[],_,_,_=>Nat.zero_le _
 |x::a,b,nd,h=>by
  have hx:=h x Zd;obtain⟨n1,n2⟩:=List.nodup_cons.mp nd;have:=sub_len (a:=a) (b:=b.erase x) n2 fun y hy=>(List.mem_erase_of_ne (show y≠x from fun z=>n1 (by rw[←z];exact hy))).mpr (h y (Zw _ hy));rw[List.length_erase_of_mem hx]at this;have:=List.length_pos_of_mem hx;simp only[Yq];lia
theorem x8{l:List Nat}{m:Nat}(hl:l.length<m+1):∃j,j<m+1∧j∉l:=by
 apply ZS;intro z;have:=sub_len (a:=List.range (m+1)) (b:=l) List.nodup_range fun x hx=>ZS fun q=>z ⟨x,Zs.mp hx,q⟩;rw[Yj]at this
 lia
theorem LM{m:Nat}(h:m=7∨m=31):Ful m:=by
 rcases h with rfl | rfl
 ·exact VX
 ·exact UP
structure Tab(t:SetTable)(l:List Nat)(hs:List Int):Prop where
 p:Pl t l
 ma:t.mask=7∨t.mask=31
 ln:l.length=hs.length
 lt:∀j∈l,j<t.mask+1
 way:∀(i:Nat) h j,hs[i]?=some h→l[i]?=some j→∃n,(nth t.mask (st t.mask h) n).j=j∧∀e,e<n→(nth t.mask (st t.mask h) e).j∈l
theorem Tab.first{t:SetTable}{l:List Nat}{hs:List Int}(T:Tab t l hs)(hl:hs.length<t.mask+1)(h:Int) :
  ∃N,N≤10*t.mask+130∧(nth t.mask (st t.mask h) N).j∉l∧∀e,e<N→(nth t.mask (st t.mask h) e).j∈l:=by
 obtain⟨j,h1,h2⟩:=x8 (l:=l) (by rw[T.ln];exact hl);obtain⟨n,hn,e⟩:=comes (LM T.ma) h h1;obtain⟨N,a,b,c⟩:=least (P:=fun k=>(nth t.mask (st t.mask h) k).j∉l) (n:=n) (by rw[e];exact h2);exact⟨N,by lia,b,fun e he=>ZS fun z=>c e he z⟩
theorem Tab.before{t:SetTable}{l:List Nat}{hs:List Int}(T:Tab t l hs){h:Int}{N:Nat}(hN:(nth t.mask (st t.mask h) N).j∉l){i:Nat}(hi:hs[i]?=some h):∃n,n<N∧l[i]?=some (nth t.mask (st t.mask h) n).j:=by
 have hl:i<l.length:=by rw[T.ln];exact(Zj.mp hi).1
 obtain⟨n,e,a⟩:=T.way i h l[i] hi (Zz hl);refine⟨n,?_,by rw[e];exact Zz hl⟩;apply ZS;intro z;by_cases q:n=N
 ·subst q;rw[e]at hN;exact hN (Zp hl)
 ·exact hN (a N (by lia))
def cX{α:Type}(l:List α)(p:Nat)(x:α):List α:=l.take p++x::l.drop p
theorem FS{α:Type}(l:List α)(p:Nat)(x:α):insertAt l.toArray p x=(cX l p x).toArray:=by
 unfold insertAt cX;have e:(l.drop p).take (l.length-p)=l.drop p:=List.take_of_length_le (by rw[Ym];lia);simp[e]
theorem jW{α:Type}{l:List α}{p:Nat}{x y:α}:y∈cX l p x↔y=x∨y∈l:=by
 unfold cX;rw[Zf,Zn];have h:y∈l↔y∈l.take p∨y∈l.drop p:=by rw[←Zf,List.take_append_drop]
 rw[h];constructor
 ·rintro(h | h | h)
  ·exact .inr (.inl h)
  ·exact .inl h
  ·exact .inr (.inr h)
 ·rintro(h | h | h)
  ·exact .inr (.inl h)
  ·exact .inl h
  ·exact .inr (.inr h)
theorem iM{α:Type}(l:List α)(p:Nat)(x:α):(cX l p x).length=l.length+1:=by
 unfold cX;simp only[Zm,Yq,Yx,Ym];lia
theorem HN{α:Type}(l:List α)(p:Nat)(x:α):(cX l p x).Perm (x::l):=by
 have:=List.perm_middle (a:=x) (l₁:=l.take p) (l₂:=l.drop p);rw[List.take_append_drop]at this;exact this
theorem qJ{α:Type}{l:List α}{p:Nat}(hp:p≤l.length)(x:α)(i:Nat):(cX l p x)[i]?=if i<p then l[i]? else if i=p then some x else l[i-1]?:=by
 unfold cX;have lt:(l.take p).length=p:=by rw[Yx];lia
 by_cases h:i<p
 ·rw[if_pos h,Zx (by lia),List.getElem?_take_of_lt h]
 ·rw[if_neg h,Zy (by lia),lt];by_cases q:i=p
  ·rw[if_pos q,q,Nat.sub_self];rfl
  ·rw[if_neg q];obtain⟨k,rfl⟩:∃k,i=p+k+1:=⟨i-p-1,by lia⟩
   rw[show p+k+1-p=k+1 by lia,List.getElem?_cons_succ,List.getElem?_drop];rfl
theorem CD{α β:Type}(f:α→β)(l:List α)(p:Nat)(x:α):(cX l p x).map f=cX (l.map f) p (f x):=by
 unfold cX;rw[Zt,List.map_cons,List.map_take,List.map_drop]
theorem Tab.put{t:SetTable}{l:List Nat}{hs:List Int}(T:Tab t l hs){h:Int}{j n:Nat}(hj:j∉l)(hn:(nth t.mask (st t.mask h) n).j=j)(ha:∀e,e<n→(nth t.mask (st t.mask h) e).j∈l) :
  ∃p,p≤hs.length∧(t.put j).2=p∧(t.put j).1={ t with place:=(cX l p j).toArray,dummies:=#[] }∧Tab (t.put j).1 (cX l p j) (cX hs p h):=by
 obtain⟨b1,b2,b3⟩:=qU T.p.up j;have hp:below t.place j=below l.toArray j:=by rw[T.p.pl]
 have e0:has t.dummies j=false:=by rw[T.p.du];unfold has;simp
 have e1:(t.put j).1={ t with place:=(cX l (below l.toArray j) j).toArray,dummies:=#[] }:=by
  unfold SetTable.put;dsimp only;rw[e0,hp,T.p.pl,FS,T.p.du];rfl
 refine⟨below l.toArray j,by rw[←T.ln];exact b1,hp,e1,?_⟩;have hm:(t.put j).1.mask=t.mask:=by rw[e1]
 have jlt:j<t.mask+1:=by have:=qK t.mask h n;rw[hn]at this;lia
 refine⟨⟨by rw[e1],?_,by rw[e1]⟩,by rw[hm];exact T.ma,by rw[iM,iM,T.ln],fun x hx=>?_,fun i h' j' h1 h2=>?_⟩
 ·unfold cX;rw[List.pairwise_append];refine⟨T.p.up.sublist (List.take_sublist _ _),?_,fun a ha b hb=>?_⟩
  ·rw[List.pairwise_cons];refine⟨fun b hb=>?_,T.p.up.sublist (List.drop_sublist _ _)⟩;obtain⟨k,hk,rfl⟩:=Yg.mp hb;rw[List.getElem_drop];rw[Ym]at hk;have:=b3 (below l.toArray j+k) (by lia) (by lia);have ne:l[below l.toArray j+k]'(by lia)≠j:=fun z=>hj (z▸Zp _)
   lia
  ·obtain⟨k,hk,rfl⟩:=Yg.mp ha;rw[List.getElem_take];rw[Yx]at hk;have q1:=b2 k (by lia) (by lia);rcases Zn.mp hb with rfl | hb
   ·exact q1
   ·obtain⟨k2,hk2,rfl⟩:=Yg.mp hb;rw[List.getElem_drop];rw[Ym]at hk2;have:=b3 (below l.toArray j+k2) (by lia) (by lia);omega
 ·rw[hm];rcases jW.mp hx with rfl | hx
  ·exact jlt
  ·exact T.lt x hx
 ·rw[hm];rw[qJ b1]at h2;rw[qJ (by rw[←T.ln];exact b1)]at h1;by_cases q1:i<below l.toArray j
  ·rw[if_pos q1]at h1 h2;obtain⟨n',a,b⟩:=T.way i h' j' h1 h2;exact⟨n',a,fun e he=>jW.mpr (.inr (b e he))⟩
  ·rw[if_neg q1]at h1 h2;by_cases q2:i=below l.toArray j
   ·rw[if_pos q2]at h1 h2;cases h1;cases h2;exact⟨n,hn,fun e he=>jW.mpr (.inr (ha e he))⟩
   ·rw[if_neg q2]at h1 h2;obtain⟨n',a,b⟩:=T.way (i-1) h' j' h1 h2;exact⟨n',a,fun e he=>jW.mpr (.inr (b e he))⟩
abbrev Ow:=Array (Option Nat)
def og(O:Ow)(j:Nat):Option Nat:=O.getD j none
theorem AH{O:Ow}{j:Nat}(h:j<O.size):(O.getD j (some 0)).isNone=true↔og O j=none:=by
 unfold og;simp[Array.getD,h]
theorem FW{m:Nat}(f:Ful m){O:Ow}(hz:O.size=m+1){h:Int}(hf:∃j,j<m+1∧og O j=none):∀(fuel k n:Nat),fuel+k=m+15→At m h k (nth m (st m h) n)→(∀e,e<n→og O (nth m (st m h) e).j≠none)→(∀r,r<k→og O (lp m h r).1≠none) →
  ∃n',layClean.free m O fuel (lp m h k).1 (lp m h k).2=some (nth m (st m h) n').j∧og O (nth m (st m h) n').j=none∧∀e,e<n'→og O (nth m (st m h) e).j≠none
 |0,k,n,hk,_,_,hB=>by
  exfalso;obtain⟨j,h1,h2⟩:=hf;obtain⟨q,hq,e⟩:=f (lp m h 13).1 (PV m h 13) j h1;refine hB (13+q) (by lia) ?_;rw[EC,e];exact h2
 |fuel+1,k,n,hk,hA,hP,hB=>by
  unfold layClean.free;have hi:(nth m (st m h) n).i=(lp m h k).1:=hA.i;have hjl:=qK m h n;have hmo:=hA.mo;rw[hA.j,hi]at hjl;rw[hi]at hmo;have run:∀q,q≤(nth m (st m h) n).more→(nth m (st m h) (n+q)).j=(lp m h k).1+q:=fun q hq=>by
   rw[jA,D4 q hq];show(nth m (st m h) n).j+q=_;rw[hA.j,hi]
  have rl:(lp m h k).1≤runEnd m (lp m h k).1:=by unfold runEnd;split<;>lia
  cases e:(List.range (runEnd m (lp m h k).1+1-(lp m h k).1)).find? fun q=>(O.getD ((lp m h k).1+q) (some 0)).isNone with
  |some q =>
   have h1:=List.find?_some e;have h2:=Zs.mp (List.mem_of_find?_eq_some e);have hq:q≤(nth m (st m h) n).more:=by rw[hmo];omega
   refine⟨n+q,by rw[run q hq],?_,fun e' he=>?_⟩
   ·rw[run q hq];exact(AH (by lia)).mp h1
   ·by_cases c:e' < n
    ·exact hP e' c
    ·obtain⟨d,rfl⟩:∃d,e'=n+d:=⟨e' - n,by lia⟩
     rw[run d (by lia)];intro z;obtain⟨as,bs,e3,e4⟩:=(List.find?_eq_some_iff_append.mp e).2;have hd:d∈as:=by
      have e5:as=List.range q:=by
       have l1:(List.range (runEnd m (lp m h k).1+1-(lp m h k).1))[as.length]?=some q:=by rw[e3];simp
       have l2:=(Zj.mp l1)
       obtain⟨l3,l4⟩:=l2;rw[List.getElem_range]at l4;have:=congrArg (List.take as.length) e3;rw[List.take_append_of_le_length (Nat.le_refl _),Yw,List.take_range,l4]at this;rw[←this,Nat.min_eq_left (by lia)]
      rw[e5];exact Zs.mpr (by lia)
     have:=e4 d hd;rw[(AH (by lia)).mpr z]at this;simp at this
  |none =>
   have h1:=List.find?_eq_none.mp e;have occ:∀q,q≤(nth m (st m h) n).more→og O ((lp m h k).1+q)≠none:=fun q hq z=>by
    have:=h1 q (Zs.mpr (by omega));rw[(AH (by lia)).mpr z]at this;exact this rfl
   have hA':=FH hA;rw[←jA]at hA';refine FW f hz hf fuel (k+1) _ (by lia) hA' (fun e' he=>?_) (fun r hr=>?_)
   ·by_cases c:e' < n
    ·exact hP e' c
    ·obtain⟨d,rfl⟩:∃d,e'=n+d:=⟨e' - n,by lia⟩
     rw[run d (by lia)];exact occ d (by lia)
   ·by_cases c:r<k
    ·exact hB r c
    ·have:r=k:=by lia
     subst this;exact occ 0 (Nat.zero_le _)
structure Ld(m:Nat)(hs:List Int)(O:Ow)(k:Nat):Prop where
 sz:O.size=m+1
 un:∀j q,og O j=some q→q<k∧∀j',og O j'=some q→j'=j
 al:∀q,q<k→∃j h,og O j=some q∧j<m+1∧hs[q]?=some h∧∃n,(nth m (st m h) n).j=j∧∀e,e<n→og O (nth m (st m h) e).j≠none
theorem r8{O:Ow}{j:Nat}(h:j<O.size)(v:Option Nat)(i:Nat):og (O.setIfInBounds j v) i=if i=j then v else og O i:=by
 unfold og;by_cases c:i=j
 ·subst c;simp[Array.getD,h]
 ·rw[if_neg c];simp only[Array.getD,Array.size_setIfInBounds];by_cases hi:i<O.size
  ·simp[hi,Array.getElem_setIfInBounds,Ne.symm c]
  ·simp[hi]
theorem Ld.put{m:Nat}{hs:List Int}{O:Ow}{k:Nat}(L:Ld m hs O k){h:Int}(hk:hs[k]?=some h){n:Nat}(h0:og O (nth m (st m h) n).j=none)(ha:∀e,e<n→og O (nth m (st m h) e).j≠none):Ld m hs (O.setIfInBounds (nth m (st m h) n).j (some k)) (k+1):=by
 have hj:(nth m (st m h) n).j<O.size:=by rw[L.sz];have:=qK m h n;lia
 have mono:∀{i},og O i≠none→og (O.setIfInBounds (nth m (st m h) n).j (some k)) i≠none:=fun {i} hi=>by
  rw[r8 hj];split
  ·simp
  ·exact hi
 refine⟨by rw[Array.size_setIfInBounds];exact L.sz,fun j q e=>?_,fun q hq=>?_⟩
 ·rw[r8 hj]at e;by_cases c:j=(nth m (st m h) n).j
  ·rw[if_pos c]at e;cases e;refine⟨by lia,fun j' e'=>?_⟩;rw[r8 hj]at e';by_cases c':j'=(nth m (st m h) n).j
   ·rw[c,c']
   ·rw[if_neg c']at e';have:=(L.un j' k e').1;lia
  ·rw[if_neg c]at e;obtain⟨a,b⟩:=L.un j q e;refine⟨by lia,fun j' e'=>?_⟩;rw[r8 hj]at e';by_cases c':j'=(nth m (st m h) n).j
   ·rw[if_pos c']at e';cases e';lia
   ·rw[if_neg c']at e';exact b j' e'
 ·by_cases c:q<k
  ·obtain⟨j,h',a,b,d,n',e1,e2⟩:=L.al q c;refine⟨j,h',?_,b,d,n',e1,fun e he=>mono (e2 e he)⟩;rw[r8 hj,if_neg (fun z=>by rw[z,h0]at a;cases a)];exact a
  ·have:q=k:=by lia
   subst this;refine⟨_,h,by rw[r8 hj,if_pos rfl],by rw[←L.sz];exact hj,hk,n,rfl,fun e he=>mono (ha e he)⟩
def us(m:Nat)(O:Ow):List Nat:=(List.range (m+1)).filter fun j=>(og O j).isSome
theorem pC{m:Nat}{O:Ow}{j:Nat}(hz:O.size=m+1):j∈us m O↔og O j≠none:=by
 unfold us;rw[Yz,Zs];constructor
 ·rintro⟨_,h⟩ z;rw[z]at h;cases h
 ·intro h;refine⟨?_,by cases e:og O j with | none=>exact absurd e h | some x=>rfl⟩;apply ZS;intro c;apply h;unfold og;simp[Array.getD,hz,c]
def od(m:Nat)(O:Ow):List Nat:=(us m O).map fun j=>(og O j).getD 0
theorem FF{m:Nat}{hs:List Int}{O:Ow}{k:Nat}(L:Ld m hs O k):(od m O).Perm (List.range k):=by
 have nd:(us m O).Nodup:=List.nodup_range.filter _;refine(List.perm_ext_iff_of_nodup ?_ List.nodup_range).mpr fun q=>?_
 ·unfold od;refine List.nodup_iff_pairwise_ne.mpr (List.pairwise_map.mpr ((List.nodup_iff_pairwise_ne.mp nd).imp_of_mem fun {a b} ha hb hab z=>?_));have h1:=(pC L.sz).mp ha;have h2:=(pC L.sz).mp hb;cases e1:og O a with
  |none=>exact h1 e1
  |some x =>
   cases e2:og O b with
   |none=>exact h2 e2
   |some y =>
    rw[e1,e2]at z;have z:x=y:=z;subst z;exact hab ((L.un b x e2).2 a e1)
 ·unfold od;rw[Zh,Zs];constructor
  ·rintro⟨j,hj,e⟩;have h1:=(pC L.sz).mp hj;cases e1:og O j with
   |none=>exact absurd e1 h1
   |some x=>rw[e1]at e;have e:x=q:=e;subst e;exact(L.un j x e1).1
  ·intro hq;obtain⟨j,h,a,_⟩:=L.al q hq;exact⟨j,(pC L.sz).mpr (by rw[a];simp),by rw[a];rfl⟩
theorem QD{m:Nat}{hs:List Int}{O:Ow}{k:Nat}(L:Ld m hs O k):(us m O).length=k:=by
 have:=(FF L).length_eq;rw[od,Zq,Yj]at this;exact this
theorem Ld.step{m:Nat}(f:Ful m){hs:List Int}{O:Ow}{k:Nat}(L:Ld m hs O k)(hk:k<m+1){h:Int}(hh:hs[k]?=some h):∃j,layClean.free m O (turns m) (bits h%(m+1)) (bits h)=some j∧Ld m hs (O.setIfInBounds j (some k)) (k+1):=by
 obtain⟨j,h1,h2⟩:=x8 (l:=us m O) (m:=m) (by rw[QD L];exact hk);have hf:∃j,j<m+1∧og O j=none:=⟨j,h1,ZS fun z=>h2 ((pC L.sz).mpr z)⟩
 obtain⟨n,a,b,c⟩:=FW f L.sz (h:=h) hf (m+15) 0 0 rfl (PH m h) (fun e he=>absurd he (by lia)) (fun r hr=>absurd hr (by lia));exact⟨_,a,L.put hh b c⟩
def stp(m:Nat)(acc:Option (Ow×Nat))(h:Int):Option (Ow×Nat):=do
 let(owner,k) ←acc
 let j ←layClean.free m owner (turns m) (bits h%(m+1)) (bits h)
 pure (owner.setIfInBounds j (some k),k+1)
theorem K1{m:Nat}(f:Ful m){hs:List Int}(hl:hs.length<m+1):∀(k:Nat) (O:Ow),k≤hs.length→Ld m hs O k→∃O',(hs.drop k).foldl (stp m) (some (O,k))=some (O',hs.length)∧Ld m hs O' hs.length:=by
 intro k;induction hd:hs.length-k generalizing k with
 |zero =>
  intro O hk L;have:k=hs.length:=by lia
  subst this;exact⟨O,by rw[List.drop_length];rfl,L⟩
 |succ d ih =>
  intro O hk L;have hlt:k<hs.length:=by lia
  obtain⟨j,e,L'⟩:=L.step f (by lia) (Zz hlt);obtain⟨O',a,b⟩:=ih (k+1) (by lia) _ (by lia) L';refine⟨O',?_,b⟩;rw[List.drop_eq_getElem_cons hlt,List.foldl_cons];have:stp m (some (O,k)) hs[k]=some (O.setIfInBounds j (some k),k+1):=by
   unfold stp;simp[e]
  rw[this];exact a
theorem OG{m:Nat}(hm:m=7∨m=31){hs:List Int}(hl:hs.length<m+1)(finger moves:Nat)(led plain:Bool):∃(l order:List Nat),laid m finger moves led plain hs.toArray=some ({ mask:=m,place:=l.toArray,dummies:=#[],finger,led,moves,plain },order.toArray)∧order.Perm (List.range hs.length) ∧
  Tab { mask:=m,place:=l.toArray,dummies:=#[],finger,led,moves,plain } l (order.filterMap (hs[·]?)):=by
 have L0:Ld m hs (Array.replicate (m+1) none) 0:=⟨by simp,fun j q e=>by unfold og at e;simp[Array.getD]at e,fun q hq=>absurd hq (by lia)⟩
 obtain⟨O,e,L⟩:=K1 (LM hm) hl 0 _ (Nat.zero_le _) L0;rw[List.drop_zero]at e;have e1:layClean m hs.toArray=some O:=by
  unfold layClean;rw[List.foldl_toArray];have:hs.foldl (stp m) (some (Array.replicate (m+1) none,0))=some (O,hs.length):=e;exact congrArg (fun z=>z.map (·.1)) this
 have hp:=FF L;have live:((List.range (m+1)).filterMap fun j=>(O.getD j none).map (j,·))=(us m O).map fun j=>(j,(og O j).getD 0):=by
  unfold us;generalize List.range (m+1)=xs;induction xs with
  |nil=>rfl
  |cons x xs ih =>
   rw[List.filterMap_cons,List.filter_cons];unfold og at ih ⊢;cases c:O.getD x none with
   |none=>simp only[Option.map_none,Option.isSome_none];exact ih
   |some y=>simp only[Option.map_some,Option.isSome_some,if_true,List.map_cons,c,Option.getD_some];rw[ih]
 have e2:laid m finger moves led plain hs.toArray=some ({ mask:=m,place:=(us m O).toArray,dummies:=#[],finger,led,moves,plain },(od m O).toArray):=by
  unfold laid;rw[e1];show some _=some _;rw[live,Yb,Yb];have:((us m O).map ((fun x=>x.1)∘fun j=>(j,(og O j).getD 0)))=us m O:=by
   rw[show((fun x:Nat×Nat=>x.1)∘fun j=>(j,(og O j).getD 0))=id from rfl,List.map_id]
  rw[this];rfl
 have flt:∀q∈od m O,q<hs.length:=fun q hq=>Zs.mp (hp.mem_iff.mp hq);have fm:∀(xs:List Nat),(∀q∈xs,q<hs.length)→(xs.filterMap (hs[·]?)).length=xs.length∧∀i:Nat,(xs.filterMap (hs[·]?))[i]?=(xs[i]?).bind (hs[·]?):=by
  intro xs;induction xs with
  |nil=>intro _;exact⟨rfl,fun i=>by simp⟩
  |cons x xs ih =>
   intro h;obtain⟨a,b⟩:=ih fun q hq=>h q (Zw _ hq);have hx:=h x Zd;rw[List.filterMap_cons,Zz hx];refine⟨by simp[a],fun i=>?_⟩;cases i with
   |zero=>simp[hx]
   |succ i=>simp[b i]
 obtain⟨f1,f2⟩:=fm _ flt;refine⟨us m O,od m O,e2,hp,⟨⟨rfl,?_,rfl⟩,hm,?_,fun j hj=>?_,fun i h j h1 h2=>?_⟩⟩
 ·exact List.pairwise_lt_range.filter _
 ·rw[f1,od,Zq]
 ·exact Zs.mp (Yz.mp hj).1
 ·rw[f2]at h1;have hd:(od m O)[i]?=some ((og O j).getD 0):=by unfold od;rw[Zk,h2];rfl
  rw[hd]at h1;have hju:=(pC L.sz).mp (Zg h2);cases c:og O j with
  |none=>exact absurd c hju
  |some q =>
   rw[c]at h1;have h1:hs[q]?=some h:=h1;obtain⟨j',h',a,_,d,n,p1,p2⟩:=L.al q (L.un j q c).1;rw[h1]at d;cases d;have:j'=j:=(L.un j q c).2 j' a;subst this;exact⟨n,p1,fun e he=>(pC L.sz).mpr (p2 e he)⟩
end ST
set_option maxRecDepth 100000
namespace ST
open PySem PySem.SetTable
variable{prog:Program}{w:World}{A:Around}{E:Value→Shared→Prop}{s:Shared}
abbrev IK(prog:Program)(w:World):=intKind prog w
theorem items_int{ks:List Int}{vs:List Value}(h:ItemsAre (IK prog w) ks vs):∀v∈vs,∃k t,v=.int k t:=by
 induction h with
 |nil=>intro v hv;simp at hv
 |cons h1 _ ih =>
  intro v hv;rcases Zn.mp hv with rfl | hv
  ·obtain⟨t,rfl⟩:=Value.isInt_shape h1;exact⟨_,t,rfl⟩
  ·exact ih v hv
theorem MD{ks:List Int}{b:Addr}{Q:Bool→Shared→Prop}(hk:IsTupleKey (IK prog w) s.heap ks b)(h:Q true s):wpAny (model prog w) A (hashByValue 8 (.ref b)) Q E s:=by
 have hT:=hk.typeIs;obtain⟨o,items,n,ho,_,hd,hi⟩:=hk;unfold hashByValue;refine ZZ (wpAny_specialOf hT F.slot_tuple_hash.lookup ?_);dsimp only;refine ZZ (wpAny_seqItems ho hd ?_);refine ZZ ?_;show wpAny _ _ (forIn items _ _) _ _ s;rw[←Array.forIn_toList];refine wpAny_forIn_list _ (fun rest r s'=>r.1=none∧s'=s∧∀v∈rest,∃k t,v=.int k t) _ ?_ ?_ _ _ ⟨rfl,rfl,items_int hi⟩
 ·rintro v rest r s' ⟨hr,rfl,hall⟩;obtain⟨k,t,rfl⟩:=hall v Zd;refine ZZ (ZY ?_);exact ZY ⟨rfl,rfl,fun u hu'=>hall u (Zw _ hu')⟩
 ·rintro⟨r1,r2⟩ s' ⟨hr,rfl,_⟩;simp only at hr;subst hr;exact ZY h
theorem B4{ks:List Int}{b:Addr}{Q:Bool→Shared→Prop}(hk:IsTupleKey (IK prog w) s.heap ks b)(h:Q false s):wpAny (model prog w) A (ofAClassStatement 8 (.ref b)) Q E s:=by
 have hT:=hk.typeIs;obtain⟨o,items,n,ho,_,hd,hi⟩:=hk;unfold ofAClassStatement;refine ZZ (wpAny_typeOf hT ?_);refine ZZ (ZY ?_);simp only[Bool.not_true,Bool.false_eq_true,if_false];refine ZZ (wpAny_seqItems ho hd ?_);refine ZZ ?_;show wpAny _ _ (forIn items _ _) _ _ s;rw[←Array.forIn_toList];refine wpAny_forIn_list _ (fun rest r s'=>r.1=none∧s'=s∧∀v∈rest,∃k t,v=.int k t) _ ?_ ?_ _ _ ⟨rfl,rfl,items_int hi⟩
 ·rintro v rest r s' ⟨hr,rfl,hall⟩;obtain⟨k,t,rfl⟩:=hall v Zd;refine ZZ (ZY ?_);exact ZY ⟨rfl,rfl,fun u hu'=>hall u (Zw _ hu')⟩
 ·rintro⟨r1,r2⟩ s' ⟨hr,rfl,_⟩;simp only at hr;subst hr;exact ZY h
theorem QF{ks:List Int}{b:Addr}{Q:Bool→Shared→Prop}(hk:IsTupleKey (IK prog w) s.heap ks b){st:List Value}(hst:∀v∈st,∃x c,v=.ref c∧IsTupleKey (IK prog w) s.heap x c)(h:Q false s):wpAny (model prog w) A (searchCouldBeSeen (.ref b) st) Q E s:=by
 unfold searchCouldBeSeen;refine ZZ ?_;refine wpAny_forIn_list _ (fun rest r s'=>r.1=none∧s'=s∧∀v∈rest,∃x c,v=.ref c∧IsTupleKey (IK prog w) s.heap x c) _ ?_ ?_ _ _ ⟨rfl,rfl,hst⟩
 ·rintro v rest r s' ⟨hr,rfl,hall⟩;obtain⟨x,c,rfl,hx⟩:=hall v Zd;have hrest:=fun u hu'=>hall u (Zw _ hu');dsimp only;by_cases q:(b==c||carriedByValue (.ref b)&&carriedByValue (.ref c))=true
  ·rw[if_pos q];exact ZY ⟨rfl,rfl,hrest⟩
  ·rw[if_neg q];refine ZZ ((tupleKind (IK prog w)).quiet hk ?_);simp only[Bool.not_true,Bool.false_eq_true,if_false];refine ZZ ((tupleKind (IK prog w)).quiet hx ?_);simp only[Bool.not_true,Bool.false_eq_true,if_false];refine ZZ (B4 hk ?_);simp only[Bool.false_eq_true,if_false];refine ZZ (B4 hx ?_);simp only[Bool.false_eq_true,if_false];exact ZY ⟨rfl,rfl,hrest⟩
 ·rintro⟨r1,r2⟩ s' ⟨hr,rfl,_⟩;simp only at hr;subst hr;exact ZY h
end ST
set_option maxRecDepth 100000
namespace ST
open PySem PySem.SetTable
variable{prog:Program}{w:World}{A:Around}{E:Value→Shared→Prop}{s:Shared}
abbrev hk(prog:Program)(w:World)(k:List Int):Int:=tupleKeyHash (IK prog w) k
def ent(prog:Program)(w:World)(x:List Int×Addr):Int×Value:=(hk prog w x.1,.ref x.2)
abbrev Xs:=List (List Int×Addr)
theorem EL{xs:Xs}{i:Nat}{x:List Int×Addr}(h:xs[i]?=some x):(xs.map (ent prog w)).toArray[i]?=some (hk prog w x.1,.ref x.2):=by
 rw[List.getElem?_toArray,Zk,h];rfl
theorem KQ{m:Nat}(h:m=7∨m=31):(m%2==0)=false:=by rcases h with rfl | rfl<;>rfl
theorem Tab.fits{t:SetTable}{l:List Nat}{hs:List Int}(T:Tab t l hs)(few:hs.length<t.mask+1){n:Nat}(hn:n=hs.length):t.fits n=true:=by
 unfold SetTable.fits SetTable.fill;rw[T.p.pl,T.p.du];simp[T.ln,hn];lia
theorem GV{a b:Addr}{k:List Int}{xs:Xs}{o:Obj}{ep:Nat}{t:SetTable}{l:List Nat}{Q:SetFound→Shared→Prop}(room:A.units<cLine)(ho:s.heap.get? a=some o)(hd:o.data=.set (xs.map (ent prog w)).toArray ep t)
  (T:Tab t l (xs.map fun x=>hk prog w x.1)) (few:xs.length<t.mask+1) (hks:∀x∈xs,IsTupleKey (IK prog w) s.heap x.1 x.2) (hb:IsTupleKey (IK prog w) s.heap k b) {N:Nat}(hN:(nth t.mask (st t.mask (hk prog w k)) N).j∉l) (hB:∀e,e<N→(nth t.mask (st t.mask (hk prog w k)) e).j∈l) (hNl:N≤10*t.mask+130)
  (q:∀f,((∃x∈xs,x.1=k)→f=.there none)→((¬∃x∈xs,x.1=k)→f=.free (nth t.mask (st t.mask (hk prog w k)) N).j false)→Q f s) :
  ∀(fuel n d:Nat) (stand:Option Probe),n+d=N→d<fuel→stand.getD (t.probeStart (hk prog w k))=nth t.mask (st t.mask (hk prog w k)) n→(∀e,e<n→∀(i:Nat) x,l[i]?=some (nth t.mask (st t.mask (hk prog w k)) e).j→xs[i]?=some x→x.1≠k) →
   wpAny (model prog w) A (setSearchFrom a (.ref b) (hk prog w k) true fuel stand) Q E s:=by
 have hfit:=T.fits (by rw[Zq];exact few) (n:=(xs.map (ent prog w)).toArray.size) (by simp);intro fuel;induction fuel with
 |zero=>intro n d stand _ hf;lia
 |succ fuel ih =>
  intro n d stand hnd hf hst hno;unfold setSearchFrom;refine ZZ (wpAny_setState_of ho hd hfit ?_);dsimp only;have gw:t.gaveWay=false:=KQ T.ma;rw[gw];simp only[Bool.false_eq_true,if_false];rw[hst];obtain⟨m1,hm1,hP,hlt⟩:=least (P:=fun e=>(nth t.mask (st t.mask (hk prog w k)) (n+e)).j∉l∨∃i:Nat,∃x,l[i]?=some (nth t.mask (st t.mask (hk prog w k)) (n+e)).j∧xs[i]?=some x∧hk prog w x.1=hk prog w k) (n:=d) (.inl (by rw[hnd];exact hN));have at_l:∀{i:Nat}{j:Nat},l[i]?=some j→∃x,xs[i]?=some x:=fun {i j} h=>by
   have hi:i<l.length:=(Zj.mp h).1;rw[T.ln,Zq]at hi;exact⟨_,Zz hi⟩
  have pr:∀hA:Nat→Int,(∀i,hA i=(((xs.map (ent prog w)).toArray[i]?).map (·.1)).getD 0) →
    ((nth t.mask (st t.mask (hk prog w k)) (n+m1)).j∉l→t.probe hA (hk prog w k) (nth t.mask (st t.mask (hk prog w k)) n)=some (.empty (nth t.mask (st t.mask (hk prog w k)) (n+m1)).j none)) ∧
    (∀(i:Nat) x,l[i]?=some (nth t.mask (st t.mask (hk prog w k)) (n+m1)).j→xs[i]?=some x→hk prog w x.1=hk prog w k→t.probe hA (hk prog w k) (nth t.mask (st t.mask (hk prog w k)) n)=some (.candidate (nth t.mask (st t.mask (hk prog w k)) (n+m1)).j i (nth t.mask (st t.mask (hk prog w k)) (n+m1+1)))):=fun hA hh=>by
   have hAx:∀{i:Nat}{x},xs[i]?=some x→hA i=hk prog w x.1:=fun {i x} h=>by rw[hh,EL h];rfl
   have g:=LJ T.p (hA:=hA) (h:=hk prog w k) m1 (10*turns t.mask) (nth t.mask (st t.mask (hk prog w k)) n) (by unfold turns;lia) fun e he=>by
    have hne:=hlt e he;have hin:(nth t.mask (st t.mask (hk prog w k)) (n+e)).j∈l:=ZS fun z=>hne (.inl z);obtain⟨i,hi,e1⟩:=Yg.mp hin;have e2:l[i]?=some (nth t.mask (st t.mask (hk prog w k)) (n+e)).j:=by rw[Zz hi,e1]
    obtain⟨x,hx⟩:=at_l e2;exact⟨i,by rw[←jA];exact e2,fun z=>hne (.inr ⟨i,x,e2,hx,by rw[←hAx hx];exact z⟩)⟩
   rw[←jA,←jA,KL]at g;exact⟨g.1,fun i x h1 h2 h3=>g.2 i h1 (by rw[hAx h2];exact h3)⟩
  by_cases hin:(nth t.mask (st t.mask (hk prog w k)) (n+m1)).j∈l
  ·obtain⟨i,x,h1,h2,h3⟩:=hP.resolve_left (fun z=>z hin);rw[(pr _ ?hh).2 i x h1 h2 h3]
   case hh=>intro i;rfl
   dsimp only;have hmem:=Zg h2;have fin:wpAny (model prog w) A (do
     let some (_,y):=(xs.map (ent prog w)).toArray[i]? | unsupported "internal:set-entry"
     let equal ←holding [y] (eqBool y (.ref b))
     let(es',_,t') ←setState a
     if true&&equal then return .there none
     let some same:=t'.sameMemory t.moves t.mask | unsupported "set.changed-during-lookup:is-the-new-block-at-the-old-address"
     let still ←match (if same then t'.slot (nth t.mask (st t.mask (hk prog w k)) (n+m1)).j else .empty) with
      |.live i'=>match es'[i']? with
       |some (_,y')=>do pure (if ←isSame y' y then some i' else none)
       |none=>pure none
      |_=>pure none
     match still with
     |none=>rule "set.search.anew";setSearchFrom a (.ref b) (hk prog w k) true fuel none
     |some i'=>if equal then return .there (some i') else setSearchFrom a (.ref b) (hk prog w k) true fuel (some (nth t.mask (st t.mask (hk prog w k)) (n+m1+1)))) Q E s:=by
    rw[EL h2];dsimp only;refine ZZ (ZU ((tupleKind (IK prog w)).eqBool room (hks x hmem) hb ?_));refine ZZ (wpAny_setState_of ho hd hfit ?_);dsimp only;by_cases hq:x.1=k
    ·rw[decide_eq_true hq];simp only[Bool.and_self,if_true];exact ZY (q _ (fun _=>rfl) fun z=>absurd ⟨x,hmem,hq⟩ z)
    ·rw[decide_eq_false hq];simp only[Bool.and_false,Bool.false_eq_true,if_false];have sm:t.sameMemory t.moves t.mask=some true:=by unfold sameMemory;simp
     rw[sm];dsimp only;simp only[if_true];rw[T.p.live h1];dsimp only;rw[EL h2];dsimp only;refine ZZ (wpAny_isSame_ref_self (ZZ (ZY ?_)));simp only[if_true];have lt1:n+m1<N:=by
      apply ZS;intro z;have:n+m1=N:=by lia
      rw[this]at hin;exact hN hin
     refine ih (n+m1+1) (N-(n+m1+1)) _ ?_ ?_ rfl fun e he i' x' g1 g2=>?_
     ·omega
     ·omega
     ·by_cases c:e<n
      ·exact hno e c i' x' g1 g2
      ·obtain⟨d',rfl⟩:∃d',e=n+d':=⟨e-n,by omega⟩
       by_cases c2:d' < m1
       ·intro z;exact hlt d' c2 (.inr ⟨i',x',g1,g2,by rw[z]⟩)
       ·have:d'=m1:=by lia
        subst this;have ei:i'=i:=by
         have h5:=below_at T.p.up g1;have h6:=below_at T.p.up h1;rw[←h5,←h6]
        subst ei;rw[h2]at g2;cases g2;exact hq
   cases hled:t.led with
   |true=>simp only[Bool.not_true,Bool.false_eq_true,if_false];exact fin
   |false =>
    simp only[Bool.not_false,if_true];refine ZZ (QF hb (fun v hv=>?_) ?_)
    ·simp only[Zh,Array.mem_toList_iff,Array.mem_filter,List.mem_toArray]at hv;obtain⟨⟨h',v'⟩,⟨⟨x',hx',ex⟩,_⟩,rfl⟩:=hv;unfold ent at ex;cases ex;exact⟨x'.1,x'.2,rfl,hks x' hx'⟩
    ·simp only[Bool.false_eq_true,if_false];exact fin
  ·rw[(pr _ ?hh).1 hin]
   case hh=>intro i;rfl
   dsimp only;have en:n+m1=N:=by
    apply ZS;intro z;exact hin (hB _ (by lia))
   refine ZY (q _ (fun ⟨x,hx,ex⟩=>?_) fun _=>by rw[en]);exfalso;obtain⟨i,hi,e1⟩:=Yg.mp hx;have h2:xs[i]?=some x:=by rw[Zz hi,e1]
   obtain⟨n',hn',e3⟩:=T.before hN (i:=i) (by rw[Zk,h2,←ex];rfl);by_cases c:n' < n
   ·exact hno n' c i x e3 h2 ex
   ·obtain⟨d',rfl⟩:∃d',n'=n+d':=⟨n' - n,by lia⟩
    exact hlt d' (by lia) (.inr ⟨i,x,e3,h2,by rw[ex]⟩)
end ST
set_option maxRecDepth 100000
namespace ST
open PySem PySem.SetTable
variable{prog:Program}{w:World}{A:Around}{E:Value→Shared→Prop}{s:Shared}
def iT(prog:Program)(w:World)(led:Bool)(h:Heap)(a:Addr)(xs:Xs):Prop :=
 ∃o ep t l,h.get? a=some o∧o.ExactSet∧o.data=.set (xs.map (ent prog w)).toArray ep t∧Tab t l (xs.map fun x=>hk prog w x.1)∧xs.length*5<t.mask*3∧t.plain=true∧t.led=led∧(∀x∈xs,IsTupleKey (IK prog w) h x.1 x.2)∧(xs.map (·.1)).Nodup
theorem wA{h h':Heap}{a b:Addr}{k:List Int}{o:Obj}{es ep t}(ho:h.get? a=some o)(hd:o.data=.set es ep t)(hs:Heap.SameBut a h h')(x:IsTupleKey (IK prog w) h k b):IsTupleKey (IK prog w) h' k b:=by
 obtain⟨o',items,n,ho',hc,hd',hi⟩:=x;have hne:b≠a:=by
  rintro rfl;obtain rfl:o'=o:=Option.some.inj (ho'.symm.trans ho);rw[hd]at hd';exact nomatch hd'
 exact⟨o',items,n,(hs.2 b hne).trans ho',hc,hd',hi⟩
theorem JN{h:Heap}{a:Addr}{o:Obj}{es:Array (Int×Value)}{ep:Nat}{t:SetTable}(ho:h.get? a=some o)(hd:o.data=.set es ep t)(es':Array (Int×Value))(t':SetTable) :
  (h.update a (Obj.putSet es' t')).get? a=some { o with data:=.set es' (ep+1) t' }:=by
 have:=Heap.get?_update_self (Obj.putSet es' t') ho (by rw[putSet_of es' t' hd];rfl);rw[putSet_of es' t' hd]at this;exact this
theorem G3{α:Type}{xs:List α}{order:List Nat}(hp:order.Perm (List.range xs.length)):(order.filterMap (xs[·]?)).Perm xs:=by
 have:=hp.filterMap (xs[·]?);rw[List.filterMap_getElem?_range_length]at this;exact this
theorem BY{α β:Type}(f:α→β)(xs:List α)(order:List Nat):order.filterMap ((xs.map f)[·]?)=(order.filterMap (xs[·]?)).map f:=by
 rw[List.map_filterMap];congr 1
 funext i
 rw[Zk]
theorem SF{a b:Addr}{k:List Int}{xs:Xs}{led:Bool}{Q:Bool→Shared→Prop}(room:A.units<cLine)(hS:iT prog w led s.heap a xs)(hb:IsTupleKey (IK prog w) s.heap k b)(hn:xs.length+1≤18)
  (q:∀(r:Bool) h' xs',Heap.SameBut a s.heap h'→iT prog w led h' a xs'→((∃x∈xs,x.1=k)→xs'=xs)→((¬∃x∈xs,x.1=k)→xs'.Perm ((k,b)::xs))→Q r { s with heap:=h' }) :
  wpAny (model prog w) A (setAddHashed a (.ref b) (hk prog w k)) Q E s:=by
 obtain⟨o,ep,t,l,ho,hex,hd,T,few,pln,hled,hks,nd⟩:=hS;have fw:xs.length<t.mask+1:=by rcases T.ma with e | e<;>rw[e]at few ⊢<;>lia
 have hfit:=T.fits (by rw[Zq];exact fw) (n:=(xs.map (ent prog w)).toArray.size) (by simp);obtain⟨N,hNl,hN,hB⟩:=T.first (by rw[Zq];exact fw) (hk prog w k);unfold setAddHashed setAddHashedIn;refine ZU (ZZ (wpAny_setState_of ho hd hfit ?_));dsimp only;have bs:byScan (.ref b) (xs.map (ent prog w)).toArray=false:=rfl;rw[bs];simp only[Bool.false_eq_true,if_false];unfold setSearch;refine ZZ (GV room ho hd T fw hks hb hN hB hNl (fun f h1 h2=>?_) 100000 0 N none (by lia) (by rcases T.ma with e | e<;>rw[e]at hNl<;>lia) rfl fun e he=>absurd he (by lia));by_cases hx:∃x∈xs,x.1=k
 ·rw[h1 hx];refine ZY ?_;have e:s={ s with heap:=s.heap }:=by cases s;rfl
  rw[e];exact q _ _ xs (Heap.SameBut.refl a s.heap) ⟨o,ep,t,l,ho,hex,hd,T,few,pln,hled,hks,nd⟩ (fun _=>rfl) fun z=>absurd hx z
 ·rw[h2 hx];dsimp only;refine ZZ (wpAny_setState_of ho hd hfit ?_);dsimp only;obtain⟨p,hp,e2,e1,T'⟩:=T.put (h:=hk prog w k) hN rfl hB;rw[e2];have tpl:(t.put (nth t.mask (st t.mask (hk prog w k)) N).j).1.plain=true:=by rw[e1];exact pln
  rw[tpl];simp only[if_true];refine ZZ (MD hb ?_);simp only[if_true];have eI:insertAt (xs.map (ent prog w)).toArray p (hk prog w k,Value.ref b)=((cX xs p (k,b)).map (ent prog w)).toArray:=by
   rw[FS,CD];rfl
  rw[eI];have tl:(t.put (nth t.mask (st t.mask (hk prog w k)) N).j).1.led=led:=by rw[e1];exact hled
  have tm:(t.put (nth t.mask (st t.mask (hk prog w k)) N).j).1.mask=t.mask:=by rw[e1]
  generalize (t.put (nth t.mask (st t.mask (hk prog w k)) N).j).1=t1 at T' tpl tl tm ⊢;have eH:(cX xs p (k,b)).map (fun x=>hk prog w x.1)=cX (xs.map fun x=>hk prog w x.1) p (hk prog w k):=CD _ _ _ _;rw[←eH]at T';have ln1:(cX xs p (k,b)).length=xs.length+1:=iM _ _ _;have szl:((cX xs p (k,b)).map (ent prog w)).toArray.size=xs.length+1:=by simp[ln1]
  have sz:((cX xs p (k,b)).map (ent prog w)).toArray.size≤ZW:=by rw[szl];exact YQ hn (by decide)
  refine ZZ (wpAny_storeSet_of ho hd ?_ sz);have ho1:=JN ho hd ((cX xs p (k,b)).map (ent prog w)).toArray t1;have hsb1:=Heap.SameBut.update s.heap a (Obj.putSet ((cX xs p (k,b)).map (ent prog w)).toArray t1);generalize s.heap.update a (Obj.putSet ((cX xs p (k,b)).map (ent prog w)).toArray t1)=h1' at ho1 hsb1 ⊢;have pm:=HN xs p (k,b);have hks1:∀x∈cX xs p (k,b),IsTupleKey (IK prog w) h1' x.1 x.2:=fun x hx=>by
   refine wA ho hd hsb1 ?_;rcases jW.mp hx with rfl | hx
   ·exact hb
   ·exact hks x hx
  have nd1:((cX xs p (k,b)).map (·.1)).Nodup:=by
   refine(pm.map (·.1)).nodup_iff.mpr (List.nodup_cons.mpr ⟨fun z=>?_,nd⟩);obtain⟨x,h3,h4⟩:=Zh.mp z;exact hx ⟨x,h3,h4⟩
  have ex1:({ o with data:=.set ((cX xs p (k,b)).map (ent prog w)).toArray (ep+1) t1 }:Obj).ExactSet:=hex;have ft1:t1.fill=xs.length+1:=by unfold SetTable.fill;rw[T'.p.pl,T'.p.du];simp[T'.ln,ln1]
  by_cases full:t1.tooFull=true
  ·rw[full];simp only[Bool.not_false,Bool.and_self,if_true];have m7:t.mask=7∧xs.length+1=5:=by
    unfold SetTable.tooFull at full;rw[ft1,tm,decide_eq_true_iff]at full;rcases T.ma with e | e<;>rw[e]at few full<;>lia
   rw[show(xs.map (ent prog w)).toArray.size+1=5 by simp;lia];unfold setRelay;have fw1:(cX xs p (k,b)).length<t1.mask+1:=by rw[ln1,tm];lia
   have hfit1:=T'.fits (by rw[Zq];exact fw1) (n:=((cX xs p (k,b)).map (ent prog w)).toArray.size) (by simp);refine ZZ (ZZ (wpAny_setState_of ho1 rfl hfit1 ?_));dsimp only;have sA:sizeAbove (grown 5)=32:=by decide
   rw[sA];rw[if_neg (show ¬(32>ZW) by decide)];obtain⟨l2,order,eL,op,T2⟩:=OG (.inr rfl:31=7∨31=31) (hs:=(cX xs p (k,b)).map fun x=>hk prog w x.1) (by rw[Zq,ln1];lia) t1.finger (t1.movedTo 31) t1.led t1.plain;have eR:t1.relaid (((cX xs p (k,b)).map (ent prog w)).toArray.map (·.1)) (grown 5)=some ({ mask:=31,place:=l2.toArray,dummies:=#[],finger:=t1.finger,led:=t1.led,moves:=t1.movedTo 31,plain:=t1.plain },order.toArray):=by
    unfold SetTable.relaid;rw[sA,←eL];congr 1;simp[ent]
   rw[eR];rw[Zq,ln1]at op;have op':order.Perm (List.range (cX xs p (k,b)).length):=by rw[ln1];exact op
   rw[BY]at T2;have ps:=G3 op';have eF:order.toArray.filterMap (((cX xs p (k,b)).map (ent prog w)).toArray[·]?)=((order.filterMap ((cX xs p (k,b))[·]?)).map (ent prog w)).toArray:=by
    rw[List.filterMap_toArray,←BY];simp
   have szo:((order.filterMap ((cX xs p (k,b))[·]?)).map (ent prog w)).toArray.size=xs.length+1:=by simp[ps.length_eq,ln1]
   refine ZZ (wpAny_of_eq (a:=(((order.filterMap ((cX xs p (k,b))[·]?)).map (ent prog w)).toArray,({ mask:=31,place:=l2.toArray,dummies:=#[],finger:=t1.finger,led:=t1.led,moves:=t1.movedTo 31,plain:=t1.plain }:SetTable))) ?_ ?_)
   ·show(if ((order.toArray.filterMap (((cX xs p (k,b)).map (ent prog w)).toArray[·]?)).size != ((cX xs p (k,b)).map (ent prog w)).toArray.size)=true then _ else _)=_;rw[eF,szo,szl];simp
   ·dsimp only;have sz2:((order.filterMap ((cX xs p (k,b))[·]?)).map (ent prog w)).toArray.size≤ZW:=by rw[szo,←szl];exact sz
    refine wpAny_storeSet_of ho1 rfl ?_ sz2;have ho2:=JN ho1 rfl ((order.filterMap ((cX xs p (k,b))[·]?)).map (ent prog w)).toArray { mask:=31,place:=l2.toArray,dummies:=#[],finger:=t1.finger,led:=t1.led,moves:=t1.movedTo 31,plain:=t1.plain };have hsb2:=Heap.SameBut.update h1' a (Obj.putSet ((order.filterMap ((cX xs p (k,b))[·]?)).map (ent prog w)).toArray { mask:=31,place:=l2.toArray,dummies:=#[],finger:=t1.finger,led:=t1.led,moves:=t1.movedTo 31,plain:=t1.plain });refine ZY (q true _ (order.filterMap ((cX xs p (k,b))[·]?)) (hsb1.trans hsb2) ⟨_,_,_,l2,ho2,hex,rfl,T2,?_,tpl,tl,fun x hx=>wA ho1 rfl hsb2 (hks1 x (ps.mem_iff.mp hx)),(ps.map (·.1)).nodup_iff.mpr nd1⟩ (fun z=>absurd z hx) fun _=>ps.trans pm);show(order.filterMap ((cX xs p (k,b))[·]?)).length*5<31*3;rw[ps.length_eq,ln1];lia
  ·rw[Bool.not_eq_true]at full;rw[full];simp only[Bool.not_false,Bool.and_false,Bool.false_eq_true,if_false];refine ZY (q true _ (cX xs p (k,b)) hsb1 ⟨_,_,t1,_,ho1,hex,rfl,T',?_,tpl,tl,hks1,nd1⟩ (fun z=>absurd z hx) fun _=>pm);unfold SetTable.tooFull at full;rw[ft1,decide_eq_false_iff_not]at full;rw[ln1];lia
end ST
set_option maxRecDepth 100000
namespace ST
open PySem PySem.SetTable
section
variable{prog:Program}{w:World}{A:Around}{E:Value→Shared→Prop}{s:Shared}
abbrev byT(w:World):Bool:=w.params.followText "set-order"
abbrev uB(w:World):Obj:={ cls:=.type "set",dict:=none,data:=.set #[] 0 (.fresh 0 0 (!byT w)) }
theorem NA(a:Value){Q:Value→Shared→Prop}(h:Q (.ref s.heap.objs.size) { s with heap:=s.heap.push (uB w) }) :
  codeAny (model prog w) A (.call (.builtin "set.__new__") ⟨[.type "set",a],[]⟩) (wants Q E) s:=by
 refine codeAny_of_tree ?_;show wpAny _ A.in1 (checkBuiltinCall "set.__new__" ⟨[.type "set",a],[]⟩ >>= fun _=>again (.builtin "set.__new__" ⟨[.type "set",a],[]⟩)) _ _ s;refine ZZ (wpAny_of_eq (F.newCall_set_1 a) (ZY ⟨plainId_quiet F.plain_set_new _,codeAny_builtin F.entry_set_new ?_⟩));rw[Around.under_plainId F.plain_set_new _];unfold Builtin.«set.__new__» Builtin.Frozenset.newClass;have hs:=sub_set_self;obtain⟨hp,g,d,tk,os⟩:=s;dsimp only
 wp_walk
 refine wpAny_askSetting (ZY ?_);dsimp only;simp only[newObj];exact ZZ (wpAny_alloc (ZY (ZY h)))
end
structure Acc(vs:Xs)(i:Nat)(xs:Xs):Prop where
 sub:∀x∈xs,x∈vs
 al:∀x∈vs.take i,∃y∈xs,y.1=x.1
theorem iT.moved{prog:Program}{w:World}{led:Bool}{h h':Heap}{a:Addr}{xs:Xs}(S:iT prog w led h a xs)(k:∀b o,(b=a∨∃x∈xs,b=x.2)→h.get? b=some o→h'.get? b=some o):iT prog w led h' a xs:=by
 obtain⟨o,ep,t,l,ho,hex,hd,T,few,pln,hled,hks,nd⟩:=S;refine⟨o,ep,t,l,k a o (.inl rfl) ho,hex,hd,T,few,pln,hled,fun x hx=>?_,nd⟩;obtain⟨o',its,n,h1,h2⟩:=hks x hx;exact⟨o',its,n,k _ _ (.inr ⟨x,hx,rfl⟩) h1,h2⟩
theorem iT.len{prog:Program}{w:World}{led:Bool}{h:Heap}{a:Addr}{xs:Xs}(S:iT prog w led h a xs){dom:List (List Int)}(hd:∀x∈xs,x.1∈dom):xs.length≤dom.length:=by
 obtain⟨o,ep,t,l,ho,hex,hd',T,few,pln,hled,hks,nd⟩:=S;have:=sub_len nd (b:=dom) fun k hk=>by
  obtain⟨x,hx,rfl⟩:=Zh.mp hk;exact hd x hx
 rw[Zq]at this;exact this
section
variable{prog:Program}{w:World}{A:Around}{R:Result→Shared→Prop}{I:Addr}{fp wr:List Addr}{G:Array GenState→Array GenState→Prop}{n:Nat}{P:Nat→Value→Prop}{St:Nat→Shared→Prop}
theorem IP(W:WalksS prog w A.in1 I fp wr G n P St)(S:Addr)(hSf:S∉fp)(led:Bool)(vs:Xs)(hP:∀i v,P i v→∃x,vs[i]?=some x∧v=.ref x.2)(room:A.in1.units<cLine)(hvw:∀x∈vs,x.2∉wr)(dom:List (List Int))(hdom:dom.length≤17)(hvd:∀x∈vs,x.1∈dom) :
  ∀(k i:Nat) (s:Shared) (xs:Xs),n-i=k→i≤n→St i s→iT prog w led s.heap S xs→(∀x∈vs,IsTupleKey (IK prog w) s.heap x.1 x.2)→Acc vs i xs →
   (∀s' xs',Moved (S::wr) G s s'→iT prog w led s'.heap S xs'→Acc vs n xs'→R (.ok (.ret .none)) s') →
   codeAny (model prog w) A (.builtin "set.update.loop" ⟨[.ref S,.ref I],[]⟩) R s:=by
 have hSw:S∉wr:=fun h=>hSf (W.sub _ h);have hsub:∀b∈wr,b∈S::wr:=fun b hb=>Zw _ hb;have mv:∀{s s':Shared}{xs:Xs},(∀x∈xs,x∈vs)→Moved wr G s s'→iT prog w led s.heap S xs→iT prog w led s'.heap S xs:=fun {s s' xs} hx hm hS=>hS.moved fun b o hb e=>hm.heap b o (by
  rcases hb with rfl | ⟨x,h1,rfl⟩
  ·exact hSw
  ·exact hvw x (hx x h1)) e
 intro k;induction k with
 |zero =>
  intro i s xs hk hi hst hS hv ha hR;have hin:i=n:=by lia
  subst hin;refine codeAny_builtin PyProof.Rows.F.entry_set_update_loop ?_;rw[Around.under_plainId PyProof.Rows.F.plain_set_update_loop _];show wpAny _ A.in1 (pyNext (.ref I) >>= _) _ _ s;refine ZZ (W.done s _ _ hst fun s' hm=>?_);exact ZY (hR s' xs (hm.mono hsub) (mv ha.sub hm hS) ha)
 |succ k ih =>
  intro i s xs hk hi hst hS hv ha hR;have hlt:i<n:=by lia
  refine codeAny_builtin PyProof.Rows.F.entry_set_update_loop ?_;rw[Around.under_plainId PyProof.Rows.F.plain_set_update_loop _];show wpAny _ A.in1 (pyNext (.ref I) >>= _) _ _ s;refine ZZ (W.item i s _ _ hlt hst fun v s' hPv hst' hm=>?_);obtain⟨x,hx,rfl⟩:=hP i v hPv;have hxm:=Zg hx;have hS':=mv ha.sub hm hS;have hv':∀y∈vs,IsTupleKey (IK prog w) s'.heap y.1 y.2:=fun y hy=>by
   obtain⟨o',its,n',h1,h2⟩:=hv y hy;exact⟨o',its,n',hm.heap _ _ (hvw y hy) h1,h2⟩
  show wpAny _ A.in1 (holding [Value.ref x.2] (setAdd S (.ref x.2)) >>= _) _ _ s';refine ZZ (ZU ?_);unfold setAdd;refine ZU (ZZ ((tupleKind (IK prog w)).pyHash room (hv' x hxm) ?_));have ln:=hS'.len (dom:=dom) fun y hy=>hvd y (ha.sub y hy);refine SF (s:={ s' with toks:=s'.toks+(x.1.length+1) }) room hS' (hv' x hxm) (by lia) fun r h' xs' hsb hS2 h1 h2=>?_;have hks':∀y∈vs,IsTupleKey (IK prog w) h' y.1 y.2:=fun y hy=>by
   obtain⟨o,ep,t,l,ho,_,hd,_⟩:=hS';exact wA ho hd hsb (hv' y hy)
  have acc:Acc vs (i+1) xs':=by
   by_cases c:∃y∈xs,y.1=x.1
   ·rw[h1 c];refine⟨ha.sub,fun z hz=>?_⟩;rw[List.take_add_one,hx]at hz;rcases Zf.mp hz with hz | hz
    ·exact ha.al z hz
    ·rw[show z=x by simpa using hz];exact c
   ·have pm:=h2 c;refine⟨fun z hz=>?_,fun z hz=>?_⟩
    ·rcases Zn.mp (pm.mem_iff.mp hz) with rfl | hz
     ·exact hxm
     ·exact ha.sub z hz
    ·rw[List.take_add_one,hx]at hz;rcases Zf.mp hz with hz | hz
     ·obtain⟨y,q1,q2⟩:=ha.al z hz;exact⟨y,pm.mem_iff.mpr (Zw _ q1),q2⟩
     ·rw[show z=x by simpa using hz];exact⟨x,pm.mem_iff.mpr (by cases x;exact Zd),rfl⟩
  refine ZY ⟨plainId_quiet PyProof.Rows.F.plain_set_update_loop _,ih (i+1) _ xs' (by lia) hlt (W.frame _ s' _ _ hst' (Nat.le_add_right _ _) fun b hb o e=>?_) hS2 hks' acc fun s'' xs'' hm''=>hR s'' xs'' (Moved.trans W.gtrans ((hm.mono hsub).then_heap (Nat.le_add_right _ _) fun b o hb e=>?_) hm'')⟩
  ·rw[hsb.2 b (fun z:b=S=>hSf (by rw[←z];exact hb))];exact e
  ·rw[hsb.2 b (fun z:b=S=>hb (by rw[z];exact Zd))];exact e
end
end ST
set_option maxRecDepth 100000
namespace ST
open PySem PySem.SetTable
section
variable{prog:Program}{w:World}{A:Around}{E:Value→Shared→Prop}{s:Shared}
theorem LN{h:Heap}{a:Addr}(e:h.get? a=some (uB w)):iT prog w (!byT w) h a []:=by
 refine⟨uB w,0,.fresh 0 0 (!byT w),[],e,⟨rfl,rfl,rfl⟩,rfl,⟨⟨rfl,List.Pairwise.nil,rfl⟩,.inl rfl,rfl,fun j hj=>by simp at hj,fun i h j h1=>by simp at h1⟩,by show 0*5<7*3;decide,rfl,rfl,fun x hx=>by simp at hx,List.nodup_nil⟩
set_option maxHeartbeats 3200000 in
theorem HY{l:Addr}{items:Array Value}{vs:Xs}{Q:Value→Shared→Prop}(hh:A.handled=none)(hl:s.heap.IsList l items)(hi:items.toList=vs.map fun x=>.ref x.2)(hv:∀x∈vs,IsTupleKey (IK prog w) s.heap x.1 x.2)(room:A.in1.in1.in1.units<cLine)(dom:List (List Int))(hdom:dom.length≤17)(hvd:∀x∈vs,x.1∈dom)
  (h:∀(h':Heap) (tk:Nat) (xs:Xs),iT prog w (!byT w) h' s.heap.objs.size xs→Acc vs vs.length xs→(∀b o,b<s.heap.objs.size→s.heap.get? b=some o→h'.get? b=some o)→Q (.ref s.heap.objs.size) { s with heap:=h',toks:=tk }) :
  wpAny (model prog w) A (call (.type "set") [.ref l]) Q E s:=by
 obtain⟨c,tl,z1⟩:=F.called_set.mro;have z2:=F.called_set.made;have z3:=F.called_set.sub;refine wpAny_call (codeAny_of_tree ?_);show wpAny _ _ (callAny (.type "set") _) _ _ _;refine ZY ⟨Code.quiet_builtin _ (by decide +kernel),codeAny_builtin F.entry_type_call ?_⟩;rw[Around.under_plain (weight_type_call_type "set" [.ref l] []) rfl];have z4:=F.called_set.notType;have z5:=F.called_set.canCreate;have z6:=F.typeCall_set_1 (.ref l)
 repeat any_goals first | assumption | wp_step
 refine codeAny_mono (NA (.ref l) (E:=E) (Q:=fun u s1=>u=.ref s.heap.objs.size∧s1={ s with heap:=s.heap.push (uB w) }) ⟨rfl,rfl⟩) fun r s1 hr=>?_;cases r with
 |error e=>exact hr
 |ok fl =>
  cases fl with
  |ret u =>
   obtain⟨rfl,rfl⟩:=hr;have hS:(s.heap.push (uB w)).get? s.heap.objs.size=some (uB w):=Heap.get?_push_size _ rfl;have hT:Shared.TypeIs { s with heap:=s.heap.push (uB w) } (.ref s.heap.objs.size) "set":=⟨_,hS,rfl⟩
   have z7:=F.called_set.init.lookup;have z8:=F.called_set.init.bind (.ref s.heap.objs.size)
   repeat any_goals first | assumption | wp_step
   refine codeAny_mono (codeAny_call_builtin (R:=wants (fun r s2=>r=.none∧∃h' tk xs,s2={ s with heap:=h',toks:=tk }∧iT prog w (!byT w) h' s.heap.objs.size xs∧Acc vs vs.length xs∧(∀b o,b<s.heap.objs.size→s.heap.get? b=some o→h'.get? b=some o)) E) F.called_set.init.plain F.entry_set_init (check_set_init_1 hT ?_)) fun r2 s2 hr2=>?_
   ·obtain⟨ol,g1,g2,nl,g3⟩:=hl;obtain⟨ocls,odict,odata,oslots⟩:=ol;simp only at g2 g3;subst g2;subst g3;have g4:(s.heap.push (uB w)).get? l=some { cls:=.type "list",dict:=odict,data:=.seq items nl,slots:=oslots }:=Heap.get?_push_of_some _ g1;have z9:=F.sub_list_set;have z10:=F.sub_list_frozenset;have z11:(Value.type "list"==Value.type "dict")=false:=by decide
    have g5:(s.heap.push (uB w)).IsList l items:=⟨_,g4,rfl,nl,rfl⟩
    unfold Builtin.«set.__init__» noKeywords Builtin.Frozenset.updateFrom;generalize hPI:pyIter=PI
    wp_walk
    subst hPI;refine wpAny_pyIter_list g5 (ZZ (wpAny_runValue ?_));have lt:l<s.heap.objs.size:=Heap.lt_size g1;have h3:A.in1.in1.in1.handled=none:=by simp[hh]
    have n1:l≠(s.heap.push (uB w)).objs.size:=by rw[Heap.size_push];exact Nat.ne_of_lt (Xj lt)
    have n2:s.heap.objs.size∉[(s.heap.push (uB w)).objs.size,l]:=by
     rw[Heap.size_push];intro z;rcases Zn.mp z with z | z
     ·exact absurd z (Nat.ne_of_lt (Nat.lt_succ_self _))
     ·exact absurd (Zb.mp z) (Nat.ne_of_gt lt)
    have old:∀x∈vs,x.2<s.heap.objs.size:=fun x hx=>by obtain⟨o,its,n,e,_⟩:=hv x hx;exact Heap.lt_size e
    have hn:items.size=vs.length:=by rw[←Array.length_toList,hi,Zq]
    have W:=(Walks.list h3 (s.heap.push (uB w)).objs.size l n1 items).toS (prog:=prog) (w:=w);refine IP W s.heap.objs.size n2 (!byT w) vs (fun i v e=>?_) room (fun x hx z=>?_) dom hdom hvd (items.size-0) 0 _ [] (by lia) (Nat.zero_le _) ⟨⟨_,Heap.get?_push_size _ rfl,rfl,rfl⟩,g5.push _⟩ (LN (Heap.get?_push_of_some _ hS)) (fun x hx=>?_) ⟨fun x hx=>by simp at hx,fun x hx=>by simp at hx⟩ fun s' xs hm hS' ha=>?_
    ·have e:items[i]?=some v:=e;rw[←Array.getElem?_toList,hi,Zk]at e;cases q:vs[i]? with
     |none=>rw[q]at e;cases e
     |some x=>rw[q]at e;exact⟨x,rfl,(Option.some.inj e).symm⟩
    ·have:=old x hx;rw[Zb.mp z,Heap.size_push]at this;exact absurd this (Nat.not_lt.mpr (Nat.le_succ _))
    ·obtain⟨o,its,n,e,r⟩:=hv x hx;exact⟨o,its,n,Heap.get?_push_of_some _ (Heap.get?_push_of_some _ e),r⟩
    ·obtain⟨h',g',d',tk',os'⟩:=s';have eg:g'=s.gens:=hm.gens;have ed:d'=s.drawn:=hm.drawn;have eo:os'=s.os:=hm.os;subst eg;subst ed;subst eo;show wpAny _ _ _ _ _ _;refine ZY ?_;show wpAny _ _ (ret Value.none) _ _ _;refine ZY ⟨rfl,h',tk',xs,rfl,hS',by rw[←hn];exact ha,fun b o hb e=>?_⟩;refine hm.heap b o (fun z=>?_) (Heap.get?_push_of_some _ (Heap.get?_push_of_some _ e));rcases Zn.mp z with z | z
     ·exact absurd z (Nat.ne_of_lt hb)
     ·rw[Zb.mp z,Heap.size_push]at hb;exact absurd hb (Nat.not_lt.mpr (Nat.le_succ _))
   ·cases r2 with
    |error e=>exact hr2
    |ok fl2 =>
     cases fl2 with
     |ret r =>
      obtain⟨rfl,h',tk,xs,rfl,hS',ha,hk'⟩:=hr2
      repeat any_goals first | assumption | wp_step
      exact h _ _ xs hS' ha hk'
     |_=>exact hr2.elim
  |_=>exact hr.elim
end
end ST
set_option maxRecDepth 100000
namespace ST
open PySem PySem.SetTable
theorem R4:entryFor table "set.__iter__" = some Builtin.«frozenset.__iter__»:=entryFor_alias (id':="frozenset.__iter__") (by kernel_rfl) rfl (by decide +kernel) (by kernel_rfl)
theorem LY:entryFor table "set_iterator.__next__" = some Builtin.«set_iterator.__next__»:=entryFor_of_tree (by kernel_rfl)
theorem rG:Slot "set_iterator" "__next__" "set_iterator.__next__" :=
 .of (owner:="set_iterator") (n:="__next__") (by rw[typeLookup_type,builtinLookup_eq_fast];kernel_rfl) (by decide +kernel) (by decide +kernel) (by decide +kernel) (by first | exact .inl (by decide +kernel) | exact .inr (by decide +kernel)) (by rw[isSubtype_type];kernel_rfl)
theorem JH:Slot "set_iterator" "__iter__" "set_iterator.__iter__" :=
 .of (owner:="set_iterator") (n:="__iter__") (by rw[typeLookup_type,builtinLookup_eq_fast];kernel_rfl) (by decide +kernel) (by decide +kernel) (by decide +kernel) (by first | exact .inl (by decide +kernel) | exact .inr (by decide +kernel)) (by rw[isSubtype_type];kernel_rfl)
theorem PQ:Manifest.owners.lookup (String.ofList ['r','o','t','a','r','e','t','i','_','t','e','s'].reverse)=some Manifest.sig_set_iterator:=by kernel_rfl
theorem MK(a:Value):argsOk "set_iterator.__next__" ⟨[a],[]⟩:=by
 unfold argsOk;rw[signature?_of (id:="set_iterator.__next__") (n:=['_','_','t','x','e','n','_','_']) (o:=['r','o','t','a','r','e','t','i','_','t','e','s']) (by kernel_rfl) PQ]
 kernel_rfl
theorem SH(a:Value):argsOk "set_iterator.__iter__" ⟨[a],[]⟩:=by
 unfold argsOk;rw[signature?_of (id:="set_iterator.__iter__") (n:=['_','_','r','e','t','i','_','_']) (o:=['r','o','t','a','r','e','t','i','_','t','e','s']) (by kernel_rfl) PQ]
 kernel_rfl
end ST
set_option maxRecDepth 100000
namespace ST
open PySem PySem.SetTable
theorem OW:entryFor table "set_iterator.__iter__" = some Builtin.«dict_keyiterator.__iter__»:=entryFor_alias (id':="dict_keyiterator.__iter__") (by kernel_rfl) rfl (by decide +kernel) (by kernel_rfl)
theorem E6{α:Type}(next:Nat→Nat):∀(fuel k:Nat) (left:List α) (out:Array α),left.length=fuel→((pickOrder.go next fuel k left out).toList).Perm (out.toList++left)
 |0,k,left,out,h=>by
  rw[List.eq_nil_of_length_eq_zero h,List.append_nil];exact List.Perm.refl _
 |fuel+1,k,left,out,h=>by
  unfold pickOrder.go;have hl:next k%left.length<left.length:=Nat.mod_lt _ (by lia);rw[Zz hl];dsimp only;refine(E6 next fuel (k+1) _ _ (by rw[List.length_eraseIdx_of_lt hl];lia)).trans ?_;rw[Array.toList_push,Yf];refine List.Perm.append_left _ ?_;rw[List.eraseIdx_eq_take_drop_succ];have:=(List.perm_middle (a:=left[next k%left.length]) (l₁:=left.take (next k%left.length)) (l₂:=left.drop (next k%left.length+1))).symm;rw[←List.drop_eq_getElem_cons hl,List.take_append_drop]at this;exact this
theorem NU{α:Type}(next:Nat→Nat)(xs:Array α):((pickOrder next xs).toList).Perm xs.toList:=by
 have:=E6 next xs.size 0 xs.toList #[] (by simp);simpa[pickOrder] using this
def mF(w:World)(S ep:Nat)(es:Array (Int×Value)):Array (Int×Value):=if byT w then pickOrder (w.params.setOrder S ep) es else es
theorem BZ(w:World)(S ep:Nat)(es:Array (Int×Value)):(mF w S ep es).toList.Perm es.toList:=by
 unfold mF;split
 ·exact NU _ _
 ·exact List.Perm.refl _
theorem vO(w:World)(S ep:Nat)(es:Array (Int×Value)):(mF w S ep es).size=es.size:=by
 have:=(BZ w S ep es).length_eq;simpa using this
structure Src(w:World)(S:Addr)(es:Array (Int×Value))(ep:Nat)(t:SetTable)(l:List Nat):Prop where
 p:Pl t l
 ln:l.length=es.size
 fit:t.fits es.size=true
 pln:t.plain=true
 led:t.led=!byT w
def AtS(S:Addr)(es:Array (Int×Value))(ep:Nat)(t:SetTable)(h:Heap):Prop:=∃o,h.get? S=some o∧o.ExactSet∧o.data=.set es ep t
abbrev itO(slot i S n ep:Nat):Obj:={ cls:=.type "set_iterator",data:=.fields #[.int slot 0,.int i 0,.ref S,.int n 0,.int ep 0] }
theorem AtS.typeIs{s:Shared}{S:Addr}{es:Array (Int×Value)}{ep:Nat}{t:SetTable}(h:AtS S es ep t s.heap):s.TypeIs (.ref S) "set":=let⟨o,ho,hx,_⟩:=h;⟨o,ho,hx.1⟩
section
variable{prog:Program}{w:World}{A:Around}{E:Value→Shared→Prop}{s:Shared}{S:Addr}{es:Array (Int×Value)}{ep:Nat}{t:SetTable}{l:List Nat}
theorem OE(R:Src w S es ep t l)(h:AtS S es ep t s.heap){Q:Bool→Shared→Prop}(q:Q false s):wpAny (model prog w) A (setDrawn S) Q E s:=by
 obtain⟨o,ho,hx,hd⟩:=h;unfold setDrawn setsByText;refine ZZ (wpAny_setState_of ho hd R.fit ?_);dsimp only;refine ZZ (ZZ (wpAny_askSetting (ZY ?_)));refine ZY ?_;have e:(!t.plain&&decide (es.size>1))=false:=by rw[R.pln];rfl
 have:=q;show Q (!_&&(!t.plain&&decide (es.size>1))) s;rw[e,Bool.and_false];exact q
theorem OM(R:Src w S es ep t l)(h:AtS S es ep t s.heap){Q:Value→Shared→Prop}(q:Q (.ref s.heap.objs.size) { s with heap:=s.heap.push (itO 0 0 S es.size ep) }):wpAny (model prog w) A (pyIter (.ref S)) Q E s:=by
 have hT:=h.typeIs;have h0:=h;obtain⟨o,ho,hx,hd⟩:=h;refine wpAny_pyIter_slot hT F.slot_set_iter (wpAny_call_entry F.slot_set_iter hT R4 ?_ (F.args_set_iter_1 _));unfold Builtin.«frozenset.__iter__»;refine ZZ ?_;unfold Builtin.Frozenset.slot0;refine ZZ (m:=slotArgs _ _ _) (ZY ?_);show wpAny _ _ (pure S) _ _ s;refine ZY ?_;unfold Builtin.Frozenset.sizeOf;refine ZZ (ZZ (wpAny_setEntries_of ho hd R.fit (ZY ?_)));refine ZZ (OE R h0 ?_);simp only[Bool.false_eq_true,if_false];refine ZZ (ZY ?_);unfold setEpoch;refine ZZ (ZZ (wpAny_setState_of ho hd R.fit (ZY ?_)));refine ZZ (wpAny_newObj_type (ZY ⟨_,rfl,"set_iterator",_,⟨_,Heap.get?_push_size _ rfl,rfl⟩,rG.lookup,?_⟩));exact q
theorem ES(p:l.Pairwise (· < ·)){i:Nat}(hi:i<l.length):below l.toArray (l[i]+1)=i+1:=by
 obtain⟨b1,b2,b3⟩:=qU p (l[i]+1);have h1:i<below l.toArray (l[i]+1):=by
  apply ZS;intro z;have:=b3 i hi (by lia)
  lia
 apply ZS;intro z;have h2:i+1<below l.toArray (l[i]+1):=by lia
 have h3:=b2 (i+1) (by lia) h2;have:=List.pairwise_iff_getElem.mp p i (i+1) hi (by lia) (by lia)
 lia
theorem ER(p:l.Pairwise (· < ·)):below l.toArray 0=0:=by
 obtain⟨b1,b2,b3⟩:=qU p 0;apply ZS;intro z;have:=b2 0 (by lia) (by lia)
 lia
def Stt(w:World)(I S:Addr)(es:Array (Int×Value))(ep:Nat)(t:SetTable)(l:List Nat)(i:Nat)(h:Heap):Prop:=(∃slot,h.get? I=some (itO slot i S es.size ep)∧(byT w=false→below l.toArray slot=i))∧AtS S es ep t h
theorem FG(R:Src w S es ep t l)(h:AtS S es ep t s.heap){slot i:Nat}(hs:byT w=false→below l.toArray slot=i){Q:Option (Value×Nat)→Shared→Prop}
  (q1:∀x,(mF w S ep es)[i]?=some x→∀slot',(byT w=false→i<l.length→below l.toArray slot'=i+1)→Q (some (x.2,slot')) s) (q2:(mF w S ep es)[i]?=none→Q none s):wpAny (model prog w) A (setNext S slot i ep) Q E s:=by
 obtain⟨o,ho,hx,hd⟩:=h;unfold setNext setsByText;refine ZZ (wpAny_setState_of ho hd R.fit ?_);dsimp only;refine ZZ (ZZ (wpAny_askSetting (ZY ?_)));show wpAny _ _ (if byT w=true then _ else _) _ _ s;cases hb:byT w with
 |true =>
  have ho':mF w S ep es=pickOrder (w.params.setOrder S ep) es:=by unfold mF;rw[hb];rfl
  rw[ho']at q1 q2;simp only[if_true];refine wpAny_ite_split (fun z=>absurd z (by simp)) (fun _=>?_);unfold setWalk setsByText;refine ZZ (ZZ (wpAny_setState_of ho hd R.fit ?_));dsimp only;refine ZZ (ZZ (wpAny_askSetting (ZY ?_)));show wpAny _ _ (if byT w=true then _ else _) _ _ s;rw[hb];simp only[if_true];refine ZZ (wpAny_askSetting ?_);refine ZY (ZY ?_);cases c:(pickOrder (w.params.setOrder S ep) es)[i]? with
  |none=>show Q (Option.map (fun e=>(e.2,slot)) (pickOrder (w.params.setOrder S ep) es)[i]?) s;rw[c];exact q2 c
  |some x=>show Q (Option.map (fun e=>(e.2,slot)) (pickOrder (w.params.setOrder S ep) es)[i]?) s;rw[c];exact q1 x c slot fun z=>absurd (hb.symm.trans z) (by decide)
 |false =>
  have ho':mF w S ep es=es:=by unfold mF;rw[hb];rfl
  rw[ho']at q1 q2;simp only[Bool.false_eq_true,if_false];refine wpAny_ite_split (fun z=>absurd z ?_) (fun _=>?_)
  ·show ¬((!t.plain&&decide (es.size>1))=true);rw[R.pln];simp
  refine ZZ (wpAny_of_eq (a:=()) ?_ ?_)
  ·show(if (!t.led&&!es.isEmpty)=true then _ else _)=_;rw[R.led,hb];rfl
  refine ZY ?_;have eb:below t.place slot=i:=by rw[R.p.pl];exact hs hb
  rw[eb];cases c:es[i]? with
  |none=>exact q2 c
  |some x =>
   have hi:i<l.length:=by rw[R.ln];exact(Array.getElem?_eq_some_iff.mp c).1
   have ep':t.place[i]?=some l[i]:=by rw[R.p.pl];simp[hi]
   rw[ep'];exact q1 x c _ fun _ _=>ES R.p.up hi
theorem LB{h:Heap}{I:Addr}{a b:Value}{xs:Array Value}(h0:h.get? I=some { cls:=.type "set_iterator",data:=.fields xs })(k:Nat)(v:Value):(h.update I (Obj.mapFields (·.setIfInBounds k v))).get? I=some { cls:=.type "set_iterator",data:=.fields (xs.setIfInBounds k v) }:=by
 rw[Heap.get?_update_self _ h0 (Obj.isFreed_of_fields (Obj.data_mapFields rfl _))];rfl
theorem AO{I:Addr}{slot i n:Nat}(h:s.heap.get? I=some (itO slot i S n ep)):s.TypeIs (.ref I) "set_iterator":=⟨_,h,rfl⟩
theorem ON(R:Src w S es ep t l){I:Addr}(hI:S≠I){i:Nat}(h:Stt w I S es ep t l i s.heap){x:Int×Value}(hx:(mF w S ep es)[i]?=some x){Q:Option Value→Shared→Prop}
  (q:∀h',Stt w I S es ep t l (i+1) h'→Heap.SameBut I s.heap h'→Q (some x.2) { s with heap:=h' }):wpAny (model prog w) A (pyNext (.ref I)) Q E s:=by
 obtain⟨⟨slot,hg,hs⟩,hA⟩:=h;have hT:=AO hg;have h0:=hA;obtain⟨o,ho,hex,hd⟩:=hA;unfold pyNext;refine ZZ (wpAny_attempt (wpAny_callSpecial?_slot (name:=ZT "__next__") hT rG (wpAny_call_entry rG hT LY ?_ (MK _))));unfold Builtin.«set_iterator.__next__»;refine ZZ (m:=slotArgs _ _ _) (ZY ?_);refine ZZ (wpAny_fieldsOf hg rfl ?_);dsimp only;refine ZZ (wpAny_setEntries_of ho hd R.fit ?_);refine wpAny_ite_split (fun z=>absurd z (by simp)) (fun _=>?_);simp only[Int.toNat_natCast];refine ZZ (FG R h0 hs (fun y hy slot' hs'=>?_) fun z=>absurd (z.symm.trans hx) (by simp));rw[hx]at hy;cases hy;dsimp only;refine ZZ (wpAny_setField hg rfl (by simp) ?_);have g1:=LB (a:=.none) (b:=.none) hg 0 (rawInt (slot':Int));have sb1:=Heap.SameBut.update s.heap I (Obj.mapFields (·.setIfInBounds 0 (rawInt (slot':Int))));generalize s.heap.update I (Obj.mapFields (·.setIfInBounds 0 (rawInt (slot':Int))))=h1 at g1 sb1 ⊢;refine ZZ (wpAny_setField (s:={ s with heap:=h1 }) g1 rfl (by simp) ?_);have g2:=LB (a:=.none) (b:=.none) g1 1 (rawInt ((i:Int)+1));have sb2:=Heap.SameBut.update h1 I (Obj.mapFields (·.setIfInBounds 1 (rawInt ((i:Int)+1))));show wpAny _ _ (ret x.2) _ _ { s with heap:=h1.update I (Obj.mapFields (·.setIfInBounds 1 (rawInt ((i:Int)+1)))) };generalize h1.update I (Obj.mapFields (·.setIfInBounds 1 (rawInt ((i:Int)+1))))=h2 at g2 sb2 ⊢;have lti:i<es.size:=by rw[←vO w S ep es];exact(Array.getElem?_eq_some_iff.mp hx).1
 refine ZY ⟨_,rfl,ZY (q h2 ⟨⟨slot',g2,fun z=>hs' z (by rw[R.ln];exact lti)⟩,?_⟩ (sb1.trans sb2))⟩;exact⟨o,(sb2.2 S hI).trans ((sb1.2 S hI).trans ho),hex,hd⟩
theorem R3(R:Src w S es ep t l){I:Addr}(hI:S≠I)(hh:A.handled=none){i:Nat}(h:Stt w I S es ep t l i s.heap)(hx:(mF w S ep es)[i]?=none){Q:Option Value→Shared→Prop}
  (q:∀h',Heap.ExtBut I s.heap h'→Q none { s with heap:=h' }):wpAny (model prog w) A (pyNext (.ref I)) Q E s:=by
 obtain⟨⟨slot,hg,hs⟩,hA⟩:=h;have hT:=AO hg;have h0:=hA;obtain⟨o,ho,hex,hd⟩:=hA;unfold pyNext;refine ZZ (wpAny_attempt (wpAny_callSpecial?_slot (name:=ZT "__next__") hT rG (wpAny_call_entry rG hT LY ?_ (MK _))));unfold Builtin.«set_iterator.__next__»;refine ZZ (m:=slotArgs _ _ _) (ZY ?_);refine ZZ (wpAny_fieldsOf hg rfl ?_);dsimp only;refine ZZ (wpAny_setEntries_of ho hd R.fit ?_);refine wpAny_ite_split (fun z=>absurd z (by simp)) (fun _=>?_);simp only[Int.toNat_natCast];refine ZZ (FG R h0 hs (fun y hy=>absurd (hy.symm.trans hx) (by simp)) fun _=>?_);dsimp only;refine ZZ (wpAny_setField hg rfl (by simp) ?_);refine ZZ ?_;simp only[newExc,newTuple];refine ZZ (wpAny_newObj_type ?_ (by size_fits));refine ZZ (m:=firstArgMember _ _) (wpAny_of_eq (a:=Value.none) (by first | rfl | (simp only[firstArgMember];rfl)) ?_);refine wpAny_newObj_type ?_ (by size_fits);simp only[raiseNew];refine ZZ (wpAny_handled ?_);rw[show A.in1.handled=none from hh];refine ZZ (ZY (wpAny_throw ?_));refine ZZ (wpAny_isInstance (T:="StopIteration") (b:=true) ⟨_,Heap.get?_push_size _ rfl,rfl⟩ isSubtype_stop ?_);exact ZY (q _ (((Heap.SameBut.update ..).extBut.push _).push _))
theorem NC{I:Addr}{i:Nat}(h:Stt w I S es ep t l i s.heap){Q:Value→Shared→Prop}(q:Q (.ref I) s):wpAny (model prog w) A (pyIter (.ref I)) Q E s:=by
 obtain⟨⟨slot,hg,hs⟩,hA⟩:=h;have hT:=AO hg;refine wpAny_pyIter_slot hT JH (wpAny_call_entry JH hT OW ?_ (SH _));exact ZY ⟨_,rfl,"set_iterator",_,hT,rG.lookup,q⟩
theorem MV(R:Src w S es ep t l)(hh:A.handled=none)(I:Addr)(hI:S≠I):Walks prog w A I [I,S] [I] es.size (fun i v=>∃x,(mF w S ep es)[i]?=some x∧v=x.2) (fun i h=>Stt w I S es ep t l i h) where
 sub:=fun b hb=>by simp at hb;simp[hb]
 frame:=fun _ _ _ st hk=>⟨let⟨slot,a,b⟩:=st.1;⟨slot,hk I (by simp) _ a,b⟩,let⟨o,a,b⟩:=st.2;⟨o,hk S (by simp) _ a,b⟩⟩
 item:=fun i s Q E hi st hQ=>by
  have hl:i<(mF w S ep es).size:=by rw[vO];exact hi
  have hx:(mF w S ep es)[i]?=some (mF w S ep es)[i]:=Array.getElem?_eq_getElem hl;exact ON R hI st hx fun h' st' sb=>hQ _ h' s.toks ⟨_,hx,rfl⟩ st' fun b o hb e=>sb.extBut b o (fun z=>hb (by simp[z])) e
 done:=fun s Q E st hQ=>R3 R hI hh st (by rw[Array.getElem?_eq_none_iff,vO];exact Nat.le_refl _) fun h' he=>hQ h' s.toks fun b o hb e=>he b o (fun z=>hb (by simp[z])) e
 self:=fun _ _ _ _ st hQ=>NC st hQ
theorem OQ(hT:s.TypeIs (.ref S) "set"){Q:Bool→Shared→Prop}(h:Q false s):wpAny (model prog w) A (Builtin.List.listLengthHint (.ref S)) Q E s:=by
 unfold Builtin.List.listLengthHint;refine ZZ (wpAny_specialOf hT F.slot_set_len.lookup ?_);generalize hid:("set.__len__" : String)=id0
 wp_delta
 rw[show splitId id0=some ("set","__len__") from by subst hid;decide +kernel];subst hid;refine ZZ (wpAny_isInstance (T:="set") (b:=true) hT (by rw[isSubtype_type];kernel_rfl) ?_);refine wpAny_ite_split (fun hab=>absurd hab (by decide)) (fun _=>?_);refine wpAny_ite_split (fun _=>?_) (fun hab=>absurd (by decide +kernel) hab);refine ZZ (wpAny_typeOf hT ?_);exact ZY h
theorem QO(R:Src w S es ep t l):PySem.W.KdlSrc prog w "set" S S es.size (fun i v=>∃x,(mF w S ep es)[i]?=some x∧v=x.2) (AtS S es ep t) where
 type:=fun _ h=>h.typeIs
 there:=fun _ h=>let⟨_,ho,_⟩:=h;⟨Heap.lt_size ho,Heap.lt_size ho⟩
 keep:=fun _ _ h hk=>let⟨o,a,b⟩:=h;⟨o,hk S (.inl rfl) o a,b⟩
 notList:=by decide
 notTuple:=by decide
 hint:=fun _ _ _ _ h hq=>OQ h.typeIs hq
 iter:=fun A s hh h=>⟨_,_,(fun _ _ hq=>OM R h hq),MV R hh _ (let⟨_,ho,_⟩:=h;Nat.ne_of_lt (Heap.lt_size ho)),⟨⟨0,Heap.get?_push_size _ rfl,fun _=>ER R.p.up⟩,let⟨o,a,b⟩:=h;⟨o,Heap.get?_push_of_some _ a,b⟩⟩⟩
end
end ST
set_option maxRecDepth 100000
namespace L2
open PySem PySem.Spec PyProof.Rows
def SJ(P:Program)(w:World)(S:Addr)(xs:ST.Xs)(h:Heap):Prop:=∃o ep t l,h.get? S=some o∧o.ExactSet∧o.data=.set (xs.map (ST.ent P w)).toArray ep t∧ST.Tab t l (xs.map fun x=>ST.hk P w x.1)∧xs.length<t.mask+1∧t.plain=true∧t.led=!ST.byT w
def DO(P:Program)(w:World)(S:Addr)(xs:ST.Xs):HO:=.ext (SJ P w S xs)
theorem M9{P:Program}{w:World}{H:Hp}{h:Heap}{S:Addr}{xs:ST.Xs}(f:SJ P w S xs h):dM P w H h S (DO P w S xs):=by
 refine⟨f,let⟨o,_,_,_,e,_⟩:=f;⟨o,e⟩,fun h1 h2 f1 k=>?_⟩;obtain⟨o,ep,t,l,e,r⟩:=f1;exact⟨o,ep,t,l,k o e,r⟩
theorem NB{P:Program}{w:World}{S:Addr}{xs:ST.Xs}{h:Heap}(x:ST.iT P w (!ST.byT w) h S xs):SJ P w S xs h∧(xs.map (·.1)).Nodup:=by
 obtain⟨o,ep,t,l,ho,hex,hd,T,few,pln,hled,hks,nd⟩:=x;refine⟨⟨o,ep,t,l,ho,hex,hd,T,?_,pln,hled⟩,nd⟩;rcases T.ma with e | e<;>rw[e]at few ⊢<;>lia
theorem CC{P:Program}{w:World}:∀{ks:List Int}{us:List Value},b7 (ks.map V.int) us→ItemsAre (intKind P w) ks us
 |[],_,.nil=>.nil
 |k::ks,_,.cons r t=>by
  obtain⟨u,rfl⟩:=r;exact .cons (by simp[intKind,Value.isInt]) (CC t)
theorem tG{α β:Type}{f:α→β}{l m:List β}(h:l.Perm m):∀{ys:List α},m=ys.map f→∃zs:List α,l=zs.map f∧zs.Perm ys:=by
 induction h with
 |nil=>intro ys e;exact⟨ys,e,List.Perm.refl _⟩
 |cons x _ ih =>
  intro ys e;cases ys with
  |nil=>cases e
  |cons y ys =>
   injection e with e1 e2;obtain⟨zs,a,b⟩:=ih e2;exact⟨y::zs,by rw[e1,a];rfl,b.cons y⟩
 |swap x y l =>
  intro ys e
  match ys,e with
  |y1::y2::ys,e =>
   injection e with e1 e;injection e with e2 e3;exact⟨y2::y1::ys,by rw[e1,e2,e3];rfl,List.Perm.swap _ _ _⟩
 |trans _ _ ih1 ih2 =>
  intro ys e;obtain⟨z2,a2,b2⟩:=ih2 e;obtain⟨z1,a1,b1⟩:=ih1 a2;exact⟨z1,a1,b1.trans b2⟩
theorem J7{α β:Type}{f:α→β}:∀{ys:List α},(ys.map f).Nodup→∀{x y:α},x∈ys→y∈ys→f x=f y→x=y
 |z::ys,nd,x,y,hx,hy,e=>by
  rw[List.map_cons,List.nodup_cons]at nd;rcases Zn.mp hx with hx1 | hx1
  ·rcases Zn.mp hy with hy1 | hy1
   ·rw[hx1,hy1]
   ·exact absurd (by rw[←hx1,e];exact Yn hy1) nd.1
  ·rcases Zn.mp hy with hy1 | hy1
   ·exact absurd (by rw[←hy1,←e];exact Yn hx1) nd.1
   ·exact J7 nd.2 hx1 hy1 e
section
variable{X:Cx}
theorem FM{pins:List (Addr×Obj)}{σ:St}{H:Hp}{s:Shared}(I:Inv X pins σ H s){a:Addr}{ks:List Int}(h:SqT X.K H a (ks.map V.int)):IsTupleKey (intKind X.prog X.w) s.heap ks a:=by
 obtain⟨its,r,⟨o,g1,c1,n,d1⟩,_⟩:=I.tuple h;exact⟨o,its.toArray,n,g1,c1,d1,by simpa using CC r⟩
theorem HZ(hc:X.calm=true)(hu:X.A.units+8<cLine):gW X (.type "set") (fun xs H Q=>∃(p:Addr) (vs:ST.Xs) (dom:List (List Int)),xs=[.ref p]∧SqL X.K H p (vs.map fun x=>V.ref x.2)∧(∀x∈vs,SqT X.K H x.2 (x.1.map V.int))∧dom.length≤17∧(∀x∈vs,x.1∈dom) ∧
  ∀(D:Addr) (ys:ST.Xs),H D=none→ST.Acc vs vs.length ys→(ys.map (·.1)).Nodup→Q (.ref D) (upd H D (DO X.prog X.w D ys))):=by
 intro pins s σ H xs us Q I r h;obtain⟨p,vs,dom,rfl,hq,hk,hd,hv,q⟩:=h;obtain⟨u,rfl,rx⟩:=vals1 r;cases rx;obtain⟨its,r',pl,hz⟩:=I.list hq;have ei:its=vs.map fun x=>Value.ref x.2:=by
  have:(vs.map fun x=>V.ref x.2)=(vs.map (·.2)).map V.ref:=by rw[Yb];rfl
  rw[this]at r';rw[xX r',Yb];rfl
 refine ST.HY (vs:=vs) (I.ok.hd hc) pl.isList (by simpa using ei) (fun x hx=>FM I (hk x hx)) (by show X.A.units+1+1+1<cLine;lia) dom hd hv fun h' tk ys hS ha hkp=>?_;obtain⟨f,nd⟩:=NB hS;exact⟨.ref s.heap.objs.size,_,I.laid (t':=tk) (fun b o e=>hkp b o (Heap.lt_size e) e) (Nat.le_refl _) (M9 f),rfl,q _ ys I.fresh ha nd⟩
theorem A6(hc:X.calm=true)(hu:X.A.units+8<cLine):gW X (.builtin "sorted") (fun xs H Q=>∃(S:Addr) (ys:ST.Xs),xs=[.ref S]∧H S=some (DO X.prog X.w S ys)∧(∀x∈ys,x.1≠[]∧SqT X.K H x.2 (x.1.map V.int))∧ys.length<64∧(ys.map (·.2)).Nodup ∧
  ∀(l:Addr) (zs:ST.Xs),H l=none→zs.Perm ys→(zs.Pairwise fun a b=>SO.lx b.1 a.1=false)→Q (.ref l) (upd H l (.lst (zs.map fun x=>V.ref x.2)))):=by
 intro pins s σ H xs us Q I r h;obtain⟨S,ys,rfl,hS,hk,h64,nd,q⟩:=h;obtain⟨u,rfl,rx⟩:=vals1 r;cases rx;obtain⟨f,_,_⟩:=I.hok S _ hS;obtain⟨o,ep,t,l,ho,hex,hd,T,fw,pln,hled⟩:=f;have sz:((ys.map (ST.ent X.prog X.w)).toArray).size=ys.length:=by simp
 have R:ST.Src X.w S (ys.map (ST.ent X.prog X.w)).toArray ep t l:=⟨T.p,by rw[T.ln];simp,T.fits (by rw[Zq];exact fw) (by simp),pln,hled⟩
 refine Calls.call_function_entry kind_sorted plain_sorted entry_sorted (args_sorted1 _) ?_;unfold Builtin.«sorted»;refine ZZ (m:=checkCount "sorted" 1 1 _) (ZY ?_);refine ZZ (PySem.W.kdu_collect (ST.QO R) (I.ok.hd hc) ⟨o,ho,hex,hd⟩ (by rw[sz];exact YQ (by lia:ys.length≤64) (by decide)) fun h' tk acc hkp it=>?_);obtain⟨zs,ez,pz⟩:∃zs:ST.Xs,acc.toList=zs.map (fun x=>Value.ref x.2)∧zs.Perm ys:=by
  have po:=ST.BZ X.w S ep (ys.map (ST.ent X.prog X.w)).toArray;rw[show(ys.map (ST.ent X.prog X.w)).toArray.toList=ys.map (ST.ent X.prog X.w) from by simp]at po;obtain⟨zs,e1,e2⟩:∃zs:ST.Xs,(ST.mF X.w S ep (ys.map (ST.ent X.prog X.w)).toArray).toList=zs.map (ST.ent X.prog X.w)∧zs.Perm ys:=by
   exact tG po rfl
  refine⟨zs,Yr fun i=>?_,e2⟩;have el:zs.length=ys.length:=e2.length_eq;by_cases c:i<ys.length
  ·have ci:i<acc.size:=by rw[it.1,sz];exact c
   obtain⟨x,h1,h2⟩:=it.2 i acc[i] (Array.getElem?_eq_getElem ci);rw[Array.getElem?_toList,Array.getElem?_eq_getElem ci,h2];rw[←Array.getElem?_toList,e1,Zk,Zz (by lia:i<zs.length)]at h1;rw[Zk,Zz (by lia:i<zs.length)];have h1:=Option.some.inj h1;rw[←h1];rfl
  ·rw[Array.getElem?_toList,Array.getElem?_eq_none (by rw[it.1,sz];lia),Zr (by rw[Zq];lia)]
 have hl':acc.toList.length<64:=by rw[ez,Zq,pz.length_eq];exact h64
 have hz':acc.toList.length≤ZW:=YQ (by lia:acc.toList.length≤64) (by decide);refine ZZ (wpAny_newList ?_ hz');have I1:Inv X pins σ H { s with heap:=h',toks:=tk }:=I.kept hkp;have ho2:(h'.push (seqObj "list" acc.toList.toArray 0)).get? h'.objs.size=some (seqObj "list" acc.toList.toArray 0):=Heap.get?_push_size _ rfl
 let kf:Value→List Int:=fun v=>match v with
  |.ref a=>((ys.find? fun x=>x.2==a).map (·.1)).getD []
  |_=>[]
 have kfx:∀x∈ys,kf (.ref x.2)=x.1:=fun x hx=>by
  show((ys.find? fun y=>y.2==x.2).map (·.1)).getD []=x.1;cases e:ys.find? fun y=>y.2==x.2 with
  |none=>exact absurd (List.find?_eq_none.mp e x hx) (by simp)
  |some y =>
   have h1:=List.find?_some e;have h2:=List.mem_of_find?_eq_some e;have:y=x:=J7 nd h2 hx (by simpa using h1);rw[this];rfl
 have tup1:∀v∈acc.toList,∃x∈ys,v=.ref x.2:=fun v hv=>by
  rw[ez]at hv;obtain⟨x,hx,rfl⟩:=Zh.mp hv;exact⟨x,pz.mem_iff.mp hx,rfl⟩
 have tups:SO.EU h' acc.toList kf:=fun v hv=>by
  obtain⟨x,hx,rfl⟩:=tup1 v hv;obtain⟨its,r2,⟨o',g1,c1,n,d1⟩,_⟩:=I1.tuple (hk x hx).2;exact⟨x.2,o',its.toArray,n,rfl,g1,c1,d1,by rw[kfx x hx];exact(show IntsAre its x.1 from intsAre_of r2)⟩
 have tups2:SO.EU (SO.DF (h'.push (seqObj "list" acc.toList.toArray 0)) h'.objs.size acc.toList) acc.toList kf:=tups.mono fun b o eb=>by
  have hlt:=Heap.lt_size eb;unfold SO.DF;refine Heap.get?_push_of_some _ (Heap.get?_push_of_some _ ?_);rw[Heap.get?_update_other _ _ (Ne.symm (Nat.ne_of_lt hlt))];exact Heap.get?_push_of_some _ eb
 refine ZZ (ZU (wpAny_call_entry slot_list_sort ⟨_,ho2,rfl⟩ entry_list_sort
  (SO.GT (s:={ s with heap:=h'.push (seqObj "list" acc.toList.toArray 0),toks:=tk }) (k:=tuples' true) (ρ:=SO.rank acc.toList kf) ho2 hl' (fun h2 {Q'} q'=>?_) (SO.DU tups2) fun out p u=>⟨_,rfl,?_⟩) (args_list_sort _)))
 ·obtain⟨fs,k,lf,g⟩:=SO.LP tups2 fun v hv=>by
   obtain⟨x,hx,rfl⟩:=tup1 v hv;rw[kfx x hx];exact(hk x hx).1
  refine PySem.W.kat_kind (T:=Value.type "int") k (by lia) (fun v m=>?_) (by decide) q';obtain⟨n,t',rfl⟩:=g v m;exact .now
 ·obtain⟨c1,c2⟩:=SO.MB p u;obtain⟨qs,e1,e2⟩:=tG (f:=fun x:List Int×Addr=>Value.ref x.2) (ys:=zs) c1 ez;obtain⟨e,he⟩:=sortedHeap_at (out:=out.map (·.2)) ho2;have pq:=e2.trans pz;refine ZY ⟨_,rfl,.ref h'.objs.size,_,I1.laid (t':=tk) (fun b o eb=>?_) (Nat.le_refl _) (show dM X.prog X.w _ _ _ (.lst (qs.map fun x=>V.ref x.2)) from⟨?_,(out.map (·.2)).toList,e,?_,he⟩),rfl,q _ qs I1.fresh pq ?_⟩
  ·have hlt:=Heap.lt_size eb;show(sortedHeap _ _ _ _).get? b=_;rw[sortedHeap_old (Nat.ne_of_lt hlt) (by rw[Heap.size_push];exact Xj hlt)];exact Heap.get?_push_of_some _ eb
  ·rw[Zq,pq.length_eq];exact YQ (by lia:ys.length≤64) (by decide)
  ·rw[e1];have a1:(qs.map fun x=>V.ref x.2)=(qs.map (·.2)).map V.ref:=by rw[Yb];rfl
   have a2:(qs.map fun x=>Value.ref x.2)=(qs.map (·.2)).map Value.ref:=by rw[Yb];rfl
   rw[a1,a2];exact yJ _
  ·rw[e1,List.pairwise_map]at c2;refine c2.imp_of_mem fun {a b} ha hb hab=>?_;rw[kfx a (pq.mem_iff.mp ha),kfx b (pq.mem_iff.mp hb)]at hab;exact hab
end
end L2
set_option maxRecDepth 100000
namespace SO
open PySem PyProof PyProof.Rows
open AutoSeq1 (wpAny_loadPart')
def lxL:List (List Int)→List (List Int)→Bool
 |[],[]=>false
 |[],_::_=>true
 |_::_,[]=>false
 |a::r,b::r'=>if a=b then lxL r r' else lx a b
inductive uE(prog:Program)(w:World)(h:Heap):List (List Int)→List Value→Prop
 |nil:uE prog w h [] []
 |cons {k:List Int}{a:Addr}{ks:List (List Int)}{vs:List Value}:IsTupleKey (intKind prog w) h k a→uE prog w h ks vs→uE prog w h (k::ks) (.ref a::vs)
theorem uE.len{prog:Program}{w:World}{h:Heap}:∀{ks:List (List Int)}{vs:List Value},uE prog w h ks vs→vs.length=ks.length
 |_,_,.nil=>rfl
 |_,_,.cons _ t=>by simp[t.len]
theorem uE.at{prog:Program}{w:World}{h:Heap}:∀{ks:List (List Int)}{vs:List Value},uE prog w h ks vs→∀i,i<vs.length→∃k a,ks[i]?=some k∧vs[i]?=some (.ref a)∧IsTupleKey (intKind prog w) h k a
 |_,_,.nil,i,hi=>by simp at hi
 |_,_,.cons h1 _,0,_=>⟨_,_,rfl,rfl,h1⟩
 |_,_,.cons _ t,i+1,hi=>by
  obtain⟨k,a,e1,e2,e3⟩:=t.at i (by simpa using hi);exact⟨k,a,by simpa using e1,by simpa using e2,e3⟩
theorem o6{prog:Program}{w:World}{ks:List Int}{vs:List Value}(h:ItemsAre (intKind prog w) ks vs):IntsAre vs ks:=by
 induction h with
 |nil=>exact .nil
 |cons h1 _ ih=>obtain⟨t,rfl⟩:=Value.isInt_shape h1;exact .cons _ t ih
theorem B9:∀a b:List Int,HT.lexLt a b=lx a b
 |[],[]=>by simp[HT.lexLt,lx]
 |[],_::_=>by simp[HT.lexLt,lx]
 |_::_,[]=>by simp[HT.lexLt,lx]
 |x::a,y::b=>by
  have:=B9 a b;by_cases h:x=y
  ·subst h;simp[HT.lexLt,lx,this]
  ·simp[HT.lexLt,lx,h]
section
variable{prog:Program}{w:World}{A:Around}{R:Result→Shared→Prop}{s:Shared}
theorem KU(l b:Addr)(xs ys:Array Value)(n n2:Nat){d1 d2:Option Addr}{l1 l2:Array (Option Value)}(ns ms:List (List Int))(hu:A.in1.units+8<cLine)(gl:s.heap.get? l=some { cls:=.type "list",dict:=d1,data:=.seq xs n,slots:=l1 })(gb:s.heap.get? b=some { cls:=.type "list",dict:=d2,data:=.seq ys n2,slots:=l2 })(hx:uE prog w s.heap ns xs.toList)(hy:uE prog w s.heap ms ys.toList)(k:Nat) :
  ∀i:Nat,xs.size-i=k→i≤xs.size→i≤ys.size→R (.ok (.ret (.bool (lxL (ns.drop i) (ms.drop i))))) s→codeAny (model prog w) A (.builtin "list.__eq__.loop" ⟨[.ref l,.ref b,rawInt i,rawInt 0],[]⟩) R s:=by
 have lx1:=hx.len;have ly1:=hy.len;simp only[Array.length_toList]at lx1 ly1;induction k with
 |zero =>
  intro i hk q1 q2 h;refine codeAny_builtin MeetsSeq3.entry_eq_loop ?_;rw[Around.under_plainId MeetsSeq3.plain_eq_loop _];obtain⟨hp,g,d,tk,os⟩:=s
  wp_walk using wpAny_loadPart' gl,wpAny_loadPart' gb
  have e1:xs[((i:Nat):Int).toNat]?=none:=by simp;lia
  rw[e1];dsimp only
  wp_walk using wpAny_loadPart' gl,wpAny_loadPart' gb
  show R (.ok (.ret (.bool (decide (xs.size<ys.size))))) _;have e2:ns.drop i=[]:=by simp;lia
  rw[e2]at h;cases e3:ms.drop i with
  |nil =>
   rw[e3]at h;have:ms.length≤i:=by simpa using e3
   rw[decide_eq_false (by lia)];exact h
  |cons u r =>
   rw[e3]at h;have:¬ms.length≤i:=fun g=>by rw[List.drop_eq_nil_of_le g]at e3;cases e3
   rw[decide_eq_true (by lia)];exact h
 |succ k ih =>
  intro i hk q1 q2 h;refine codeAny_builtin MeetsSeq3.entry_eq_loop ?_;rw[Around.under_plainId MeetsSeq3.plain_eq_loop _];obtain⟨a,c,na,ea,ka⟩:=hx.at i (by simp;lia);have da:ns.drop i=a::ns.drop (i+1):=by
   obtain⟨g1,g2⟩:=Zj.mp na;rw[List.drop_eq_getElem_cons g1,g2]
  have e1:xs[((i:Nat):Int).toNat]?=some (.ref c):=by simpa using ea
  have hc:((i:Int)+1)=((i+1:Nat):Int):=by push_cast;rfl
  by_cases cs:i<ys.size
  ·obtain⟨a',c',nb,eb,kb⟩:=hy.at i (by simpa using cs);have e2:ys[((i:Nat):Int).toNat]?=some (.ref c'):=by simpa using eb
   have db:ms.drop i=a'::ms.drop (i+1):=by
    obtain⟨g1,g2⟩:=Zj.mp nb;rw[List.drop_eq_getElem_cons g1,g2]
   rw[da,db]at h;unfold lxL at h;obtain⟨hp,g,d,tk,os⟩:=s
   wp_walk using wpAny_loadPart' gl,wpAny_loadPart' gb
   rw[e1,e2];dsimp only;refine ZZ ((tupleKind (intKind prog w)).eqBool (show A.in1.units<cLine by lia) ka kb ?_);by_cases cc:a=a'
   ·rw[if_pos cc]at h;rw[decide_eq_true cc]
    wp_walk
    rw[hc];exact⟨plainId_quiet MeetsSeq3.plain_eq_loop _,ih (i+1) (by omega) (by lia) (by lia) h⟩
   ·rw[if_neg cc]at h;rw[decide_eq_false cc]
    wp_walk using wpAny_loadPart' gl,wpAny_loadPart' gb
    rw[e1,e2];dsimp only;obtain⟨o1,i1,m1,g1,c1,f1,t1⟩:=ka;obtain⟨o2,i2,m2,g2,c2,f2,t2⟩:=kb;refine ZZ ?_;show wpAny _ A.in1 (compareOp .Lt (.ref c) (.ref c')) _ _ _;refine HT.EA ⟨o1,g1,c1,m1,f1⟩ ⟨o2,g2,c2,m2,f2⟩ (o6 t1) (o6 t2) (by lia) ?_;rw[B9];exact ZY h
  ·obtain⟨hp,g,d,tk,os⟩:=s;have e2:ys[((i:Nat):Int).toNat]?=none:=by simp;lia
   wp_walk using wpAny_loadPart' gl,wpAny_loadPart' gb
   rw[e1,e2];dsimp only
   wp_walk using wpAny_loadPart' gl,wpAny_loadPart' gb
   show R (.ok (.ret (.bool (decide (xs.size<ys.size))))) _;rw[da,List.drop_eq_nil_of_le (by lia:ms.length≤i)]at h;rw[decide_eq_false (by lia)];exact h
theorem KY{E:Value→Shared→Prop}{Q:Value→Shared→Prop}{l b:Addr}{xs ys:Array Value}{ns ms:List (List Int)}(hu:A.units+12<cLine)(gl:s.heap.IsList l xs)(gb:s.heap.IsList b ys)(hx:uE prog w s.heap ns xs.toList)(hy:uE prog w s.heap ms ys.toList)(h:Q (.bool (lxL ns ms)) s) :
  wpAny (model prog w) A (compareOp .Lt (.ref l) (.ref b)) Q E s:=by
 show wpAny _ _ (richCompare .Lt (.ref l) (.ref b)) Q E s;obtain⟨⟨c1,d1,b1,l1⟩,g1,k1,n1,j1⟩:=gl;obtain⟨⟨c2,d2,b2,l2⟩,g2,k2,n2,j2⟩:=gb;simp only at k1 j1 k2 j2;subst k1 j1 k2 j2;have hT:s.TypeIs (.ref l) "list":=⟨_,g1,rfl⟩
 have hT2:s.TypeIs (.ref b) "list":=⟨_,g2,rfl⟩
 refine wpAny_richCompare_same_room (op:=.Lt) (T:="list") hT hT2 DX (wpAny_call (codeAny_call_builtin DX.plain PySem.F.entry_list_lt (DX.check _ _ _ _ _ _ _ _ hT (PySem.F.args_list_lt_2 _ _) ?_))) (by lia);have f3:=AutoSeq1.sub_list_list;obtain⟨hp,g,d,tk,os⟩:=s
 wp_walk using wpAny_loadPart' g1,wpAny_loadPart' g2
 refine⟨plainId_quiet MeetsSeq3.plain_eq_loop _,KU l b xs ys n1 n2 ns ms (by show A.units+1+8<cLine;lia) g1 g2 hx hy _ 0 rfl (Nat.zero_le _) (Nat.zero_le _) ⟨(fun z=>by cases z),h⟩⟩
end
end SO
namespace L2
open PySem PySem.Spec PyProof.Rows
section
variable{X:Cx}
theorem AB{pins:List (Addr×Obj)}{σ:St}{H:Hp}{s:Shared}(I:Inv X pins σ H s):∀{xs:ST.Xs}{us:List Value},(∀x∈xs,SqT X.K H x.2 (x.1.map V.int))→b7 (xs.map fun x=>V.ref x.2) us→SO.uE X.prog X.w s.heap (xs.map (·.1)) us
 |[],_,_,.nil=>.nil
 |x::xs,_,h,.cons r t=>by
  cases r;exact .cons (FM I (h x Zd)) (AB I (fun y hy=>h y (Zw _ hy)) t)
theorem RE(hu:X.A.units+12<cLine):OpR X (compareOp .Lt) (fun x y H Q=>∃(a b:Addr) (xs ys:ST.Xs),x=.ref a∧y=.ref b∧SqL X.K H a (xs.map fun x=>V.ref x.2)∧SqL X.K H b (ys.map fun x=>V.ref x.2)∧(∀x∈xs,SqT X.K H x.2 (x.1.map V.int))∧(∀x∈ys,SqT X.K H x.2 (x.1.map V.int))∧Q (.bl (SO.lxL (xs.map (·.1)) (ys.map (·.1)))) H):=by
 intro pins s σ H x y v u Q I rx ry h;obtain⟨a,b,xs,ys,rfl,rfl,ha,hb,hx,hy,q⟩:=h;cases rx;cases ry;obtain⟨i1,r1,p1,_⟩:=I.list ha;obtain⟨i2,r2,p2,_⟩:=I.list hb;exact SO.KY hu p1.isList p2.isList (by simpa using AB I hx r1) (by simpa using AB I hy r2) ⟨.bl _,H,I,rfl,q⟩
end
end L2
namespace L2
open PySem PySem.Spec PyProof.Rows
section
variable{X:Cx}
theorem nW{pins:List (Addr×Obj)}{σ:St}{H:Hp}{s:Shared}(I:Inv X pins σ H s):∀{xs:List V}{ds:List PyData}{us:List Value},Bds X.K H xs ds→b7 xs us→us.length=ds.length∧∀(i:Nat) u d,us[i]?=some u→ds[i]?=some d→∃as,Reads s.heap u d as
 |_,_,_,.nil,.nil=>⟨rfl,fun i u d h=>by simp at h⟩
 |_,_,_,.cons b bs,.cons r t=>by
  obtain⟨h1,h2⟩:=nW I bs t;refine⟨by simp[h1],fun i u d e1 e2=>?_⟩;cases i with
  |zero =>
   simp only[List.getElem?_cons_zero,Option.some.injEq]at e1 e2;subst e1;subst e2;exact b.reads I r
  |succ i =>
   simp only[List.getElem?_cons_succ]at e1 e2;exact h2 i u d e1 e2
open Classical in
noncomputable def t8(h:Heap)(dx:PyData)(u:Value):Bool:=if ∃d as,d.canLay0=true∧Reads h u d as∧PyData.eqv d dx=true then true else false
theorem DT{h:Heap}{dx d:PyData}{u:Value}{as:List Addr}(r:Reads h u d as)(c:d.canLay0=true):t8 h dx u=PyData.eqv d dx:=by
 unfold t8;cases e:PyData.eqv d dx with
 |true=>rw[if_pos ⟨d,as,c,r,e⟩]
 |false =>
  rw[if_neg];rintro⟨d',as',c',r',e'⟩;have:=SeqAt.Reads.unique d' d u as' as c' r' r;subst this;rw[e]at e';cases e'
theorem BA{h:Heap}{dx:PyData}:∀{us:List Value}{ds:List PyData},us.length=ds.length→(∀(i:Nat) u d,us[i]?=some u→ds[i]?=some d→∃as,Reads h u d as)→(∀d∈ds,d.canLay0=true)→us.any (t8 h dx)=ds.any fun d=>PyData.eqv d dx
 |[],[],_,_,_=>rfl
 |u::us,d::ds,hl,hr,hc=>by
  obtain⟨as,r⟩:=hr 0 u d rfl rfl;rw[List.any_cons,List.any_cons,DT r (hc d Zd),BA (by simpa using hl) (fun i u' d' e1 e2=>hr (i+1) u' d' (by simpa using e1) (by simpa using e2)) fun d' hd=>hc d' (Zw _ hd)]
def smD(d:PyData):Prop:=d.canLay0=true∧d.depth≤8
theorem EK{pins:List (Addr×Obj)}{σ:St}{H:Hp}{s:Shared}(I:Inv X pins σ H s){A:Around}(hu:A.units+8<cLine){x:V}{v:Value}{dx:PyData}(bx:Bd X.K H x dx)(rx:RelV x v)(cx:smD dx){us:List Value}{ds:List PyData}(hl:us.length=ds.length)(hr:∀(i:Nat) u d,us[i]?=some u→ds[i]?=some d→∃as,Reads s.heap u d as)(hc:∀d∈ds,smD d):∀u∈us,SeqAt.EqAt A s u v (t8 s.heap dx u):=fun u hm=>by
 obtain⟨i,hi,rfl⟩:=Yg.mp hm;have h2:ds[i]?=some (ds[i]'(by lia)):=Zz (by lia);obtain⟨as,r⟩:=hr i _ _ (Zz hi) h2;obtain⟨bs,r2⟩:=bx.reads I rx;have c:=hc _ (Zg h2);rw[DT r c.1];refine SeqAt.eqAt_reads _ dx A s _ v as bs r r2 c.1 cx.1 ?_;have:=Nat.min_le_right (ds[i]'(by lia)).depth dx.depth;have:=cx.2
 lia
def Q5(K:PySem.W.Frag)(neg:Bool):R2:=fun x y H Q=>∃p xs dx ds,y=.ref p∧SqL K H p xs∧Bd K H x dx∧Bds K H xs ds∧smD dx∧(∀d∈ds,smD d)∧Q (.bl (if neg then !(ds.any fun d=>PyData.eqv d dx) else ds.any fun d=>PyData.eqv d dx)) H
theorem rZ(hu:X.A.units+64<cLine):OpR X (compareOp .In) (Q5 X.K false):=by
 intro pins s σ H x y v u Q I rx ry h;obtain⟨p,xs,dx,ds,rfl,hq,bx,bs,cx,cs,q⟩:=h;cases ry;obtain⟨its,r,pl,hz⟩:=I.list hq;obtain⟨hl,hr⟩:=nW I bs r;refine SeqAt.in_listAt (t8 s.heap dx) pl.isList (fun w hw=>EK I (by show X.A.units+1+8<cLine;lia) bx rx cx hl hr cs w (by simpa using hw)) ⟨.bl _,H,I,rfl,?_⟩;rw[show its.toArray.any (t8 s.heap dx)=its.any (t8 s.heap dx) by simp,BA hl hr fun d hd=>(cs d hd).1];exact q
theorem rY(hu:X.A.units+64<cLine):OpR X (compareOp .NotIn) (Q5 X.K true):=by
 intro pins s σ H x y v u Q I rx ry h;obtain⟨p,xs,dx,ds,rfl,hq,bx,bs,cx,cs,q⟩:=h;cases ry;obtain⟨its,r,pl,hz⟩:=I.list hq;obtain⟨hl,hr⟩:=nW I bs r;refine SeqAt.notIn_listAt (t8 s.heap dx) pl.isList (fun w hw=>EK I (by show X.A.units+1+8<cLine;lia) bx rx cx hl hr cs w (by simpa using hw)) ⟨.bl _,H,I,rfl,?_⟩;rw[show its.toArray.any (t8 s.heap dx)=its.any (t8 s.heap dx) by simp,BA hl hr fun d hd=>(cs d hd).1];exact q
def E4(K:PySem.W.Frag):V→List V→Hp→VK→Prop:=fun x vs H Q=>∃(l:Addr) (xs:List V) (v:V) (dx:PyData) (ds:List PyData) (j:Nat),x=.ref l∧vs=[v]∧H l=some (.lst xs)∧Bd K H v dx∧Bds K H xs ds∧smD dx∧(∀d∈ds,smD d)∧(∃d,ds[j]?=some d∧PyData.eqv d dx=true)∧(∀m d,m<j→ds[m]?=some d→PyData.eqv d dx=false)∧Q (vn j) H
theorem HH(hu:X.A.units+64<cLine):MtM X "list.index" (E4 X.K):=by
 intro pins s σ H x vs v us Q I rx rv h;obtain⟨l,xs,k,dx,ds,j,rfl,rfl,hH,bx,bs,cx,cs,⟨dj,ej,hj⟩,hm,q⟩:=h;cases rx;obtain⟨u,rfl,ru⟩:=rv.one;obtain⟨z,its,n,r,hl',e⟩:=I.lstM hH;obtain⟨hl,hr⟩:=nW I bs r;have item:∀(m:Nat) (hm:m<its.toArray.size) (d:PyData),ds[m]?=some d→t8 s.heap dx its.toArray[m]=PyData.eqv d dx:=fun m hm' d hd=>by
  obtain⟨as,r'⟩:=hr m its.toArray[m] d (by simp at hm' ⊢) hd;exact DT r' (cs d (Zg hd)).1
 have hj':j<ds.length:=(Zj.mp ej).1;have hsm:((j:Nat):Int)<2 ^ 63-1:=by
  have h1:=iL;have:=r.length
  lia
 refine call_meets F.slot_list_index ⟨_,e,rfl⟩ F.entry_list_index (F.args_list_index_2 _ _) (SeqAt.list_indexAt l its.toArray n none #[] u (t8 s.heap dx) j (by rw[List.size_toArray];lia) hsm ?_ ?_) ⟨e,fun y hy=>?_,?_⟩
 ·rw[item j _ dj ej];exact hj
 ·intro m hm' hlt;rw[item m hm' ds[m] (Zz (by lia))];exact hm m _ hlt (Zz (by lia))
 ·exact EK I (by show X.A.units+1+8<cLine;lia) bx ru cx hl hr cs y (by simpa using hy)
 ·exact⟨vn j,H,I.tok _,⟨_,rfl⟩,q⟩
end
end L2
namespace L2
open PySem PySem.Spec PyProof.Rows
theorem xQ(its:List Value):slicePick its.toArray none none (some 1)=its.toArray:=by
 have h:=oR its none none;have e:slicePick its.toArray none none (some 1)=slicePick its.toArray none none none:=by
  unfold slicePick;rw[show sliceBounds none none (some 1) its.toArray.size=sliceBounds none none none its.toArray.size from rfl]
 rw[e,h];simp[HT.sIx]
section
variable{X:Cx}{e ste:Expr}{te:TE}{lo hi:Option Expr}{tl th tk:TO}{pos p2:Pos}
def VM(K:PySem.W.Frag):V→Option Int→Option Int→Option Int→Hp→VK→Prop:=fun x lo hi st H Q=>∃a xs k,x=.ref a∧SqL K H a xs∧lo=none∧hi=none∧st=some k∧(k=1∨k = -1)∧∀p,H p=none→Q (.ref p) (upd H p (.lst (if k=1 then xs else xs.reverse)))
def U3(K:PySem.W.Frag)(te:TE)(tl th tk:TO):TE:=fun σ H Q=>te σ H fun x H1=>tl σ H1 fun l H2=>th σ H2 fun u H3=>tk σ H3 fun k H4=>VM K x l u k H4 Q
theorem yO(he:PE X e te)(hl:PO X lo tl)(hu:PO X hi th)(hk:PO X (some ste) tk):PE X (.Subscript e (.Slice lo hi (some ste) p2) pos) (U3 X.K te tl th tk):=by
 intro pins s σ H Q I h;refine Subscript_ (thn (he pins s σ H _ I h) fun v s1 ⟨x,H1,I1,r1,q1⟩=>?_);refine wpAny_Slice (thn (hl pins s1 σ H1 _ I1 q1) fun vl s2 ⟨l,H2,I2,pl,q2⟩=>thn (hu pins s2 σ H2 _ I2 q2) fun vu s3 ⟨u,H3,I3,pu,q3⟩=>thn (hk pins s3 σ H3 _ I3 q3) fun vk s4 ⟨k,H4,I4,pk,q4⟩=>?_);have I5:Inv X pins σ H4 { s4 with heap:=s4.heap.push { cls:=.type "slice",data:=.fields #[vl,vu,vk] } }:=I4.kept (t':=s4.toks) fun b ob q=>Heap.get?_push_of_some _ q;obtain⟨a,xs,n,rfl,hx,rfl,rfl,rfl,hh,q⟩:=q4;cases r1;obtain⟨its,r,ht,hz⟩:=I5.list hx;have hlen:=r.length;show wpAny (model X.prog X.w) X.A (subscriptTail e (.Slice lo hi (some ste) p2) (.ref a) (.ref s4.heap.objs.size)) (EP X pins σ Q) X.xe { s4 with heap:=s4.heap.push { cls:=.type "slice",data:=.fields #[vl,vu,vk] } };refine tail_any (ops:=[.ref a,.ref s4.heap.objs.size]) ht.isList.typeIs slot_list_getitem.lookup (wpAny_getItem_list_slice ht.isList (Heap.IsSliceOf.new ..) pl pu pk (by rcases hh with rfl | rfl<;>simp) ?_ (by rw[List.size_toArray]<;>lia)) (by with_unfolding_all rfl);rcases hh with rfl | rfl
 ·rw[xQ];refine⟨.ref _,_,I5.laid (o:=.lst xs) (fun b ob q=>Heap.get?_push_of_some _ q) (Nat.le_refl _) ?_,rfl,q _ (I5.hok.fresh (Nat.le_refl _))⟩;exact⟨hz,_,0,r,Heap.get?_push_size _ rfl⟩
 ·rw[oQ];refine⟨.ref _,_,I5.laid (o:=.lst xs.reverse) (fun b ob q=>Heap.get?_push_of_some _ q) (Nat.le_refl _) ?_,rfl,q _ (I5.hok.fresh (Nat.le_refl _))⟩;exact⟨by rw[Yt];exact hz,_,0,r.reverse,Heap.get?_push_size _ rfl⟩
end
end L2
namespace GR
abbrev Pt:=Int×Int
abbrev Sts:=List (Pt×Pt)
def dx(k:Nat):Int:=[1,0,-1,0].getD k 0
def dy(k:Nat):Int:=[0,1,0,-1].getD k 0
def dr(p:Pt)(k:Nat):Pt:=(p.1+dx k,p.2+dy k)
def Adj(S:Sts)(p q:Pt):Prop:=(p,q)∈S∨(q,p)∈S
instance (S:Sts) (p q:Pt):Decidable (Adj S p q):=inferInstanceAs (Decidable (_∨_))
def nb(S:Sts)(p:Pt):List Pt:=((List.range 4).map (dr p)).filter fun q=>decide (Adj S p q)
def Unit(S:Sts):Prop:=∀p q,(p,q)∈S→q=dr p 0∨q=dr p 1
theorem Adj.symm{S:Sts}{p q:Pt}(h:Adj S p q):Adj S q p:=h.elim .inr .inl
theorem R5{p:Pt}:∀{i j:Nat},i<4→j<4→dr p i=dr p j→i=j:=by
 intro i j hi hj h;have h1:p.1+dx i=p.1+dx j:=congrArg Prod.fst h;have h2:p.2+dy i=p.2+dy j:=congrArg Prod.snd h;have h1:dx i=dx j:=by lia
 have h2:dy i=dy j:=by lia
 have key:∀i,i<4→∀j,j<4→dx i=dx j→dy i=dy j→i=j:=by decide
 exact key i hi j hj h1 h2
theorem MJ{S:Sts}(u:Unit S){p q:Pt}(h:Adj S p q):∃k,k<4∧q=dr p k:=by
 rcases h with h | h
 ·rcases u p q h with h | h
  ·exact⟨0,by decide,h⟩
  ·exact⟨1,by decide,h⟩
 ·rcases u q p h with h | h
  ·refine⟨2,by decide,?_⟩;rw[h];show q=(q.1+1+-1,q.2+0+0)
   rw[show q.1+1+-1=q.1 by lia,show q.2+0+0=q.2 by lia]
  ·refine⟨3,by decide,?_⟩;rw[h];show q=(q.1+0+0,q.2+1+-1)
   rw[show q.1+0+0=q.1 by lia,show q.2+1+-1=q.2 by lia]
theorem MI{S:Sts}(u:Unit S){p:Pt}(h:Adj S p p):False:=by
 have key:∀k,k<4→¬(dx k=0∧dy k=0):=by decide
 obtain⟨k,hk,e⟩:=MJ u h;have h1:p.1=p.1+dx k:=congrArg Prod.fst e;have h2:p.2=p.2+dy k:=congrArg Prod.snd e;exact key k hk ⟨by lia,by lia⟩
theorem dY{S:Sts}(u:Unit S){p q:Pt}:q∈nb S p↔Adj S p q:=by
 unfold nb;rw[Yz,decide_eq_true_iff,Zh];constructor
 ·exact fun h=>h.2
 ·intro h;obtain⟨k,hk,e⟩:=MJ u h;exact⟨⟨k,Zs.mpr hk,e.symm⟩,h⟩
theorem fZ{α β:Type}{f:α→β}:∀{l:List α},l.Nodup→(∀x∈l,∀y∈l,f x=f y→x=y)→(l.map f).Nodup
 |[],_,_=>List.nodup_nil
 |a::l,nd,h=>by
  obtain⟨n1,n2⟩:=List.nodup_cons.mp nd;rw[List.map_cons,List.nodup_cons];refine⟨fun z=>?_,fZ n2 fun x hx y hy=>h x (Zw _ hx) y (Zw _ hy)⟩;obtain⟨x,hx,e⟩:=Zh.mp z;have:=h x (Zw _ hx) a Zd e;exact n1 (this▸hx)
theorem qB(S:Sts)(p:Pt):(nb S p).Nodup:=by
 exact List.Pairwise.filter _ (fZ List.nodup_range fun i hi j hj e=>R5 (Zs.mp hi) (Zs.mp hj) e)
theorem vU(S:Sts)(p:Pt):(nb S p).length≤4:=by
 unfold nb;refine YQ (List.length_filter_le _ _) ?_;rw[Zq,Yj];exact Nat.le_refl _
theorem of_two{S:Sts}{p a b c:Pt}(h2:(nb S p).length=2)(ha:a∈nb S p)(hb:b∈nb S p)(hc:c∈nb S p)(hab:a≠b):c=a∨c=b:=by
 match e:nb S p,h2 with
 |[x,y],_ =>
  rw[e]at ha hb hc;simp only[Zn,List.not_mem_nil,or_false]at ha hb hc;rcases ha with rfl | rfl<;>rcases hb with rfl | rfl<;>rcases hc with rfl | rfl<;>first | exact absurd rfl hab | exact .inl rfl | exact .inr rfl
structure Pls(S:Sts)(Pl:List Pt):Prop where
 u:Unit S
 nd:Pl.Nodup
 on:∀p∈Pl,∃q,Adj S p q
 al:∀p q,Adj S p q→p∉Pl→(nb S p).length=2
structure Tr(S:Sts)(Pl:List Pt)(r:List Pt):Prop where
 len:2≤r.length
 fst:∀a,r[0]?=some a→a∈Pl
 adj:∀(i:Nat) a b,r[i]?=some a→r[i+1]?=some b→Adj S a b
 trn:∀(i:Nat) a b,r[i]?=some a→r[i+2]?=some b→a≠b
 mid:∀(i:Nat) a,0<i→i+1<r.length→r[i]?=some a→a∉Pl
theorem aK{α:Type}{l:List α}{i:Nat}(h:i<l.length):l[i]?=some l[i]:=Zz h
theorem Tr.two{S:Sts}{Pl:List Pt}{r:List Pt}(P:Pls S Pl)(t:Tr S Pl r){i:Nat}{a:Pt}(h0:0<i)(h:r[i]?=some a)(hp:a∉Pl):(nb S a).length=2:=by
 obtain⟨k,rfl⟩:∃k,i=k+1:=⟨i-1,by lia⟩
 have hi:=(Zj.mp h).1;exact P.al a _ (t.adj k _ a (aK (by lia)) h).symm hp
theorem Tr.once{S:Sts}{Pl:List Pt}{r:List Pt}(P:Pls S Pl)(t:Tr S Pl r):∀(j i:Nat) (a:Pt),0<i→i<j→r[i]?=some a→r[j]?=some a→a∉Pl→False:=by
 intro j;induction j using Nat.strongRecOn with
 |ind j ih =>
  intro i a h0 hij ha hb hp;have hj:=(Zj.mp hb).1;have h2:=t.two P h0 ha hp;obtain⟨k,rfl⟩:∃k,i=k+1:=⟨i-1,by lia⟩
  obtain⟨m,rfl⟩:∃m,j=m+1:=⟨j-1,by lia⟩
  have hk:=aK (l:=r) (i:=k) (by lia);have hk2:=aK (l:=r) (i:=k+2) (by lia);have hm:=aK (l:=r) (i:=m) (by lia);have n1:=(dY P.u).mpr (t.adj k _ a hk ha).symm;have n2:=(dY P.u).mpr (t.adj (k+1) a _ ha hk2);have n3:=(dY P.u).mpr (t.adj m _ a hm hb).symm;have hmm:r[m]∉Pl:=t.mid m _ (by lia) (by lia) hm;rcases of_two h2 n1 n2 n3 (t.trn k _ _ hk hk2) with e | e
  ·by_cases c:k=0
   ·subst c;exact hmm (t.fst _ (by rw[e];exact hk))
   ·exact ih m (by lia) k r[m] (by lia) (by lia) (by rw[e];exact hk) hm hmm
  ·by_cases c:k+2<m
   ·exact ih m (by lia) (k+2) r[m] (by lia) c (by rw[e];exact hk2) hm hmm
   ·by_cases c2:k+2=m
    ·subst c2;exact t.trn (k+1) a a ha hb rfl
    ·have:m=k+1:=by lia
     subst this;exact MI P.u (t.adj (k+1) a a ha hb)
theorem sub_len{α:Type}[DecidableEq α]:∀{a b:List α},a.Nodup→(∀x∈a,x∈b)→a.length≤b.length
 |[],_,_,_=>Nat.zero_le _
 |x::a,b,nd,h=>by
  have hx:=h x Zd;obtain⟨n1,n2⟩:=List.nodup_cons.mp nd;have:=sub_len (a:=a) (b:=b.erase x) n2 fun y hy=>(List.mem_erase_of_ne (show y≠x from fun z=>n1 (by rw[←z];exact hy))).mpr (h y (Zw _ hy));rw[List.length_erase_of_mem hx]at this;have:=List.length_pos_of_mem hx;simp only[Yq];lia
theorem Tr.short{S:Sts}{Pl:List Pt}{r:List Pt}(P:Pls S Pl)(t:Tr S Pl r)(hl:∀a,r.getLast?=some a→a∉Pl){Ps:List Pt}(hP:∀p q,Adj S p q→p∈Ps):r.length≤Ps.length+1:=by
 have hlen:=t.len;have np:∀(i:Nat) a,0<i→r[i]?=some a→a∉Pl:=fun i a h0 h=>by
  by_cases c:i+1<r.length
  ·exact t.mid i a h0 c h
  ·have hi:=(Zj.mp h).1;exact hl a (by rw[List.getLast?_eq_getElem?,show r.length-1=i by lia];exact h)
 have nd:(r.drop 1).Nodup:=by
  rw[List.nodup_iff_pairwise_ne,List.pairwise_iff_getElem];intro i j hi hj hij e;rw[Ym]at hi hj;rw[List.getElem_drop,List.getElem_drop]at e;have h1:=aK (l:=r) (i:=1+i) (by omega);have h2:=aK (l:=r) (i:=1+j) (by omega);exact t.once P (1+j) (1+i) r[1+i] (by lia) (by lia) h1 (by rw[e];exact h2) (np _ _ (by lia) h1)
 have:=sub_len nd (b:=Ps) fun x hx=>by
  obtain⟨i,hi,rfl⟩:=Yg.mp hx;rw[Ym]at hi;rw[List.getElem_drop];have h1:=aK (l:=r) (i:=1+i) (by lia);have h0:=aK (l:=r) (i:=i) (by omega);exact hP _ _ (t.adj i _ _ h0 (by rw[Nat.add_comm];exact h1)).symm
 rw[Ym]at this
 lia
theorem Tr.start{S:Sts}{Pl:List Pt}{p q:Pt}(hp:p∈Pl)(h:Adj S p q):Tr S Pl [p,q] where
 len:=Nat.le_refl _
 fst:=fun a e=>by simp at e;exact e▸hp
 adj:=fun i a b e1 e2=>by
  match i with
  |0=>simp at e1 e2;rw[←e1,←e2];exact h
  |i+1=>simp at e2
 trn:=fun i a b e1 e2=>by simp at e2
 mid:=fun i a h0 hl e=>by simp at hl;lia
theorem Tr.on{S:Sts}{Pl:List Pt}{r:List Pt}(t:Tr S Pl r){a b c:Pt}(ha:r[r.length-2]?=some a)(hb:r[r.length-1]?=some b)(hbp:b∉Pl)(hc:Adj S b c)(hac:c≠a):Tr S Pl (r++[c]) where
 len:=by have:=t.len;simp;lia
 fst:=fun x e=>t.fst x (by rw[Zx (by have:=t.len;lia)]at e;exact e)
 adj:=fun i x y e1 e2=>by
  have hl:=t.len;by_cases q:i+1<r.length
  ·rw[Zx (by lia)]at e1 e2;exact t.adj i x y e1 e2
  ·have hi:=(Zj.mp e2).1;simp at hi;have:i=r.length-1:=by omega
   subst this;rw[Zx (by lia),hb]at e1;rw[show r.length-1+1=r.length by lia,Zy (Nat.le_refl _)]at e2;simp at e1 e2;rw[←e1,←e2];exact hc
 trn:=fun i x y e1 e2=>by
  have hl:=t.len;by_cases q:i+2<r.length
  ·rw[Zx (by lia)]at e1 e2;exact t.trn i x y e1 e2
  ·have hi:=(Zj.mp e2).1;simp at hi;have:i=r.length-2:=by omega
   subst this;rw[Zx (by lia),ha]at e1;rw[show r.length-2+2=r.length by lia,Zy (Nat.le_refl _)]at e2;simp at e1 e2;rw[←e1,←e2];exact fun z=>hac z.symm
 mid:=fun i x h0 hl' e=>by
  simp at hl';rw[Zx hl']at e;by_cases q:i+1<r.length
  ·exact t.mid i x h0 q e
  ·have:i=r.length-1:=by omega
   subst this;rw[hb]at e;rw[←Option.some.inj e];exact hbp
theorem KN{S:Sts}{Pl:List Pt}{r:List Pt}(P:Pls S Pl)(t:Tr S Pl r){a b:Pt}(ha:r[r.length-2]?=some a)(hb:r[r.length-1]?=some b)(hbp:b∉Pl):∃c,(nb S b).filter (fun x=>decide (x≠a))=[c]∧Adj S b c∧c≠a:=by
 have hl:=t.len;have h2:=t.two P (by omega) hb hbp;have han:=(dY P.u).mpr (t.adj (r.length-2) a b ha (by rw[show r.length-2+1=r.length-1 by lia];exact hb)).symm;have nd:=qB S b;have mm:∀c,c∈nb S b→Adj S b c:=fun c hc=>(dY P.u).mp hc
 match e:nb S b,h2 with
 |[x,y],_ =>
  rw[e]at han nd mm;simp only[Zn,List.not_mem_nil,or_false]at han;have hxy:x≠y:=by simp at nd;exact nd
  rcases han with rfl | rfl
  ·exact⟨y,by simp[Ne.symm hxy],mm y (by simp),Ne.symm hxy⟩
  ·exact⟨x,by simp[hxy],mm x (by simp),hxy⟩
structure En(S:Sts)(Pl:List Pt)(r:List Pt):Prop where
 t:Tr S Pl r
 lst:∀a,r[r.length-1]?=some a→a∈Pl
theorem En.rev{S:Sts}{Pl:List Pt}{r:List Pt}(e:En S Pl r):En S Pl r.reverse:=by
 have hl:=e.t.len;have g:∀(i:Nat),i<r.length→r.reverse[i]?=r[r.length-1-i]?:=fun i hi=>Yd hi;have lt:∀{i:Nat}{a:Pt},r.reverse[i]?=some a→i<r.length:=fun h=>by simpa using(Zj.mp h).1
 refine⟨⟨by simpa using hl,fun a h=>?_,fun i a b h1 h2=>?_,fun i a b h1 h2=>?_,fun i a h0 hlt h=>?_⟩,fun a h=>?_⟩
 ·rw[g 0 (by lia)]at h;exact e.lst a h
 ·have:=lt h2;rw[g i (by lia)]at h1;rw[g (i+1) (by lia)]at h2;exact(e.t.adj (r.length-1-(i+1)) b a h2 (by rw[show r.length-1-(i+1)+1=r.length-1-i by lia];exact h1)).symm
 ·have:=lt h2;rw[g i (by lia)]at h1;rw[g (i+2) (by lia)]at h2;exact fun z=>e.t.trn (r.length-1-(i+2)) b a h2 (by rw[show r.length-1-(i+2)+2=r.length-1-i by lia];exact h1) z.symm
 ·rw[Yt]at hlt;rw[g i (by lia)]at h;exact e.t.mid (r.length-1-i) a (by omega) (by omega) h
 ·rw[Yt,g (r.length-1) (by omega),show r.length-1-(r.length-1)=0 by lia]at h;exact e.t.fst a h
theorem En.one{S:Sts}{Pl:List Pt}{r r':List Pt}(P:Pls S Pl)(e:En S Pl r)(e':En S Pl r')(h0:r[0]?=r'[0]?)(h1:r[1]?=r'[1]?):r=r':=by
 have hl:=e.t.len;have hl':=e'.t.len;have same:∀i:Nat,i<r.length→i<r'.length→r[i]?=r'[i]?:=by
  intro i;induction i using Nat.strongRecOn with
  |ind i ih =>
   intro hi hi'
   match i with
   |0=>exact h0
   |1=>exact h1
   |i+2 =>
    have ea:=ih i (by lia) (by lia) (by lia);have eb:=ih (i+1) (by lia) (by lia) (by lia);have ga:=aK (l:=r) (i:=i) (by lia);have gb:=aK (l:=r) (i:=i+1) (by lia);have gc:=aK (l:=r) (i:=i+2) hi;have gc':=aK (l:=r') (i:=i+2) hi';have n1:=(dY P.u).mpr (e.t.adj i _ _ ga gb).symm;have n2:=(dY P.u).mpr (e.t.adj (i+1) _ _ gb gc);have n3:=(dY P.u).mpr (e'.t.adj (i+1) _ _ (by rw[←eb];exact gb) gc');have h2:=e.t.two P (by lia) gb (e.t.mid (i+1) _ (by lia) (by lia) gb);rw[gc,gc'];rcases of_two h2 n1 n2 n3 (e.t.trn i _ _ ga gc) with z | z
    ·exact absurd z.symm (e'.t.trn i _ _ (by rw[←ea];exact ga) gc')
    ·rw[z]
 have len:r.length=r'.length:=by
  rcases Nat.lt_trichotomy r.length r'.length with c | c | c
  ·exfalso;have g1:=aK (l:=r) (i:=r.length-1) (by omega);have g2:=same (r.length-1) (by omega) (by omega);exact e'.t.mid (r.length-1) _ (by omega) (by omega) (by rw[←g2];exact g1) (e.lst _ g1)
  ·exact c
  ·exfalso;have g1:=aK (l:=r') (i:=r'.length-1) (by omega);have g2:=same (r'.length-1) (by omega) (by omega);exact e.t.mid (r'.length-1) _ (by omega) (by omega) (by rw[g2];exact g1) (e'.lst _ g1)
 refine Yr fun i=>?_;by_cases c:i<r.length
 ·exact same i c (by lia)
 ·rw[Zr (by lia),Zr (by lia)]
theorem En.odd{S:Sts}{Pl:List Pt}{r:List Pt}(P:Pls S Pl)(e:En S Pl r):r≠r.reverse:=fun z=>by
 have hl:=e.t.len;have g:∀(i:Nat),i<r.length→r[i]?=r[r.length-1-i]?:=fun i hi=>by
  have:r.reverse[i]?=r[r.length-1-i]?:=Yd hi;rw[←z]at this;exact this
 rcases Nat.mod_two_eq_zero_or_one r.length with c | c
 ·have g1:=g (r.length / 2-1) (by omega);rw[show r.length-1-(r.length / 2-1)=r.length / 2-1+1 by lia]at g1;have g2:=aK (l:=r) (i:=r.length / 2-1) (by omega);exact MI P.u (e.t.adj (r.length / 2-1) _ _ g2 (by rw[←g1];exact g2))
 ·have g1:=g (r.length / 2-1) (by omega);rw[show r.length-1-(r.length / 2-1)=r.length / 2-1+2 by lia]at g1;have g2:=aK (l:=r) (i:=r.length / 2-1) (by omega);exact e.t.trn (r.length / 2-1) _ _ g2 (by rw[←g1];exact g2) rfl
def hd2(r:List Pt):Option Pt×Option Pt:=(r[0]?,r[1]?)
structure Lt(lt:List Pt→List Pt→Bool):Prop where
 tri:∀a b,a≠b→lt b a=!lt a b
def can(lt:List Pt→List Pt→Bool)(r:List Pt):List Pt:=if lt r r.reverse then r else r.reverse
section
variable{S:Sts}{Pl:List Pt}{lt:List Pt→List Pt→Bool}
theorem MA(lt:List Pt→List Pt→Bool)(r:List Pt):can lt r=r∨can lt r=r.reverse:=by unfold can;split<;>simp
theorem A0(L:Lt lt)(P:Pls S Pl){r:List Pt}(e:En S Pl r):can lt r.reverse=can lt r:=by
 have h:=L.tri r r.reverse (e.odd P);unfold can;rw[List.reverse_reverse,h];cases lt r r.reverse<;>rfl
theorem R6{r r':List Pt}(h:can lt r=can lt r'):r=r'∨r=r'.reverse:=by
 rcases MA lt r with a | a<;>rcases MA lt r' with b | b<;>rw[a,b]at h
 ·exact .inl h
 ·exact .inr h
 ·exact .inr (by rw[←h,List.reverse_reverse])
 ·exact .inl (List.reverse_inj.mp h)
structure Fd(S:Sts)(Pl:List Pt)(lt:List Pt→List Pt→Bool)(D F:List (List Pt)):Prop where
 en:∀r∈F,En S Pl r
 pm:(F.map (can lt)).Perm (D.filter fun r=>lt r r.reverse)
theorem Fd.skip{D F:List (List Pt)}(f:Fd S Pl lt D F){r:List Pt}(h:lt r r.reverse=false):Fd S Pl lt (D++[r]) F :=
 ⟨f.en,by rw[List.filter_append,List.filter_cons,if_neg (by rw[h];exact Bool.false_ne_true),List.filter_nil,List.append_nil];exact f.pm⟩
theorem Fd.put{D F F':List (List Pt)}(L:Lt lt)(P:Pls S Pl)(f:Fd S Pl lt D F){r r':List Pt}(e:En S Pl r)(h:lt r r.reverse=true)(hr:r'=r∨r'=r.reverse)(hF:F'.Perm (r'::F)):Fd S Pl lt (D++[r]) F':=by
 have cr:can lt r'=r:=by
  have:can lt r=r:=by unfold can;rw[if_pos h]
  rcases hr with rfl | rfl
  ·exact this
  ·rw[A0 L P e];exact this
 refine⟨fun x hx=>?_,?_⟩
 ·rcases Zn.mp (hF.mem_iff.mp hx) with rfl | hx
  ·rcases hr with rfl | rfl
   ·exact e
   ·exact e.rev
  ·exact f.en x hx
 ·rw[List.filter_append,List.filter_cons,if_pos h,List.filter_nil];refine(hF.map _).trans ?_;rw[List.map_cons,cr];exact(List.Perm.cons _ f.pm).trans (List.perm_append_comm (l₁:=[r]))
structure Dn(S:Sts)(Pl:List Pt)(D:List (List Pt)):Prop where
 en:∀r∈D,En S Pl r
 hd:D.map hd2=(Pl.flatMap fun p=>(nb S p).map fun o=>(some p,some o))
theorem pK{α β:Type}{f:α→List β}:∀{l:List α},l.Nodup→(∀x∈l,(f x).Nodup)→(∀x∈l,∀y∈l,∀z,z∈f x→z∈f y→x=y)→(l.flatMap f).Nodup
 |[],_,_,_=>List.nodup_nil
 |a::l,nd,h1,h2=>by
  obtain⟨n1,n2⟩:=List.nodup_cons.mp nd;rw[List.flatMap_cons,List.nodup_append];refine⟨h1 a Zd,pK n2 (fun x hx=>h1 x (Zw _ hx)) fun x hx y hy=>h2 x (Zw _ hx) y (Zw _ hy),fun z hz w hw e=>?_⟩;subst e;obtain⟨y,hy,hz'⟩:=Yk.mp hw;have:=h2 a Zd y (Zw _ hy) z hz hz';exact n1 (this▸hy)
theorem gX{α β:Type}{f:α→β}:∀{l:List α},(l.map f).Nodup→l.Nodup
 |[],_=>List.nodup_nil
 |a::l,h=>by
  rw[List.map_cons,List.nodup_cons]at h;exact List.nodup_cons.mpr ⟨fun z=>h.1 (Yn z),gX h.2⟩
theorem Dn.nd{D:List (List Pt)}(P:Pls S Pl)(d:Dn S Pl D):D.Nodup:=by
 refine gX (f:=hd2) ?_;rw[d.hd];refine pK P.nd (fun p _=>fZ (qB S p) fun x _ y _ e=>by injection e with _ e;exact Option.some.inj e) fun x _ y _ z hx hy=>?_;obtain⟨o,_,rfl⟩:=Zh.mp hx;obtain⟨o',_,e⟩:=Zh.mp hy;injection e with e _;exact(Option.some.inj e).symm
theorem Dn.at{D:List (List Pt)}(d:Dn S Pl D){p o:Pt}(hp:p∈Pl)(ho:o∈nb S p):∃r∈D,r[0]?=some p∧r[1]?=some o:=by
 have:(some p,some o)∈D.map hd2:=by
  rw[d.hd];exact Yk.mpr ⟨p,hp,Zh.mpr ⟨o,ho,rfl⟩⟩
 obtain⟨r,hr,e⟩:=Zh.mp this;unfold hd2 at e;injection e with e1 e2;exact⟨r,hr,e1,e2⟩
def wy(F:List (List Pt))(e:Nat):List Pt:=if e%2=0 then F.getD (e / 2) [] else (F.getD (e / 2) []).reverse
structure Rows(S:Sts)(Pl:List Pt)(F:List (List Pt)):Prop where
 en:∀r∈F,En S Pl r
 ex:∀p o,p∈Pl→o∈nb S p→∃e,e<2*F.length∧(wy F e)[0]?=some p∧(wy F e)[1]?=some o
 un:∀e e',e<2*F.length→e' < 2*F.length→(wy F e)[0]?=(wy F e')[0]?→(wy F e)[1]?=(wy F e')[1]?→e=e'
theorem IH{F:List (List Pt)}{e:Nat}(he:e<2*F.length):∃r∈F,F[e / 2]?=some r∧(wy F e=r∨wy F e=r.reverse):=by
 have h:e / 2<F.length:=by lia
 refine⟨F[e / 2],Zp h,aK h,?_⟩;unfold wy;rw[Zv,aK h];split
 ·exact .inl rfl
 ·exact .inr rfl
theorem lR{F:List (List Pt)}(h:∀r∈F,En S Pl r){e:Nat}(he:e<2*F.length):En S Pl (wy F e):=by
 obtain⟨r,hr,_,c | c⟩:=IH he
 ·rw[c];exact h r hr
 ·rw[c];exact(h r hr).rev
theorem Fd.rows{D F:List (List Pt)}(L:Lt lt)(P:Pls S Pl)(f:Fd S Pl lt D F)(d:Dn S Pl D):Rows S Pl F:=by
 have nd:(F.map (can lt)).Nodup:=f.pm.nodup_iff.mpr (List.Pairwise.filter _ (d.nd P));refine⟨f.en,fun p o hp ho=>?_,fun e e' he he' h0 h1=>?_⟩
 ·obtain⟨t,ht,t0,t1⟩:=d.at hp ho;have et:=d.en t ht;have hc:can lt t∈D.filter fun r=>lt r r.reverse:=by
   unfold can;by_cases c:lt t t.reverse=true
   ·rw[if_pos c];exact Yz.mpr ⟨ht,c⟩
   ·rw[if_neg c];have er:=et.rev;have hl:=er.t.len;have g0:=aK (l:=t.reverse) (i:=0) (by lia);have g1:=aK (l:=t.reverse) (i:=1) (by lia);obtain⟨r,hr,r0,r1⟩:=d.at (er.t.fst _ g0) ((dY P.u).mpr (er.t.adj 0 _ _ g0 g1));have:r=t.reverse:=(d.en r hr).one P er (by rw[r0,g0]) (by rw[r1,g1]);subst this;refine Yz.mpr ⟨hr,?_⟩;rw[List.reverse_reverse,L.tri _ _ (et.odd P)];simpa using c
  obtain⟨r,hr,e⟩:=Zh.mp (f.pm.mem_iff.mpr hc);obtain⟨k,hk,rfl⟩:=Yg.mp hr;rcases R6 e with z | z
  ·refine⟨2*k,by lia,?_⟩;have:wy F (2*k)=t:=by
    unfold wy;rw[if_pos (by lia),show 2*k / 2=k by lia,Zv,aK hk];exact z
   rw[this];exact⟨t0,t1⟩
  ·refine⟨2*k+1,by lia,?_⟩;have:wy F (2*k+1)=t:=by
    unfold wy;rw[if_neg (by lia),show(2*k+1) / 2=k by lia,Zv,aK hk];show F[k].reverse=t;rw[z,List.reverse_reverse]
   rw[this];exact⟨t0,t1⟩
 ·have e1:=lR f.en he;have e2:=lR f.en he';have same:=e1.one P e2 h0 h1;obtain⟨r,hr,g,c⟩:=IH he;obtain⟨r',hr',g',c'⟩:=IH he';have cc:can lt r=can lt r':=by
   have a:can lt (wy F e)=can lt r:=by rcases c with c | c<;>rw[c];exact A0 L P (f.en r hr)
   have b:can lt (wy F e')=can lt r':=by rcases c' with c' | c'<;>rw[c'];exact A0 L P (f.en r' hr')
   rw[←a,←b,same]
  have half:e / 2=e' / 2:=by
   obtain⟨h1,h2⟩:=Zj.mp g;obtain⟨h1',h2'⟩:=Zj.mp g';have:=List.nodup_iff_pairwise_ne.mp nd;rw[List.pairwise_iff_getElem]at this;rcases Nat.lt_trichotomy (e / 2) (e' / 2) with q | q | q
   ·exact absurd (by rw[List.getElem_map,List.getElem_map,h2,h2'];exact cc) (this _ _ (by simpa using h1) (by simpa using h1') q)
   ·exact q
   ·exact absurd (by rw[List.getElem_map,List.getElem_map,h2,h2'];exact cc.symm) (this _ _ (by simpa using h1') (by simpa using h1) q)
  by_cases par:e%2=e' % 2
  ·lia
  ·exfalso;unfold wy at same;rw[half]at same;have gd:F.getD (e' / 2) []=r':=by rw[Zv,g'];rfl
   rw[gd]at same;rcases Nat.mod_two_eq_zero_or_one e with a | a<;>rcases Nat.mod_two_eq_zero_or_one e' with b | b
   ·lia
   ·rw[if_pos a,if_neg (by lia)]at same;exact(f.en r' hr').odd P same
   ·rw[if_neg (by lia),if_pos b]at same;exact(f.en r' hr').odd P same.symm
   ·lia
def og(S:Sts)(F:List (List Pt))(p:Pt):List Nat:=(nb S p).flatMap fun o=>(List.range (2*F.length)).filter fun e=>decide ((wy F e).take 2=[p,o])
theorem take2{r:List Pt}{p o:Pt}(h:2≤r.length):r.take 2=[p,o]↔r[0]?=some p∧r[1]?=some o:=by
 match r,h with
 |a::b::r,_=>simp
theorem D8{F:List (List Pt)}(P:Pls S Pl)(R:Rows S Pl F){p:Pt}{e:Nat}:e∈og S F p↔e<2*F.length∧(wy F e)[0]?=some p:=by
 unfold og;rw[Yk];constructor
 ·rintro⟨o,_,h⟩;obtain⟨h1,h2⟩:=Yz.mp h;have he:=Zs.mp h1;exact⟨he,((take2 (lR R.en he).t.len).mp (of_decide_eq_true h2)).1⟩
 ·rintro⟨he,h0⟩;have t:=(lR R.en he).t;have hl:=t.len;have g1:=aK (l:=wy F e) (i:=1) (by lia);exact⟨_,(dY P.u).mpr (t.adj 0 _ _ h0 g1),Yz.mpr ⟨Zs.mpr he,decide_eq_true ((take2 hl).mpr ⟨h0,g1⟩)⟩⟩
theorem UE{F:List (List Pt)}(R:Rows S Pl F)(p:Pt):(og S F p).Nodup:=by
 unfold og;refine pK (qB S p) (fun o _=>List.Pairwise.filter _ List.nodup_range) fun x _ y _ z hx hy=>?_;obtain⟨_,h1⟩:=Yz.mp hx;obtain⟨_,h2⟩:=Yz.mp hy;have:=(of_decide_eq_true h1).symm.trans (of_decide_eq_true h2);simpa using this
theorem N0{l:List Nat}(nd:l.Nodup)(h:∀x∈l,∀y∈l,x=y):l.length≤1:=by
 match l with
 |[]=>exact Nat.zero_le _
 |[a]=>exact Nat.le_refl _
 |a::b::l =>
  have:=h a (by simp) b (by simp);simp[this]at nd
theorem KH{F:List (List Pt)}(R:Rows S Pl F)(p:Pt):(og S F p).length≤4:=by
 have key:∀l:List Pt,(l.flatMap fun o=>(List.range (2*F.length)).filter fun e=>decide ((wy F e).take 2=[p,o])).length≤l.length:=by
  intro l;induction l with
  |nil=>exact Nat.le_refl _
  |cons o l ih =>
   rw[List.flatMap_cons,Zm,Yq];have:=N0 (l:=(List.range (2*F.length)).filter fun e=>decide ((wy F e).take 2=[p,o])) (List.Pairwise.filter _ List.nodup_range) fun x hx y hy=>by
    obtain⟨x1,x2⟩:=Yz.mp hx;obtain⟨y1,y2⟩:=Yz.mp hy;have hx':=Zs.mp x1;have hy':=Zs.mp y1;obtain⟨a,b⟩:=(take2 (lR R.en hx').t.len).mp (of_decide_eq_true x2);obtain⟨c,d⟩:=(take2 (lR R.en hy').t.len).mp (of_decide_eq_true y2);exact R.un x y hx' hy' (by rw[a,c]) (by rw[b,d])
   lia
 exact YQ (key _) (vU S p)
theorem UD{F:List (List Pt)}(P:Pls S Pl)(R:Rows S Pl F){p:Pt}(hp:p∈Pl):og S F p≠[]:=by
 obtain⟨q,hq⟩:=P.on p hp;obtain⟨e,he,h0,_⟩:=R.ex p q hp ((dY P.u).mpr hq);exact List.ne_nil_of_mem ((D8 P R).mpr ⟨he,h0⟩)
def Whl(S:Sts):Prop:=∀C:Pt→Prop,(∃p q,Adj S p q∧C p)→(∀p q,C p→Adj S p q→C q)→∀p q,Adj S p q→C p
theorem whole{F:List (List Pt)}(P:Pls S Pl)(R:Rows S Pl F)(W:Whl S)(M:Pt→Prop)(hM:∀e a b,e<2*F.length→(wy F e)[0]?=some a→(wy F e)[(wy F e).length-1]?=some b→M a→M b){p0:Pt}(h0:p0∈Pl)(m0:M p0):∀p∈Pl,M p:=by
 let C:Pt→Prop:=fun p=>(p∈Pl∧M p)∨∃e i a,e<2*F.length∧0<i∧i+1<(wy F e).length∧(wy F e)[i]?=some p∧(wy F e)[0]?=some a∧M a
 obtain⟨q0,hq0⟩:=P.on p0 h0;have cl:∀p q,C p→Adj S p q→C q:=by
  rintro p q (⟨hp,mp⟩ | ⟨e,i,a,he,hi,hl,hpi,ha,ma⟩) hq
  ·obtain⟨e,he,w0,w1⟩:=R.ex p q hp ((dY P.u).mpr hq);have en:=lR R.en he;by_cases c:(wy F e).length=2
   ·have g:(wy F e)[(wy F e).length-1]?=some q:=by rw[c];exact w1
    exact .inl ⟨en.lst q g,hM e p q he w0 g mp⟩
   ·have:=en.t.len;exact .inr ⟨e,1,p,he,by decide,by lia,w1,w0,mp⟩
  ·have en:=lR R.en he;have hp:p∉Pl:=en.t.mid i p hi hl hpi;have h2:=en.t.two P hi hpi hp;obtain⟨k,rfl⟩:∃k,i=k+1:=⟨i-1,by lia⟩
   have gk:=aK (l:=wy F e) (i:=k) (by lia);have gn:=aK (l:=wy F e) (i:=k+2) (by lia);have n1:=(dY P.u).mpr (en.t.adj k _ p gk hpi).symm;have n2:=(dY P.u).mpr (en.t.adj (k+1) p _ hpi gn);rcases of_two h2 n1 n2 ((dY P.u).mpr hq) (en.t.trn k _ _ gk gn) with z | z
   ·by_cases c:k=0
    ·subst c;rw[gk]at ha;have:q=a:=z.trans (Option.some.inj ha);subst this;exact .inl ⟨en.t.fst q (by rw[gk,←z]),ma⟩
    ·exact .inr ⟨e,k,a,he,by lia,by lia,by rw[gk,z],ha,ma⟩
   ·by_cases c:k+2+1<(wy F e).length
    ·exact .inr ⟨e,k+2,a,he,by lia,c,by rw[gn,z],ha,ma⟩
    ·have g:(wy F e)[(wy F e).length-1]?=some q:=by rw[show(wy F e).length-1=k+2 by lia,gn,z]
     exact .inl ⟨en.lst q g,hM e a q he ha g ma⟩
 intro p hp;obtain⟨q,hq⟩:=P.on p hp;rcases W C ⟨p0,q0,hq0,.inl ⟨h0,m0⟩⟩ cl p q hq with h | ⟨e,i,a,he,hi,hl,hpi,_⟩
 ·exact h.2
 ·exact absurd hp ((lR R.en he).t.mid i p hi hl hpi)
end
end GR
namespace GR
def ins(S:Sts)(C:List Pt):Nat:=S.countP fun s=>decide (s.1∈C∧s.2∈C)
theorem EN{α:Type}{p q:α→Bool}:∀{l:List α},(∀t∈l,p t=true→q t=true)→∀{t:α},t∈l→p t=false→q t=true→l.countP p<l.countP q
 |u::l,h,t,ht,h1,h2=>by
  have mono:l.countP p≤l.countP q:=List.countP_mono_left fun x hx=>h x (Zw _ hx);rw[List.countP_cons,List.countP_cons];rcases Zn.mp ht with rfl | ht
  ·rw[h1,h2];simp;lia
  ·have ih:=EN (fun x hx=>h x (Zw _ hx)) ht h1 h2;have:=h u Zd;cases pu:p u<;>cases qu:q u
   ·simp;lia
   ·simp;lia
   ·rw[pu,qu]at this;exact absurd (this rfl) (by decide)
   ·simp;lia
structure Th(S:Sts)(p q:Pt)(C:List Pt):Prop where
 pm:p∈C
 qm:q∈C
 cnt:C.length≤1+ins S C
 con:∀E:Pt→Prop,(∀a b,(a,b)∈S→a∈C→b∈C→(E a↔E b))→∀c∈C,(E c↔E p)
theorem Th.start{S:Sts}{p q:Pt}(h:(p,q)∈S):Th S p q [p,q]:=by
 refine⟨by simp,by simp,?_,fun E hE c hc=>?_⟩
 ·have:0<ins S [p,q]:=List.countP_pos_iff.mpr ⟨(p,q),h,decide_eq_true ⟨by simp,by simp⟩⟩;simp;lia
 ·have:=hE p q h (by simp) (by simp);simp only[Zn,List.not_mem_nil,or_false]at hc;rcases hc with rfl | rfl
  ·exact Iff.rfl
  ·exact this.symm
theorem Th.add{S:Sts}{p q a b:Pt}{C:List Pt}(t:Th S p q C)(hs:(a,b)∈S∨(b,a)∈S)(ha:a∈C)(hb:b∉C):Th S p q (C++[b]):=by
 have sub:∀x∈C,x∈C++[b]:=fun x hx=>List.mem_append_left _ hx;have bn:b∈C++[b]:=by simp
 refine⟨sub _ t.pm,sub _ t.qm,?_,fun E hE c hc=>?_⟩
 ·have lt:ins S C<ins S (C++[b]):=by
   unfold ins;rcases hs with hs | hs
   ·exact EN (fun t _ h=>by have h:=of_decide_eq_true h;exact decide_eq_true ⟨sub _ h.1,sub _ h.2⟩) hs (decide_eq_false fun z=>hb z.2) (decide_eq_true ⟨sub _ ha,bn⟩)
   ·exact EN (fun t _ h=>by have h:=of_decide_eq_true h;exact decide_eq_true ⟨sub _ h.1,sub _ h.2⟩) hs (decide_eq_false fun z=>hb z.1) (decide_eq_true ⟨bn,sub _ ha⟩)
  have:=t.cnt;simp;lia
 ·have old:=t.con E fun x y h hx hy=>hE x y h (sub _ hx) (sub _ hy);rcases Zf.mp hc with hc | hc
  ·exact old c hc
  ·rw[Zb.mp hc];have:E a↔E b:=by
    rcases hs with hs | hs
    ·exact hE a b hs (sub _ ha) bn
    ·exact(hE b a hs bn (sub _ ha)).symm
   exact this.symm.trans (old a ha)
def Cl(S:Sts)(C:List Pt):Prop:=∀s∈S,(s.1∈C↔s.2∈C)
structure Tn(S:Sts)(p q:Pt)(C0:List Pt)(i:Nat)(C:List Pt):Prop where
 th:Th S p q C
 le:C0.length≤C.length
 eq:C.length=C0.length→C=C0∧∀s∈S.take i,(s.1∈C0↔s.2∈C0)
 cl:Cl S C0→C=C0
theorem Tn.start{S:Sts}{p q:Pt}{C0:List Pt}(t:Th S p q C0):Tn S p q C0 0 C0:=⟨t,Nat.le_refl _,fun _=>⟨rfl,fun s hs=>by simp at hs⟩,fun _=>rfl⟩
theorem Tn.next{S:Sts}{p q:Pt}{C0 C C':List Pt}{i:Nat}{s:Pt×Pt}(t:Tn S p q C0 i C)(hs:S[i]?=some s)(h:(C'=C∧(s.1∈C↔s.2∈C))∨(C'=C++[s.2]∧s.1∈C∧s.2∉C)∨(C'=C++[s.1]∧s.2∈C∧s.1∉C)):Tn S p q C0 (i+1) C':=by
 have hm:=Zg hs;rcases h with⟨rfl,hi⟩ | ⟨rfl,h1,h2⟩ | ⟨rfl,h1,h2⟩
 ·refine⟨t.th,t.le,fun e=>?_,t.cl⟩;obtain⟨e1,e2⟩:=t.eq e;refine⟨e1,fun x hx=>?_⟩;rw[List.take_add_one,hs]at hx;rcases Zf.mp hx with hx | hx
  ·exact e2 x hx
  ·rw[show x=s by simpa using hx,←e1];exact hi
 ·refine⟨t.th.add (.inl hm) h1 h2,by have:=t.le;simp;lia,fun e=>?_,fun c=>?_⟩
  ·have:=t.le;simp at e;lia
  ·have:=t.cl c;subst this;exact absurd ((c s hm).mp h1) h2
 ·refine⟨t.th.add (.inr hm) h1 h2,by have:=t.le;simp;lia,fun e=>?_,fun c=>?_⟩
  ·have:=t.le;simp at e;lia
  ·have:=t.cl c;subst this;exact absurd ((c s hm).mpr h1) h2
structure Tu(S:Sts)(p q:Pt)(n:Nat)(C:List Pt):Prop where
 th:Th S p q C
 go:Cl S C∨2+n≤C.length
theorem Tu.next{S:Sts}{p q:Pt}{n:Nat}{C0 C:List Pt}(u:Tu S p q n C0)(t:Tn S p q C0 S.length C):Tu S p q (n+1) C:=by
 refine⟨t.th,?_⟩;by_cases e:C.length=C0.length
 ·obtain⟨e1,e2⟩:=t.eq e;rw[Yw]at e2;exact .inl (by rw[e1];exact e2)
 ·rcases u.go with h | h
  ·exact absurd (congrArg List.length (t.cl h)) e
  ·have:=t.le;exact .inr (by lia)
theorem Tu.cl{S:Sts}{p q:Pt}{C:List Pt}(u:Tu S p q S.length C):Cl S C:=by
 rcases u.go with h | h
 ·exact h
 ·have:=u.th.cnt;have:ins S C≤S.length:=List.countP_le_length
  lia
theorem Tu.whl{S S':Sts}{p q:Pt}{C:List Pt}(u:Tu S p q S.length C)(h:∀s,s∈S'↔s∈S∧s.1∈C):Whl S':=by
 intro D ⟨x,y,hxy,dx⟩ cl x' y' hxy';have c:=u.cl;have inC:∀a b,Adj S' a b→a∈C:=by
  rintro a b (z | z)
  ·exact((h _).mp z).2
  ·obtain⟨z1,z2⟩:=(h _).mp z;exact(c _ z1).mp z2
 have con:=u.th.con D fun a b hab ha hb=>by
  have:Adj S' a b:=.inl ((h _).mpr ⟨hab,ha⟩);exact⟨fun d=>cl a b d this,fun d=>cl b a d this.symm⟩
 exact(con x' (inC _ _ hxy')).mpr ((con x (inC _ _ hxy)).mp dx)
end GR
namespace AW
abbrev Ts:=List (Int×Int)
abbrev Os:=List (List Int)
def plc(ts:Ts)(e:Nat):Int:=((ts[e / 2]?).map fun t=>if e%2=0 then t.1 else t.2).getD (-1)
def InW(m:Int)(ts:Ts):Prop:=∀t∈ts,(0≤t.1∧t.1<m)∧0≤t.2∧t.2<m
def all2(ts:Ts):List Int:=(List.range (2*ts.length)).map fun n:Nat=>(n:Int)
def endsAt(ts:Ts)(p:Int):List Int:=(all2 ts).filter fun e=>plc ts e.toNat==p
inductive Rch(ts:Ts):Int→Prop
 |zero:Rch ts 0
 |fwd {t:Int×Int}:t∈ts→Rch ts t.1→Rch ts t.2
 |bwd {t:Int×Int}:t∈ts→Rch ts t.2→Rch ts t.1
def UW(m:Int)(ts:Ts):Prop:=∀p:Int,0≤p→p<m→Rch ts p
def Fit(ts:Ts)(os:Os):Prop:=∀(i:Nat) (o:List Int),os[i]?=some o→o.length≤4∧o.Perm (endsAt ts i)
def UX(m:Int)(ts:Ts):Prop:=(1≤m∧m≤200)∧1≤ts.length∧ts.length≤400
def MP(m:Int)(ts:Ts)(os:Os):Prop:=UX m ts∧InW m ts∧(os.length:Int)=m∧Fit ts os∧UW m ts
theorem KP{ts:Ts}{e:Int}:e∈all2 ts↔0≤e∧e<2*ts.length:=by
 unfold all2;rw[Zh];constructor
 ·rintro⟨n,hn,rfl⟩;have:=Zs.mp hn
  lia
 ·rintro⟨h0,h1⟩;exact⟨e.toNat,Zs.mpr (by lia),by lia⟩
theorem vV{ts:Ts}{p e:Int}:e∈endsAt ts p↔(0≤e∧e<2*ts.length)∧plc ts e.toNat=p:=by
 unfold endsAt;rw[Yz,KP,beq_iff_eq]
theorem Q8{m:Int}{ts:Ts}(h:InW m ts){e:Int}(h0:0≤e)(h1:e<2*ts.length):0≤plc ts e.toNat∧plc ts e.toNat<m:=by
 have hk:e.toNat / 2<ts.length:=by lia
 have e1:ts[e.toNat / 2]?=some ts[e.toNat / 2]:=Zz hk;have:=h _ (Zp hk);unfold plc;rw[e1];simp only[Option.map_some,Option.getD_some];split<;>omega
end AW
namespace GR
def ixP(Pl:List Pt)(p:Pt):Int:=(Pl.idxOf p:Nat)
def yX(Pl:List Pt)(r:List Pt):Int×Int:=(ixP Pl (r.getD 0 (0,0)),ixP Pl (r.getD (r.length-1) (0,0)))
def tsO(Pl:List Pt)(F:List (List Pt)):AW.Ts:=F.map (yX Pl)
section
variable{S:Sts}{Pl:List Pt}{F:List (List Pt)}
theorem zP{k:Nat}(h:k<F.length):wy F (2*k)=F[k]:=by
 unfold wy;rw[if_pos (by lia),show 2*k / 2=k by lia,Zv,aK h];rfl
theorem DQ{k:Nat}(h:k<F.length):wy F (2*k+1)=F[k].reverse:=by
 unfold wy;rw[if_neg (by lia),show(2*k+1) / 2=k by lia,Zv,aK h];rfl
theorem getD_some{r:List Pt}{i:Nat}{p:Pt}(h:r[i]?=some p):r.getD i (0,0)=p:=by rw[Zv,h];rfl
theorem JS(R:Rows S Pl F){e:Nat}{p:Pt}(he:e<2*F.length)(h:(wy F e)[0]?=some p):AW.plc (tsO Pl F) e=ixP Pl p:=by
 have hk:e / 2<F.length:=by lia
 unfold AW.plc tsO;rw[Zk,aK hk];show(if e%2=0 then ixP Pl (F[e / 2].getD 0 (0,0)) else ixP Pl (F[e / 2].getD (F[e / 2].length-1) (0,0)))=_;have hl:=(R.en _ (Zp hk)).t.len;by_cases c:e%2=0
 ·rw[if_pos c];have:wy F e=F[e / 2]:=by
   have:=zP hk;rw[show 2*(e / 2)=e by lia]at this;exact this
  rw[this]at h;rw[getD_some h]
 ·rw[if_neg c];have:wy F e=F[e / 2].reverse:=by
   have:=DQ hk;rw[show 2*(e / 2)+1=e by lia]at this;exact this
  rw[this,Yd (by lia)]at h;rw[getD_some (by rw[←Nat.sub_zero (F[e / 2].length-1)];exact h)]
theorem P2{p:Pt}(h:p∈Pl):0≤ixP Pl p∧ixP Pl p<Pl.length:=by
 have:=List.idxOf_lt_length_of_mem h;unfold ixP;lia
theorem RW{p q:Pt}(hp:p∈Pl)(hq:q∈Pl)(h:ixP Pl p=ixP Pl q):p=q:=by
 have h:Pl.idxOf p=Pl.idxOf q:=by unfold ixP at h;lia
 have h1:=List.idxOf_lt_length_of_mem hp;have a:=List.getElem_idxOf h1;have h2:=List.idxOf_lt_length_of_mem hq;have b:=List.getElem_idxOf h2;rw[←a,←b];simp only[h]
theorem FP(nd:Pl.Nodup){i:Nat}{p:Pt}(h:Pl[i]?=some p):ixP Pl p=i:=by
 obtain⟨hi,e⟩:=Zj.mp h;have hm:p∈Pl:=e▸Zp hi;have h1:=List.idxOf_lt_length_of_mem hm;have a:=List.getElem_idxOf h1;have:=List.nodup_iff_pairwise_ne.mp nd;rw[List.pairwise_iff_getElem]at this;unfold ixP;rcases Nat.lt_trichotomy (Pl.idxOf p) i with c | c | c
 ·exact absurd (a.trans e.symm) (this _ _ h1 hi c)
 ·lia
 ·exact absurd (e.trans a.symm) (this _ _ hi h1 c)
theorem II(R:Rows S Pl F){e:Nat}(he:e<2*F.length):∃p,(wy F e)[0]?=some p∧p∈Pl:=by
 have en:=lR R.en he;have hl:=en.t.len;have g:=aK (l:=wy F e) (i:=0) (by lia);exact⟨_,g,en.t.fst _ g⟩
theorem few(P:Pls S Pl)(R:Rows S Pl F):2*F.length≤4*Pl.length:=by
 have nd:((List.range (2*F.length)).map fun e=>hd2 (wy F e)).Nodup:=fZ List.nodup_range fun x hx y hy e=>by
  unfold hd2 at e;injection e with e1 e2;exact R.un x y (Zs.mp hx) (Zs.mp hy) e1 e2
 have:=sub_len nd (b:=Pl.flatMap fun p=>(nb S p).map fun o=>(some p,some o)) fun z hz=>by
  obtain⟨e,he,rfl⟩:=Zh.mp hz;have he:=Zs.mp he;have en:=lR R.en he;have hl:=en.t.len;have g0:=aK (l:=wy F e) (i:=0) (by lia);have g1:=aK (l:=wy F e) (i:=1) (by lia);refine Yk.mpr ⟨_,en.t.fst _ g0,Zh.mpr ⟨_,(dY P.u).mpr (en.t.adj 0 _ _ g0 g1),?_⟩⟩;unfold hd2;rw[g0,g1]
 rw[Zq,Yj]at this;refine YQ this ?_;have key:∀l:List Pt,(l.flatMap fun p=>(nb S p).map fun o=>(some p,some o)).length≤4*l.length:=by
  intro l;induction l with
  |nil=>exact Nat.le_refl _
  |cons p l ih =>
   rw[List.flatMap_cons,Zm,Zq,Yq];have:=vU S p
   lia
 exact key Pl
theorem RX(P:Pls S Pl)(R:Rows S Pl F)(W:Whl S)(hne:Pl≠[])(l10:Pl.length≤10){os:AW.Os}(ol:os.length=Pl.length)(ho:∀(i:Nat) p o,Pl[i]?=some p→os[i]?=some o→o.Perm ((og S F p).map fun e:Nat=>(e:Int))):AW.MP Pl.length (tsO Pl F) os:=by
 have fw:=few P R;have tl:(tsO Pl F).length=F.length:=Zq _;obtain⟨p0,Pl',rfl⟩:∃p0 Pl',Pl=p0::Pl':=by
  cases Pl with
  |nil=>exact absurd rfl hne
  |cons a l=>exact⟨a,l,rfl⟩
 have hp0:p0∈p0::Pl':=Zd;have f1:1≤F.length:=by
  obtain⟨q,hq⟩:=P.on p0 hp0;obtain⟨e,he,_⟩:=R.ex p0 q hp0 ((dY P.u).mpr hq)
  lia
 have lastP:∀r∈F,r.getD 0 (0,0)∈p0::Pl'∧r.getD (r.length-1) (0,0)∈p0::Pl':=fun r hr=>by
  have en:=R.en r hr;have hl:=en.t.len;have g0:=aK (l:=r) (i:=0) (by lia);have g1:=aK (l:=r) (i:=r.length-1) (by omega);rw[getD_some g0,getD_some g1];exact⟨en.t.fst _ g0,en.lst _ g1⟩
 refine⟨⟨⟨by simp;lia,by simp at l10 ⊢;lia⟩,by lia,by lia⟩,fun t ht=>?_,by rw[ol],fun i o hi=>?_,?_⟩
 ·obtain⟨r,hr,rfl⟩:=Zh.mp ht;obtain⟨a,b⟩:=lastP r hr;exact⟨P2 a,P2 b⟩
 ·have hi':i<(p0::Pl').length:=by rw[←ol];exact(Zj.mp hi).1
  have gp:=aK hi';have pm:=ho i _ o gp hi;refine⟨by rw[pm.length_eq,Zq];exact KH R _,pm.trans ?_⟩;have hm:=Zg gp;refine(List.perm_ext_iff_of_nodup ?_ ?_).mpr fun z=>?_
  ·exact fZ (UE R _) fun x _ y _ e=>Int.ofNat.inj e
  ·refine List.Pairwise.filter _ (fZ List.nodup_range fun x _ y _ e=>Int.ofNat.inj e)
  ·unfold AW.endsAt AW.all2;rw[Yz,Zh,Zh,tl];constructor
   ·rintro⟨e,he,rfl⟩;obtain⟨h1,h2⟩:=(D8 P R).mp he;refine⟨⟨e,Zs.mpr h1,rfl⟩,?_⟩;rw[Int.toNat_natCast,JS R h1 h2,FP P.nd gp];exact beq_self_eq_true _
   ·rintro⟨⟨e,he,rfl⟩,h2⟩;have he:=Zs.mp he;rw[Int.toNat_natCast,beq_iff_eq]at h2;obtain⟨p,w0,wp⟩:=II R he;rw[JS R he w0,←FP P.nd gp]at h2;have:=RW wp hm h2;subst this;exact⟨e,(D8 P R).mpr ⟨he,w0⟩,rfl⟩
 ·intro z h0 h1;obtain⟨i,rfl⟩:=Xx h0;have hi:i<(p0::Pl').length:=by lia
  have gp:=aK hi;rw[←FP P.nd gp];have hz0:ixP (p0::Pl') p0=0:=FP (i:=0) P.nd rfl;refine whole P R W (fun p=>AW.Rch (tsO (p0::Pl') F) (ixP (p0::Pl') p)) (fun e a b he ha hb ma=>?_) hp0 (by show AW.Rch _ _;rw[hz0];exact .zero) _ (Zg gp);have hk:e / 2<F.length:=by lia
  have hl:=(R.en _ (Zp hk)).t.len;have ht:yX (p0::Pl') F[e / 2]∈tsO (p0::Pl') F:=Yn (Zp hk);by_cases c:e%2=0
  ·have ew:wy F e=F[e / 2]:=by
    have:=zP hk;rw[show 2*(e / 2)=e by lia]at this;exact this
   rw[ew]at ha hb;have:=AW.Rch.fwd ht (by show AW.Rch _ (ixP _ _);rw[getD_some ha];exact ma);have e2:(yX (p0::Pl') F[e / 2]).2=ixP (p0::Pl') b:=by show ixP _ _=_;rw[getD_some hb]
   rw[e2]at this;exact this
  ·have ew:wy F e=F[e / 2].reverse:=by
    have:=DQ hk;rw[show 2*(e / 2)+1=e by lia]at this;exact this
   rw[ew,Yd (by lia)]at ha;rw[ew,Yt,Yd (by omega),show F[e / 2].length-1-(F[e / 2].length-1)=0 by lia]at hb;have:=AW.Rch.bwd ht (by show AW.Rch _ (ixP _ _);rw[getD_some (by rw[←Nat.sub_zero (F[e / 2].length-1)];exact ha)];exact ma);have e2:(yX (p0::Pl') F[e / 2]).1=ixP (p0::Pl') b:=by show ixP _ _=_;rw[getD_some hb]
   rw[e2]at this;exact this
end
end GR
namespace AW
end AW
namespace TX
open PySem PySem.NumText
theorem HW:∀c<58,48≤c→(Char.ofNat c).toNat=c:=by decide
theorem KR{cs:List Nat}(h:AllDigits cs):(cs.map Char.ofNat).map Char.toNat=cs:=by
 rw[Yb];refine(Yp fun c hc=>?_).trans (List.map_id cs);have:=h c hc;exact HW c (by lia) this.1
theorem CS{cs:List Nat}(h:AllDigits cs)(hn:cs≠[]):(Nat.toDigits 10 (digitsVal cs)).map Char.toNat=cs↔¬(cs.head?=some 48∧cs≠[48]):=by
 rw[toDigits_all cs h];cases cs with
 |nil=>exact absurd rfl hn
 |cons a l =>
  by_cases ha:a=48
  ·subst ha;have e:(48::l).dropWhile (·==48)=l.dropWhile (·==48):=rfl;rw[e];have hl:(l.dropWhile (·==48)).length≤l.length:=(List.dropWhile_sublist _).length_le;cases hd:l.dropWhile (·==48) with
   |nil =>
    show[48]=48::l↔_;constructor
    ·intro z y;exact y.2 z.symm
    ·intro z;apply ZS;intro y;exact z ⟨rfl,fun q=>y q.symm⟩
   |cons c r =>
    rw[hd]at hl;constructor
    ·intro z;have:=congrArg List.length z;simp at this hl
     lia
    ·intro z;exfalso;refine z ⟨rfl,fun q=>?_⟩;have:l=[]:=by injection q
     rw[this]at hd;cases hd
  ·have e:(a::l).dropWhile (·==48)=a::l:=by rw[List.dropWhile_cons,if_neg (by simpa using ha)]
   rw[e];show((a::l).map Char.ofNat).map Char.toNat=a::l↔_;rw[KR h];simp[ha]
def bS(n:Int):List Nat:=(ZT (toString n)).cps.toList
theorem cT(n:Int):ZT (toString n)=sT (bS n):=(rO _).symm
theorem fJ(m:Nat):bS (m:Int)=(Nat.toDigits 10 m).map Char.toNat:=PySem.W.KIN.signs_num m
theorem jN{m:Nat}(h:0<m):bS (-(m:Int))=45::bS (m:Int):=by
 unfold bS;rw[PyProof.Rows.toString_neg (by lia),show(0:Int) - -(m:Int)=(m:Int) by lia,PyProof.Rows.signs_ofString,PyProof.Rows.signs_ofString,String.toList_append,Zt];rfl
theorem cV(m:Nat):AllDigits (bS (m:Int))∧bS (m:Int)≠[]:=by
 rw[fJ];constructor
 ·intro c hc;obtain⟨ch,hch,e⟩:=Zh.mp hc;have r:=PyProof.Rows.digit_range (Nat.isDigit_of_mem_toDigits (by decide) (by decide) hch);rw[←e];exact r
 ·intro e;have h:=PyProof.Rows.tDigits_len_ge 10 m;rw[List.map_eq_nil_iff.mp e]at h;exact absurd h (by decide)
def figs(w:List Nat):List Nat:=if w.head?=some 45 then w.drop 1 else w
def Fig(w:List Nat):Prop:=(1≤(figs w).length∧(figs w).length≤40)∧AllDigits (figs w)
def Can(w:List Nat):Prop:=¬((figs w).head?=some 48∧w≠[48])
def mI(w:List Nat):Int:=if w.head?=some 45 then -((digitsVal (figs w):Nat):Int) else ((digitsVal (figs w):Nat):Int)
noncomputable def num(w:List Nat):Option Int:=open Classical in if Fig w∧Can w then some (mI w) else none
theorem vR{w:List Nat}(h:Fig w)(c:Can w):num w=some (mI w):=if_pos ⟨h,c⟩
theorem mH{w:List Nat}(h:¬(Fig w∧Can w)):num w=none:=if_neg h
theorem wH{w:List Nat}(h:w.head?=some 45):w=45::w.drop 1:=by
 cases w with
 |nil=>cases h
 |cons a l=>cases h;rfl
theorem LQ(w:List Nat):w.length≤(figs w).length+1:=by
 unfold figs;split
 ·rw[Ym];omega
 ·lia
theorem int_text{w:List Nat}(h:Fig w):(sT w).length≤640∧intText? (sT w)=some (mI w):=by
 have hl:=LQ w;have h40:=h.1.2;refine⟨by rw[cG];lia,?_⟩;have ne:figs w≠[]:=fun z=>by have:=h.1.1;rw[z]at this;exact absurd this (by decide)
 by_cases hn:w.head?=some 45
 ·have e:figs w=w.drop 1:=if_pos hn;rw[mI,if_pos hn,e];exact intText_neg (by rw[eZ];exact wH hn) (e▸h.2) (e▸ne) (by rw[cG];lia)
 ·have e:figs w=w:=if_neg hn;rw[mI,if_neg hn,e];have:=intText_digits (x:=sT w) (by rw[eZ];exact e▸h.2) (by rw[eZ];exact e▸ne) (by rw[cG];lia);rw[eZ]at this;exact this
theorem uV{w:List Nat}(h:Fig w):bS (mI w)=w↔Can w:=by
 have ne:figs w≠[]:=fun z=>by have:=h.1.1;rw[z]at this;exact absurd this (by decide)
 have db:=CS h.2 ne;by_cases hn:w.head?=some 45
 ·have e:figs w=w.drop 1:=if_pos hn;have hw:=wH hn;rw[mI,if_pos hn];unfold Can;have hne:w≠[48]:=fun z=>by rw[z]at hn;exact absurd hn (by decide)
  by_cases h0:digitsVal (figs w)=0
  ·rw[h0];constructor
   ·intro z;exfalso;have:bS (-((0:Nat):Int))=[48]:=(fJ 0).trans (by decide);exact hne (z▸this▸rfl)
   ·intro z;exfalso;apply z;refine⟨?_,hne⟩;rw[h0]at db;have e0:(Nat.toDigits 10 0).map Char.toNat=[48]:=by decide
    rw[e0]at db;apply ZS;intro y;have:=db.mpr fun q=>y q.1;rw[←this]at y;exact y rfl
  ·rw[jN (by lia),fJ];constructor
   ·intro z y;have z2:(Nat.toDigits 10 (digitsVal (figs w))).map Char.toNat=figs w:=by
     rw[hw]at z;injection z with _ z;rw[e];rw[hw]at z ⊢;exact z
    have:=db.mp z2;apply this;refine⟨y.1,fun q=>?_⟩;rw[q]at h0;exact h0 (by decide)
   ·intro z;have:=db.mpr fun q=>z ⟨q.1,hne⟩;rw[this,e];exact hw.symm
 ·have e:figs w=w:=if_neg hn;rw[mI,if_neg hn,fJ];unfold Can;rw[e]at db ⊢;exact db
theorem oK(n:Int)(h:n.natAbs<10 ^ 40):num (bS n)=some n:=by
 have key:∀m:Nat,m<10 ^ 40→(bS (m:Int)).length≤40:=fun m hm=>by
  rw[fJ,Zq];exact PyProof.Rows.digits10_le (by decide) hm
 have dv:∀m:Nat,digitsVal (bS (m:Int))=m:=fun m=>by rw[fJ];exact PySem.W.KIN.val_back m
 have hd0:∀m:Nat,(bS (m:Int)).head?≠some 45:=fun m z=>by
  obtain⟨h1,h2⟩:=cV m;rw[wH z]at h1;have:=h1.head
  lia
 have fg:∀m:Nat,m<10 ^ 40→1≤(bS (m:Int)).length:=fun m hm=>by
  have:=(cV m).2;cases hq:bS (m:Int) with
  |nil=>exact absurd hq this
  |cons a l=>simp
 have main:Fig (bS n)∧mI (bS n)=n:=by
  rcases Int.eq_nat_or_neg n with⟨m,rfl | rfl⟩
  ·have hm:m<10 ^ 40:=by simpa using h
   have e:figs (bS (m:Int))=bS m:=if_neg (hd0 m);exact⟨⟨⟨e.symm▸fg m hm,e.symm▸key m hm⟩,e.symm▸(cV m).1⟩,by rw[mI,if_neg (hd0 m),e,dv]⟩
  ·have hm:m<10 ^ 40:=by simpa using h
   by_cases h0:m=0
   ·subst h0;have e:figs (bS ((0:Nat):Int))=bS ((0:Nat):Int):=if_neg (hd0 0);exact⟨⟨⟨e.symm▸fg 0 (by decide),e.symm▸key 0 (by decide)⟩,e.symm▸(cV 0).1⟩,by show mI (bS ((0:Nat):Int))=_;rw[mI,if_neg (hd0 0),e,dv];rfl⟩
   ·rw[jN (by lia)];have e:figs (45::bS (m:Int))=bS m:=if_pos rfl;exact⟨⟨⟨e.symm▸fg m hm,e.symm▸key m hm⟩,e.symm▸(cV m).1⟩,by rw[mI,if_pos (show(45::bS (m:Int)).head?=some 45 from rfl),e,dv]⟩
 have c:=(uV main.1).mp (by rw[main.2]);rw[vR main.1 c,main.2]
end TX
namespace TX
open PySem
theorem BJ(w:List Nat):Txt.startswith (sT w) (ZT "-")=decide (w.head?=some 45):=by
 have e:ZT "-" = sT [45]:=by decide +kernel
 rw[e];unfold Txt.startswith;rw[StrLaws.subAt_eq,cG,cG,eZ,eZ];cases w with
 |nil=>rfl
 |cons a l =>
  show(decide (0+1≤l.length+1)&&((a::l).drop 0).take 1==[45])=_;simp;by_cases h:a=45<;>simp[h]
theorem FT(c:Nat):(!(Builtin.Str.occurrences (ZT "0123456789") (sT [c]) 0 (ZT "0123456789").length 1).isEmpty)=decide (48≤c∧c≤57):=by
 have h:=StrLaws.found_one (ZT "0123456789") c;rw[show(ZT "0123456789").cps.toList=List.range' 48 10 by decide +kernel]at h;rw[show(sT [c])=(⟨#[c]⟩:Str) from rfl,h];congr 1;exact propext (List.mem_range'_1.trans (and_congr_right' Nat.lt_succ_iff))
end TX
namespace TX
open PySem PySem.NumText
theorem F6:∀(cs:List Nat),AllDigits cs→∀a:Nat,cs.foldl (fun acc c=>acc*10+(c-48)) a<(a+1)*10 ^ cs.length
 |[],_,a=>by simp
 |c::cs,h,a=>by
  have hc:=h.head;have ih:=F6 cs h.tail (a*10+(c-48));rw[List.foldl_cons,Yq,Nat.pow_succ];have:(a*10+(c-48)+1)*10 ^ cs.length≤((a+1)*10)*10 ^ cs.length:=Nat.mul_le_mul_right _ (by lia);have e:(a+1)*10*10 ^ cs.length=(a+1)*(10 ^ cs.length*10):=by rw[Nat.mul_assoc,Nat.mul_comm 10]
  omega
theorem OC{w:List Nat}(h:Fig w):(mI w).natAbs.log2<1920:=by
 have h1:=F6 (figs w) h.2 0;have h2:10 ^ (figs w).length≤10 ^ 40:=Nat.pow_le_pow_right (by decide) h.1.2;have h3:(mI w).natAbs=digitsVal (figs w):=by unfold mI;split<;>lia
 rw[h3];by_cases h0:digitsVal (figs w)=0
 ·rw[h0];decide
 ·rw[Nat.log2_lt h0];have h4:digitsVal (figs w)<10 ^ 40:=by
   have:digitsVal (figs w)<(0+1)*10 ^ (figs w).length:=h1
   lia
  exact Nat.lt_trans h4 (by decide)
abbrev Wd:=List Nat
abbrev Rw:=List Wd
def rows(l:List Nat):List Rw:=(sp 10 l).map (sp 32)
def run(k:Wd)(W:List Rw):List Rw:=(W.takeWhile fun r=>r.head?==some k).map (·.drop 1)
theorem rD{α:Type}{p:α→Bool}:∀{a b:List α},(∀x∈a,p x=true)→(∀x∈b.head?,p x=false)→(a++b).takeWhile p=a
 |[],[],_,_=>rfl
 |[],b::l,_,h=>by rw[List.nil_append,List.takeWhile_cons,if_neg (by rw[h b rfl];exact Bool.false_ne_true)]
 |a::l,b,h,h'=>by rw[List.cons_append,List.takeWhile_cons,if_pos (h a Zd),rD (fun x hx=>h x (Zw _ hx)) h']
end TX
namespace TX
end TX
namespace TX
open PySem PySem.NumText
theorem FO(c:Nat):∀{ps:List (List Nat)},ps≠[]→∀p,jn c (ps++[p])=jn c ps++c::p
 |[],h,_=>absurd rfl h
 |[q],_,p=>rfl
 |q::r::s,_,p=>by
  rw[List.cons_append,fM c q (by simp),FO c (by simp),fM c q (by simp),Yf];rfl
def Sm(n:Int):Prop:=0≤n∧n<100
theorem JE{n:Int}(h:Sm n):AllDigits (bS n)∧bS n≠[]∧(bS n).length≤2∧num (bS n)=some n∧n.natAbs.log2<1920:=by
 obtain⟨m,rfl⟩:=Xx h.1;have hm:m<100:=by have:=h.2;lia
 have d:=cV m;refine⟨d.1,d.2,?_,oK _ (by simp;lia),?_⟩
 ·rw[fJ,Zq];exact PyProof.Rows.digits10_le (by decide) (by lia)
 ·show(m:Int).natAbs.log2<1920;rw[Int.natAbs_natCast];by_cases h0:m=0
  ·subst h0;decide
  ·exact Xq (Nat.log2_le_self m) (by lia)
theorem sD{c d:Nat}:∀{ps:List (List Nat)},d∈jn c ps→d=c∨∃p∈ps,d∈p
 |[],h=>by cases h
 |[p],h=>.inr ⟨p,Zd,h⟩
 |p::q::r,h=>by
  rw[fM c p (by simp)]at h;rcases Zf.mp h with h | h
  ·exact .inr ⟨p,Zd,h⟩
  ·rcases Zn.mp h with h | h
   ·exact .inl h
   ·rcases sD h with h | ⟨x,h1,h2⟩
    ·exact .inl h
    ·exact .inr ⟨x,Zw _ h1,h2⟩
theorem lS{α:Type}{f:α→Nat}{B:Nat}:∀{l:List α},(∀x∈l,f x≤B)→(l.map f).sum≤l.length*B
 |[],_=>by simp
 |a::l,h=>by
  have h1:=h a Zd;have h2:=lS (l:=l) fun x hx=>h x (Zw _ hx);simp only[List.map_cons,List.sum_cons,Yq,Nat.succ_mul]
  lia
end TX
namespace AW
theorem qI{α:Type}(l:List α)(i:Nat)(x:α):(L2.dH l i x).Perm (x::l):=by
 unfold L2.dH;have:=(List.perm_middle (a:=x) (l₁:=l.take i) (l₂:=l.drop i))
 rwa [List.take_append_drop]at this
end AW
namespace TX
theorem wG{c:Nat}{p:List Nat}:∀{ps:List (List Nat)},p∈ps→p <:+: jn c ps
 |[q],h=>by rw[Zb.mp h];exact List.infix_refl _
 |q::r::s,h=>by
  rw[fM c q (by simp)];rcases Zn.mp h with rfl | h
  ·exact⟨[],c::TX.jn c (r::s),by simp⟩
  ·obtain⟨a,b,e⟩:=wG (c:=c) h;exact⟨q++c::a,b,by rw[←e];simp⟩
theorem nO{g:List Nat→Nat}(ps:List (List Nat))(i:Nat):((ps.take i).map g).sum+((ps.drop i).map g).sum=(ps.map g).sum:=by
 rw[←List.sum_append,←Zt,List.take_append_drop]
theorem uU{g:List Nat→Nat}(ps:List (List Nat))(i:Nat):((ps.take i).map g).sum+((ps.drop (i+1)).map g).sum≤(ps.map g).sum:=by
 have h1:=nO (g:=g) ps i;have h2:((ps.drop (i+1)).map g).sum≤((ps.drop i).map g).sum:=by
  have:=nO (g:=g) (ps.drop i) 1;rw[List.drop_drop]at this
  lia
 lia
end TX
namespace L2
open PySem PySem.Spec PyProof.Rows TX
section
variable{X:Cx}{a b:Expr}{rest:List Expr}{pos:Pos}{ta tb:TE}
end
theorem zC(c:Nat):∀l:List Nat,cnt c l=(l.count c:Int)
 |[]=>by rw[cnt_nil];rfl
 |a::l=>by
  rw[cnt_cons,zC c l,List.count_cons];by_cases h:a=c
  ·subst h;simp;lia
  ·simp[h]
section
variable{X:Cx}
def NP:V→List V→Hp→VK→Prop:=fun x vs H Q=>∃(z y:Str) (l:List Nat) (c:Nat),x=.str z∧z=sT l∧vs=[.str y]∧y=sT [c]∧Q (.int (l.count c)) H
theorem hJ:MtM X "str.count" NP:=by
 intro pins s σ H x vs v us Q I rx rv h;obtain⟨z,y,l,c,rfl,rfl,rfl,rfl,q⟩:=h;obtain⟨t,rfl⟩:=(show ∃t,v=Value.str (sT l) t from rx)
 obtain⟨u,rfl,ru⟩:=rv.one;obtain⟨t',rfl⟩:=(show ∃t,u=Value.str (sT [c]) t from ru)
 have e:Txt.count (sT l) (sT [c])=(l.count c:Int):=by
  have:=count_is (sT l) c;rw[eZ]at this;exact this.trans (zC c l)
 exact SC.count ⟨.int (l.count c),H,I.tok _,⟨s.toks,by rw[e]⟩,q⟩
end
end L2
namespace L2
open PySem PySem.Spec PyProof.Rows TX
section
variable{X:Cx}
def NN:V→List V→Hp→VK→Prop:=fun x vs H Q=>∃(z y:Str) (i:Nat),x=.str z∧vs=[.str y]∧Txt.find z y=(i:Int)∧Q (.int (i:Int)) H
theorem HG:MtM X "str.index" NN:=by
 intro pins s σ H x vs v us Q I rx rv h;obtain⟨z,y,i,rfl,rfl,hf,q⟩:=h;obtain⟨t,rfl⟩:=(show ∃t,v=Value.str z t from rx)
 obtain⟨u,rfl,ru⟩:=rv.one;obtain⟨t',rfl⟩:=(show ∃t,u=Value.str y t from ru)
 unfold Txt.find at hf;cases ho:Builtin.Str.occurrences z y 0 z.length 1 with
 |nil =>
  rw[ho]at hf;have hf:(-1:Int)=(i:Int):=hf;omega
 |cons j r =>
  rw[ho]at hf;have hf:((j:Nat):Int)=(i:Int):=hf;have e:j=i:=by lia
  subst e;exact SC.index ho ⟨.int _,H,I.tok _,⟨_,rfl⟩,q⟩
end
end L2
namespace L2
open PySem PySem.Spec PyProof.Rows
theorem scm{N P:List Str}{sc:Scope}(a:sc.kind=.function:=by rfl)(b:sc.isCoroutine=false:=by rfl)(c:sc.isGenerator=false:=by rfl)(d:N.Nodup:=by decide +kernel)(e:N.take P.length=P:=by rfl)(f:∀x∈P,sc.names.lookup x=some .local∨sc.names.lookup x=some .cell:=by decide +kernel)(g:∀y∈sc.names,y.2≠.free:=by decide +kernel):bD N P sc:=⟨a,b,c,d,e,f,g⟩
structure Fn4(K:PySem.W.Frag)(mg:Str→Option Value)(x:Str)(s:Stmt)(ps:List Str)(a:Addr)(d:FuncData):Prop where
 F:Fun K x x s a d
 m:mg x=some (.ref a)
 k:PySem.W.keepIn K (.ref a)=true
 b:Binds K d ps []
abbrev FnX(K:PySem.W.Frag)(x:Str)(s:Stmt):Prop:=∃f:Addr,PySem.W.nsIn K ZV x=some (some (.ref f))∧∃(oc:Value) (od:Option Addr) (kV dc pm:Value) (an:Option Addr) (cd ct:Value) (sl:Array (Option Value)),K.lookup f=some ⟨oc,od,.func (PySem.W.fnOf x x (kU s) (gZ s) (aR s) .none kV dc pm an cd ct),sl⟩∧PySem.W.codeIn K cd x=true∧PySem.W.keepIn K (.ref f)=true
theorem cN{K:PySem.W.Frag}{mg:Str→Option Value}{h:Heap}{x:Str}{s:Stmt}{ps:List Str}(X:K.In h)(G:h.Ns ZV mg)(e:FnX K x s)(hb:∀(kV doc pm:Value) (an:Option Addr) (cdv ct:Value) (us:List Value),us.length=ps.length→bindArgs (PySem.W.fnOf x x (kU s) (gZ s) (aR s) .none kV doc pm an cdv ct) ⟨us,[]⟩=pure (ps.zip us)):∃f d,Fn4 K mg x s ps f d:=by
 obtain⟨f,a,oc,od,kV,dc,pm,an,cd,ct,sl,l,c,k⟩:=e;have F:=LL (st:=s) l c k;exact⟨f,_,F,PySem.W.mg_of X G a,k,F.binds hb⟩
theorem RY{K:PySem.W.Frag}{mg:Str→Option Value}{h:Heap}{x:Str}{s:Stmt}{ps:List Str}(X:K.In h)(G:h.Ns ZV mg)(e:FnX K x s)(hb:∀(kV doc pm:Value) (an:Option Addr) (cdv ct:Value) (us:List Value),us.length=ps.length→bindArgs (PySem.W.fnOf x x (kU s) (gZ s) (aR s) .none kV doc pm an cdv ct) ⟨us,[]⟩=pure (ps.zip us)):∃f d,Fn4 K mg x s ps f d∧∀(s:Shared) (us:List Value),us.length=ps.length→BindsTo s d ⟨us,[]⟩ (ps.zip us):=by
 obtain⟨f,a,oc,od,kV,dc,pm,an,cd,ct,sl,l,c,k⟩:=e;have F:=LL (st:=s) l c k;exact⟨f,_,⟨F,PySem.W.mg_of X G a,k,F.binds hb⟩,fun s us hl=>.of_eq (hb _ _ _ _ _ _ us hl)⟩
theorem bP{X:Cx}{CX:CXT}{k:Nat}{f:Addr}{fd:FuncData}{ps:List Str}{sp:Sp}{E:XK}{x:Str}{p pos:Pos}{e:Expr}{es:List Expr}{s:Stmt}{t:TA}(F:cU X.prog X.w X.K X.mg X.base CX k f fd ps sp){j:Nat}(hr:kD j X.A)(c:Fn4 X.K X.mg x s ps f fd)(hx:sO CX X E)
  (ha:PA X (e::es) t) (hj:k≤j:=by decide) (hg:Gl X x:=by rfl) (hdb:(x==("__debug__" : Str))=false:=by decide) (he:starEach (e::es) X.env=(false,eval e X.env)::starEach es X.env:=by rfl) (hpl:(backTo pos (starEach es X.env)).any (·.1)=false:=by rfl) :
  PE X (.Call (.Name x p) (e::es) [] pos) (IW sp [] E t):=NX F (hr.mono hj) hg c.m c.k c.b .nil hx ha hdb he hpl
structure Mth(T:String)(name:Str)(id:String):Prop where
 a:PlainAttrs T
 b:Slot T name id
 c:typeOf (.builtin id)=pure (.type "method_descriptor")
theorem mAp:Mth "list" "append" "list.append":=⟨PySem.F.plainAttrs_list,PySem.F.slot_list_append,PySem.F.type_list_append⟩
theorem mSp:Mth "str" "split" "str.split":=⟨PySem.F.plainAttrs_str,PySem.F.slot_str_split,PySem.F.type_str_split⟩
theorem mJn:Mth "str" "join" "str.join":=⟨PySem.F.plainAttrs_str,PySem.F.slot_str_join,PySem.F.type_str_join⟩
theorem mCo:Mth "str" "count" "str.count":=⟨PySem.F.plainAttrs_str,PySem.F.slot_str_count,PySem.F.type_str_count⟩
theorem dE{X:Cx}{o e:Expr}{es:List Expr}{to:TE}{t:TA}{name:Str}{apos cpos:Pos}{T id:String}{r:V→List V→Hp→VK→Prop}(M:Mth T name id)(hm:MtR X id r)(ho:PE X o to)(ha:PA X (e::es) t)
  (hbase:attributeBase o name X.env (eval o X.env)=eval o X.env:=by rfl)
  (hfew:((backTo cpos (starEach (e::es) X.env)).all (fun x=>!x.1)&&(backToKw cpos (keywordEach [] X.env)).all (fun x=>x.1.isSome)
   && decide ((e::es).length+([]:List Keyword).length+(if ([]:List Keyword).isEmpty then 0 else 1)<30))=true:=by rfl)
  (hline:(apos.endLine==cpos.line)=true:=by rfl) (hs:starEach (e::es) X.env=(false,eval e X.env)::starEach es X.env:=by rfl) (hplain:(backTo cpos (starEach es X.env)).any (·.1)=false:=by rfl) :
  PE X (.Call (.Attribute o name apos) (e::es) [] cpos) (tBM X.K T r to t):=lI M.a M.b M.c hm ho ha hbase hfew hline hs hplain
theorem aZ{X:Cx}{pos:Pos}(i:Nat){x:Str}{e:Expr}{te:TE}{pos':Pos}(hN:X.N.Nodup)(he:PE X e te)(hi:X.N[i]?=some x:=by rfl)(hx:Loc X.env.scope x:=by first | exact Or.inl rfl | exact Or.inr rfl)(hs:swapsWith e (some (.Name x pos')) pos.line X.env=pure false:=by rfl)(hf:X.fn x=true∨X.env.scope.names.lookup x=some .local:=by first | exact .inl rfl | exact .inr rfl | assumption) :
  PS X (.Assign [.Name x pos'] e pos) (GM te (bT i)):=vI hN hi hx he hs hf
end L2
namespace K75
open PySem L2
def top(i:Nat):Stmt:=PySem.Challenge.pw_fewbends_k75_other_texts_that_are_none.main.body.getD i (.Pass ⟨0,0,0,0⟩)
abbrev iE:Stmt:=top 15
theorem uA:bD ["point","head","by"] ["point","head","by"] (aR iE):=scm
abbrev jD:Stmt:=top 19
theorem lV:bD ["word","figures"] ["word"] (aR jD):=scm
abbrev iC:Stmt:=top 20
theorem lD:bD ["words"] ["words"] (aR iC):=scm
abbrev gU:Stmt:=top 24
theorem jP:bD ["told"] ["told"] (aR gU):=scm
abbrev rF:Stmt:=top 25
theorem uY:bD ["text"] ["text"] (aR rF):=scm
abbrev lZ:Stmt:=top 26
theorem pU:bD ["rows","place","word","told","row"] ["rows","place","word"] (aR lZ):=scm
abbrev iB:Stmt:=top 27
theorem lB:bD ["words","count"] ["words","count"] (aR iB):=scm
abbrev l5:Stmt:=top 28
theorem pW:bD ["words","numbers"] ["words"] (aR l5):=scm
abbrev kH:Stmt:=top 29
theorem oU:bD ["text","corners","lefts","words"] ["text"] (aR kH):=scm
abbrev kG:Stmt:=top 30
theorem oS:bD ["word"] ["word"] (aR kG):=scm
abbrev iD:Stmt:=top 31
theorem lE:bD ["text","rows","spots","lines"] ["text"] (aR iD):=scm
abbrev l7:Stmt:=top 32
theorem pX:bD ["words","point","line","word"] ["words"] (aR l7):=scm
abbrev l0:Stmt:=top 33
theorem pV:bD ["point","word","head","by"] ["point","word"] (aR l0):=scm
abbrev DZ:Stmt:=top 35
theorem ND:bD ["_law_script","_law_k"] ["_law_script","_law_k"] (aR DZ):=scm
abbrev zZ:Stmt:=top 36
theorem BM:bD ["_law_cell","_law_place","_law_turn","_law_part"] ["_law_cell","_law_place"] (aR zZ):=scm
abbrev rH:Stmt:=top 37
theorem uZ:bD ["_law_size","_law_bits","_law_found","_law_left","_law_y","_law_x","_law_other"] ["_law_size","_law_bits"] (aR rH):=scm
abbrev kI:Stmt:=top 38
theorem oV:bD ["_law_steps_here","_law_first","_law_there","_law_turn","_law_one","_law_other"] ["_law_steps_here","_law_first"] (aR kI):=scm
abbrev pG:Stmt:=top 39
theorem tF:bD ["_law_steps_here","_law_point","_law_found","_law_k","_law_other"] ["_law_steps_here","_law_point"] (aR pG):=scm
abbrev kJ:Stmt:=top 40
theorem tD:bD ["_law_steps_here","_law_number_here","_law_points_here","_law_some","_law_k","_law_point","_law_found"] ["_law_steps_here","_law_number_here"] (aR kJ):=scm
abbrev vD:Stmt:=top 41
theorem yF:bD ["_law_steps_here","_law_places_here","_law_one","_law_other","_law_row"] ["_law_steps_here","_law_places_here","_law_one","_law_other"] (aR vD):=scm
abbrev pY:Stmt:=top 42
theorem x9:bD ["_law_steps_here","_law_places_here","_law_number_here","_law_found","_law_place","_law_other","_law_row"] ["_law_steps_here","_law_places_here","_law_number_here"] (aR pY):=scm
abbrev rM:Stmt:=top 43
theorem u6:bD ["_law_steps_here","_law_places_here","_law_rows","_law_number_here","_law_orders","_law_place","_law_order","_law_other","_law_k","_law_row","_law_at_here"] ["_law_steps_here","_law_places_here","_law_rows","_law_number_here"] (aR rM):=scm
abbrev pD:Stmt:=top 44
theorem sY:bD ["_law_many","_law_number_here","_law_far","_law_found","_law_k"] ["_law_many","_law_number_here","_law_far"] (aR pD):=scm
abbrev vB:Stmt:=top 45
theorem yB:bD ["_law_row","_law_xs","_law_ys","_law_points_here","_law_found","_law_k"] ["_law_row","_law_xs","_law_ys"] (aR vB):=scm
abbrev rN:Stmt:=top 46
theorem u7:bD ["_law_script","_law_start","_law_far","_law_head","_law_sizes","_law_size","_law_bits","_law_more","_law_steps_here","_law_places_here","_law_rows","_law_chart_here","_law_xs","_law_ys"] ["_law_script","_law_start","_law_far"] (aR rN):=scm
abbrev l8:Stmt:=top 47
theorem zY:bD ["_law_here","_law_there"] ["_law_here","_law_there"] (aR l8):=scm
abbrev rL:Stmt:=top 48
theorem u5:bD ["_law_drawing","_law_end","_law_line_here"] ["_law_drawing","_law_end"] (aR rL):=scm
abbrev vA:Stmt:=top 49
theorem yA:bD ["_law_chart_here","_law_end","_law_other","_law_order"] ["_law_chart_here","_law_end"] (aR vA):=scm
abbrev rJ:Stmt:=top 50
theorem u0:bD ["_law_chart_here","_law_drawing","_law_corners","_law_lefts","_law_end","_law_heads_here","_law_onward"] ["_law_chart_here","_law_drawing"] (aR rJ):=scm
abbrev u9:Stmt:=top 51
theorem GX:bD ["_law_left","_law_right_here"] ["_law_left","_law_right_here"] (aR u9):=scm
abbrev iF:Stmt:=top 52
theorem lG:bD ["_law_shape_here","_law_corners","_law_lefts","_law_rows","_law_k","_law_row"] ["_law_shape_here"] (aR iF):=scm
abbrev jE:Stmt:=top 53
theorem lW:bD ["_law_here","_law_there","_law_far"] ["_law_here","_law_there"] (aR jE):=scm
abbrev fV:Stmt:=top 54
theorem iW:bD ["_law_drawing","_law_rows","_law_line_here","_law_row","_law_k"] ["_law_drawing"] (aR fV):=scm
abbrev kK:Stmt:=top 55
theorem oW:bD ["_law_row","_law_number_here","_law_cell","_law_odd","_law_words","_law_word_here","_law_spot","_law_way"] ["_law_row","_law_number_here","_law_cell"] (aR kK):=scm
abbrev vE:Stmt:=top 56
theorem yG:bD ["_law_text","_law_number_here","_law_cell","_law_rows","_law_spot","_law_to","_law_way","_law_row","_law_some","_law_sign","_law_place"] ["_law_text","_law_number_here","_law_cell"] (aR vE):=scm
abbrev pF:Stmt:=top 57
theorem tE:bD ["_law_word_here","_law_figures"] ["_law_word_here"] (aR pF):=scm
abbrev iG:Stmt:=top 58
theorem lH:bD ["_law_text","_law_corners","_law_lefts","_law_row","_law_words","_law_many"] ["_law_text"] (aR iG):=scm
abbrev pE:Stmt:=top 59
theorem sZ:bD ["_law_words","_law_point","_law_found","_law_word_here","_law_far","_law_k"] ["_law_words"] (aR pE):=scm
abbrev fU:Stmt:=top 60
theorem iV:bD ["_law_text","_law_spots","_law_rows","_law_row","_law_words"] ["_law_text"] (aR fU):=scm
abbrev vC:Stmt:=top 61
theorem yE:bD ["_law_kept","_law_some"] ["_law_kept"] (aR vC):=scm
abbrev rK:Stmt:=top 62
theorem u4:bD ["_law_text","_law_due","_law_drawn_one","_law_kept","_law_found","e"] ["_law_text","_law_due","_law_drawn_one"] (aR rK):=scm
abbrev JG:Stmt:=top 63
theorem JF:bD ["_law_script","_law_chart_here","_law_drawing","_law_shape_here","_law_one","_law_other","_law_k","_law_number_here","_law_cell","_law_some","_law_more","_law_turn"] ["_law_script"] (aR JG):=scm
set_option genInjectivity false in
structure Adr where
 fD:Addr
 kZ:Addr
 dZ:Addr
 eX:Addr
 gI:Addr
 eB:Addr
 iS:Addr
 a7:Addr
 eT:Addr
 gH:Addr
 eA:Addr
 fL:Tok
 n6:Tok
 eM:Tok
 fQ:Addr
 oJ:Option Addr
 nT:Nat
 nV:Array (Option Value)
 oD:Tok
 oB:Tok
 n9:Tok
 n8:Tok
 fP:Addr
 oI:Option Addr
 nQ:Nat
 nU:Array (Option Value)
 n5:Tok
 nZ:Tok
 nY:Tok
 nX:Tok
 dU:Addr
 kT:Option Addr
 kE:Nat
 kF:Array (Option Value)
 kR:Tok
 kQ:Tok
 kP:Tok
 kO:Tok
 nJ:Addr
 m8:FuncData
 pA:Addr
 o8:FuncData
 nH:Addr
 mY:FuncData
 lK:Addr
 lJ:FuncData
 zH:Addr
 yY:FuncData
 tV:Addr
 tN:FuncData
 nG:Addr
 mX:FuncData
 tX:Addr
 tP:FuncData
 qY:Addr
 qQ:FuncData
 qX:Addr
 qP:FuncData
 nI:Addr
 mZ:FuncData
 tY:Addr
 tQ:FuncData
 tW:Addr
 tO:FuncData
 ML:Addr
 L7:FuncData
 GG:Addr
 GE:FuncData
 zI:Addr
 yZ:FuncData
 qZ:Addr
 qR:FuncData
 xN:Addr
 wX:FuncData
 pO:Addr
 wV:FuncData
 DM:Addr
 CZ:FuncData
 xH:Addr
 CU:FuncData
 zM:Addr
 zA:FuncData
 xI:Addr
 wR:FuncData
 DK:Addr
 CW:FuncData
 zN:Addr
 zB:FuncData
 tZ:Addr
 tR:FuncData
 zL:Addr
 y9:FuncData
 DJ:Addr
 CV:FuncData
 zJ:Addr
 y0:FuncData
 DI:Addr
 CT:FuncData
 nK:Addr
 m9:FuncData
 pB:Addr
 o9:FuncData
 kC:Addr
 j5:FuncData
 rA:Addr
 qS:FuncData
 DN:Addr
 C1:FuncData
 xM:Addr
 wW:FuncData
 nM:Addr
 nA:FuncData
 xJ:Addr
 wU:FuncData
 kA:Addr
 j4:FuncData
 DL:Addr
 CY:FuncData
 zK:Addr
 y8:FuncData
 P8:Addr
 P6:FuncData
structure Txt(K:PySem.W.Frag)(mg:Str→Option Value)(t:Adr):Prop where
 mT:Fn4 K mg "point_beyond" iE ["point","head","by"] t.nJ t.m8
 jH:Fn4 K mg "read_number" jD ["word"] t.pA t.o8
 iO:Fn4 K mg "read_numbers" iC ["words"] t.nH t.mY
 cK:Fn4 K mg "refuse_unless" gU ["told"] t.lK t.lJ
 sH:Fn4 K mg "rows_of" rF ["text"] t.zH t.yY
 mQ:Fn4 K mg "rows_from" lZ ["rows","place","word"] t.tV t.tN
 mR:Fn4 K mg "read_so_many" iB ["words","count"] t.nG t.mX
 mS:Fn4 K mg "read_pair" l5 ["words"] t.tX t.tP
 gY:Fn4 K mg "read_shape" kH ["text"] t.qY t.qQ
 qL:Fn4 K mg "read_turns" kG ["word"] t.qX t.qP
 fN:Fn4 K mg "read_drawing" iD ["text"] t.nI t.mZ
 tM:Fn4 K mg "read_line" l7 ["words"] t.tY t.tQ
 tL:Fn4 K mg "read_step" l0 ["point","word"] t.tW t.tO
 iQ:Fn4 K mg "_law_at" DZ ["_law_script","_law_k"] t.ML t.L7
 eO:Fn4 K mg "_law_mix" zZ ["_law_cell","_law_place"] t.GG t.GE
 yT:Fn4 K mg "_law_steps" rH ["_law_size","_law_bits"] t.zI t.yZ
 qM:Fn4 K mg "_law_together" kI ["_law_steps_here","_law_first"] t.qZ t.qR
 iP:Fn4 K mg "_law_beside" pG ["_law_steps_here","_law_point"] t.xN t.wX
 wN:Fn4 K mg "_law_places" kJ ["_law_steps_here","_law_number_here"] t.pO t.wV
 CN:Fn4 K mg "_law_gone" vD ["_law_steps_here","_law_places_here","_law_one","_law_other"] t.DM t.CZ
 CI:Fn4 K mg "_law_ways" pY ["_law_steps_here","_law_places_here","_law_number_here"] t.xH t.CU
 yV:Fn4 K mg "_law_chart" rM ["_law_steps_here","_law_places_here","_law_rows","_law_number_here"] t.zM t.zA
 pL:Fn4 K mg "_law_rising" pD ["_law_many","_law_number_here","_law_far"] t.xI t.wR
 CK:Fn4 K mg "_law_line" vB ["_law_row","_law_xs","_law_ys"] t.DK t.CW
 yW:Fn4 K mg "_law_built" rN ["_law_script","_law_start","_law_far"] t.zN t.zB
 mW:Fn4 K mg "_law_heading" l8 ["_law_here","_law_there"] t.tZ t.tR
 sI:Fn4 K mg "_law_heads" rL ["_law_drawing","_law_end"] t.zL t.y9
 CJ:Fn4 K mg "_law_next" vA ["_law_chart_here","_law_end"] t.DJ t.CV
 yU:Fn4 K mg "_law_shape" rJ ["_law_chart_here","_law_drawing"] t.zJ t.y0
 CH:Fn4 K mg "_law_word" u9 ["_law_left","_law_right_here"] t.DI t.CT
 mU:Fn4 K mg "_law_shape_text" iF ["_law_shape_here"] t.nK t.m9
 o7:Fn4 K mg "_law_step_text" jE ["_law_here","_law_there"] t.pB t.o9
 j0:Fn4 K mg "_law_drawing_text" fV ["_law_drawing"] t.kC t.j5
 qN:Fn4 K mg "_law_bent_row" kK ["_law_row","_law_number_here","_law_cell"] t.rA t.qS
 wO:Fn4 K mg "_law_bent" vE ["_law_text","_law_number_here","_law_cell"] t.DN t.C1
 gE:Fn4 K mg "_law_number" pF ["_law_word_here"] t.xM t.wW
 mV:Fn4 K mg "_law_read_shape" iG ["_law_text"] t.nM t.nA
 wM:Fn4 K mg "_law_points" pE ["_law_words"] t.xJ t.wU
 jZ:Fn4 K mg "_law_read_drawing" fU ["_law_text"] t.kA t.j4
 CM:Fn4 K mg "_law_kind" vC ["_law_kept"] t.DL t.CY
 jY:Fn4 K mg "_law_right" rK ["_law_text","_law_due","_law_drawn_one"] t.zK t.y8
 UQ:Fn4 K mg "law" JG ["_law_script"] t.P8 t.P6
 O7:mg "abs" = none
 SX:mg "all" = none
 lM:mg "enumerate" = none
 oP:mg "int" = none
 dX:mg "isinstance" = none
 cP:mg "len" = none
 P9:mg "list" = none
 eJ:mg "range" = none
 SV:mg "set" = none
 ID:mg "sorted" = none
 sS:mg "str" = none
 SU:mg "sum" = none
 MR:mg "tuple" = none
 eQ:mg "MOST_FIGURES" = some (.int 40 t.fL)
 jX:mg "FIGURES" = some (.str (ZT "0123456789") t.n6)
 dI:mg "HEADING_LETTERS" = some (.str (ZT "enws") t.eM)
 mP:mg "ACROSS" = some (.ref t.fQ)
 mB:K.lookup t.fQ=some ⟨.type "tuple",t.oJ,.seq #[.int 1 t.oD,.int 0 t.oB,.int (-1) t.n9,.int 0 t.n8] t.nT,t.nV⟩
 mO:mg "UPWARD" = some (.ref t.fP)
 l9:K.lookup t.fP=some ⟨.type "tuple",t.oI,.seq #[.int 0 t.n5,.int 1 t.nZ,.int 0 t.nY,.int (-1) t.nX] t.nQ,t.nU⟩
 hV:mg "CORNERS" = some (.ref t.dU)
 jQ:K.lookup t.dU=some ⟨.type "tuple",t.kT,.seq #[.str (ZT "1") t.kR,.str (ZT "2") t.kQ,.str (ZT "3") t.kP,.str (ZT "4") t.kO] t.kE,t.kF⟩
 gR:mg "BendError" = some (.ref t.fD)
 qE:mg "NoMap" = some (.ref t.kZ)
 jS:mg "NotFlat" = some (.ref t.dZ)
 mJ:mg "NoLand" = some (.ref t.eX)
 qD:mg "NoNet" = some (.ref t.gI)
 jU:mg "NoShape" = some (.ref t.eB)
 mK:mg "NoLaid" = some (.ref t.iS)
 gP:mg "NoText" = some (.ref t.a7)
 gQ:mg "NoPicture" = some (.ref t.eT)
 qC:mg "NoRow" = some (.ref t.gH)
 jT:mg "NoThing" = some (.ref t.eA)
 DP:PySem.W.excIn K t.a7 [.type "ValueError",.type "Exception",.type "BaseException",.type "object"] "ValueError.__new__" = true
 IF:L2.O6 K t.a7 t.fD
 IE:PySem.W.subIn K (.ref t.a7) (.type "ValueError")=some true
 pR:L2.jJ K t.a7 t.kZ
 jK:L2.jJ K t.a7 t.dZ
 lN:L2.jJ K t.a7 t.eX
 pQ:L2.jJ K t.a7 t.gI
 jM:L2.jJ K t.a7 t.eB
 lP:L2.jJ K t.a7 t.iS
 gK:L2.jJ K t.a7 t.eT
 pP:L2.jJ K t.a7 t.gH
 jL:L2.jJ K t.a7 t.eA
 y_K:L2.xU K t.a7
 fH:mg "ValueError" = none
end K75
abbrev K75.lawK:Nat:=60
namespace L2
open PySem PyProof.Rows
def TsI(H:Hp)(a:Addr)(ts:AW.Ts):Prop:=∃tr:List Addr,H a=some (.lst (tr.map V.ref))∧tr.length=ts.length∧∀(i:Nat) t,ts[i]?=some t→∃r,tr[i]?=some r∧H r=some (.tup [.int t.1,.int t.2])
def OsI(H:Hp)(a:Addr)(os:AW.Os):Prop:=∃tr:List Addr,H a=some (.lst (tr.map V.ref))∧tr.length=os.length∧∀(i:Nat) l,os[i]?=some l→∃r,tr[i]?=some r∧H r=some (.lst (l.map V.int))
def ET(H:Hp)(w:Addr)(m:Int)(ts:AW.Ts)(os:AW.Os):Prop:=∃tA oA:Addr,H w=some (.tup [.int m,.ref tA,.ref oA])∧TsI H tA ts∧OsI H oA os
theorem TsI.same{H H':Hp}{a:Addr}{ts:AW.Ts}(h:TsI H a ts)(g:aO H H'):TsI H' a ts:=by
 obtain⟨tr,h1,h2,h3⟩:=h;exact⟨tr,g _ _ h1,h2,fun i t e=>let⟨r,q1,q2⟩:=h3 i t e;⟨r,q1,g _ _ q2⟩⟩
theorem OsI.same{H H':Hp}{a:Addr}{os:AW.Os}(h:OsI H a os)(g:aO H H'):OsI H' a os:=by
 obtain⟨tr,h1,h2,h3⟩:=h;exact⟨tr,g _ _ h1,h2,fun i t e=>let⟨r,q1,q2⟩:=h3 i t e;⟨r,q1,g _ _ q2⟩⟩
theorem ET.same{H H':Hp}{w:Addr}{m:Int}{ts:AW.Ts}{os:AW.Os}(h:ET H w m ts os)(g:aO H H'):ET H' w m ts os:=by
 obtain⟨tA,oA,h1,h2,h3⟩:=h;exact⟨tA,oA,g _ _ h1,h2.same g,h3.same g⟩
theorem TsI.nth{H:Hp}{a:Addr}{ts:AW.Ts}{tr:List Addr}(h1:tr.length=ts.length)(h2:∀(i:Nat) t,ts[i]?=some t→∃r,tr[i]?=some r∧H r=some (.tup [.int t.1,.int t.2])){i:Nat}{x:V}(hx:(tr.map V.ref)[i]?=some x) :
  ∃t r,ts[i]?=some t∧x=.ref r∧H r=some (.tup [.int t.1,.int t.2]):=by
 rw[Zk]at hx;cases e:ts[i]? with
 |none =>
  have:tr[i]?=none:=Zr (by rw[h1];exact List.getElem?_eq_none_iff.mp e);rw[this]at hx;cases hx
 |some t =>
  obtain⟨r,q1,q2⟩:=h2 i t e;rw[q1]at hx;cases hx;exact⟨t,r,rfl,rfl,q2⟩
theorem OsI.nth{H:Hp}{os:AW.Os}{tr:List Addr}(h1:tr.length=os.length)(h2:∀(i:Nat) l,os[i]?=some l→∃r,tr[i]?=some r∧H r=some (.lst (l.map V.int))){i:Nat}{x:V}(hx:(tr.map V.ref)[i]?=some x) :
  ∃l r,os[i]?=some l∧x=.ref r∧H r=some (.lst (l.map V.int)):=by
 rw[Zk]at hx;cases e:os[i]? with
 |none =>
  have:tr[i]?=none:=Zr (by rw[h1];exact List.getElem?_eq_none_iff.mp e);rw[this]at hx;cases hx
 |some t =>
  obtain⟨r,q1,q2⟩:=h2 i t e;rw[q1]at hx;cases hx;exact⟨t,r,rfl,rfl,q2⟩
structure UZ(H H':Hp)(r:Addr)(rr:List Addr)(ls:List (List V)):Prop where
 at_:H' r=some (.lst (rr.map V.ref))
 len:rr.length=ls.length
 row:∀(i:Nat) l,ls[i]?=some l→∃x,rr[i]?=some x∧H' x=some (.lst l)
 nd:rr.Nodup
 nin:r∉rr
 new:H r=none
 news:∀x∈rr,H x=none
theorem aO.fresh{H H':Hp}(g:aO H H'){x:Addr}(hx:H x=none)(o:HO):aO H (upd H' x o):=fun b u h=>by rw[aP (cM h hx)];exact g _ _ h
theorem SS{J:It}{js:List (Option Nat)}{σ:St}{H1:Hp}{R:Hp→Prop}{D:Addr}{g:TG}{te:TE}(n:Nat)(fs:Nat→List V)(hD:H1 D=none)(hn:n≤100000)
  (go:∀i H',i<n→aO H1 H'→J.go i H') (stop:∀H',aO H1 H'→J.stop n H')
  (hs:∀i H' x H'' (k:V→Hp→Prop),i<n→aO H1 H'→J.yld i H' x H''→(∀a H4,H' a=none→aO H' H4→H4 a=some (.lst (fs i))→k (.ref a) H4)→g x (inner js σ) H'' fun σ2 H2=>Fills (inner js σ) σ2∧te σ2 H2 k)
  (hd:∀(rr:List Addr) H',UZ H1 H' D rr ((List.range n).map fs)→aO H1 H'→R H') :
  ∃W:Nat→Nat→List V→Hp→Prop,(∃m,W 0 m [] (upd H1 D (.lst []))) ∧
   ∀i m ys H,W i m ys H→(J.stop i H∧R H)∨(J.go i H∧∃N:List V→Hp→Prop,(∀ys' H',N ys' H'→∃m',m' < m∧W (i+1) m' ys' H')∧∀x H',J.yld i H x H'→g x (inner js σ) H' fun σ2 H2=>Fills (inner js σ) σ2∧sU σ2 H2 fun b H3 =>
    if b=true then te σ2 H3 fun y H4=>H4 D=some (.lst ys)∧ys.length<ZW∧N (ys++[y]) (upd H4 D (.lst (ys++[y]))) else N ys H3):=by
 refine comp_map n (fun i ys H'=>∃rr:List Addr,ys=rr.map V.ref∧UZ H1 H' D rr ((List.range i).map fs)∧aO H1 H') ⟨[],rfl,⟨aB,rfl,fun i l h=>by simp at h,List.nodup_nil,by simp,hD,by simp⟩,aH hD _⟩ ?_ ?_
 ·rintro i ys H' hi ⟨rr,rfl,w,g1⟩;have hl:rr.length=i:=by rw[w.len];simp
  refine⟨go i H' hi g1,fun x H'' hy=>hs i H' x H'' _ hi g1 hy fun a H4 ha g4 e4=>⟨g4 _ _ w.at_,?_,rr++[a],?_,?_,?_⟩⟩
  ·rw[Zq,hl];exact Xz hi (YQ hn (by decide))
  ·rw[Zt];rfl
  ·have aD:a≠D:=fun z=>by rw[z,w.at_]at ha;cases ha
   have ain:a∉rr:=fun z=>by
    obtain⟨j,hj,e⟩:=Yg.mp z;have hj':j<((List.range i).map fs).length:=w.len▸hj;obtain⟨y,h1,h2⟩:=w.row j _ (Zz hj');rw[Zz hj,e]at h1;cases h1;rw[ha]at h2;cases h2
   refine⟨by rw[Zt];exact aB,by simp[hl],fun j l h=>?_,?_,?_,hD,?_⟩
   ·by_cases hj:j<i
    ·have e:((List.range (i+1)).map fs)[j]?=((List.range i).map fs)[j]?:=by simp[hj,Xj hj]
     rw[e]at h;obtain⟨y,h1,h2⟩:=w.row j l h;have yD:y≠D:=fun z=>w.nin (z▸Zg h1);exact⟨y,by rw[Zx (by lia)];exact h1,by rw[aP yD];exact g4 _ _ h2⟩
    ·have hj2:j=i:=by
      have:=(Zj.mp h).1;simp at this;lia
     subst hj2;have e:l=fs j:=by simpa using h.symm
     subst e;exact⟨a,by rw[←hl,Yy],by rw[aP aD];exact e4⟩
   ·rw[List.nodup_append];refine⟨w.nd,by simp,fun b hb c hc z=>?_⟩;have e:c=a:=by simpa using hc
    subst e;subst z;exact ain hb
   ·intro z;rcases Zf.mp z with z | z
    ·exact w.nin z
    ·exact aD (Zb.mp z).symm
   ·intro y hy;rcases Zf.mp hy with z | z
    ·exact w.news y z
    ·rw[Zb.mp z];exact g1.free ha
  ·exact(g1.trans g4).fresh hD _
 ·rintro ys H' ⟨rr,rfl,w,g1⟩;exact⟨stop H' g1,hd rr H' w g1⟩
theorem t7{tt r:TS}{D:Ends}{σ:St}{H:Hp}(I:St→Hp→Prop)(ht:∀N:St→Hp→Prop,(∀σ' H',I σ' H'→N σ' H')→tt { D with nx:=N } σ H)(hr:∀σ' H',I σ' H'→r D σ' H'):DV tt r D σ H:=ht _ hr
end L2
namespace AW
end AW
namespace L2
open PySem PySem.Spec PyProof.Rows TX
theorem j6{J:It}{js:List (Option Nat)}{σ:St}{H1:Hp}{R:Hp→Prop}{D:Addr}{g:TG}{te:TE}(n:Nat)(Pe:Nat→HO→Prop)(hD:H1 D=none)(hn:n≤100000)
  (go:∀i H',i<n→aO H1 H'→J.go i H') (stop:∀H',aO H1 H'→J.stop n H')
  (hs:∀i H' x H'' (k:V→Hp→Prop),i<n→aO H1 H'→J.yld i H' x H''→(∀a o H4,Pe i o→H' a=none→aO H' H4→H4 a=some o→k (.ref a) H4)→g x (inner js σ) H'' fun σ2 H2=>Fills (inner js σ) σ2∧te σ2 H2 k)
  (hd:∀(rr:List Addr) H',rr.length=n→(∀(i:Nat) a,rr[i]?=some a→∃o,Pe i o∧H' a=some o)→aO H1 H'→H' D=some (.lst (rr.map V.ref))→R H') :
  ∃W:Nat→Nat→List V→Hp→Prop,(∃m,W 0 m [] (upd H1 D (.lst []))) ∧
   ∀i m ys H,W i m ys H→(J.stop i H∧R H)∨(J.go i H∧∃N:List V→Hp→Prop,(∀ys' H',N ys' H'→∃m',m' < m∧W (i+1) m' ys' H')∧∀x H',J.yld i H x H'→g x (inner js σ) H' fun σ2 H2=>Fills (inner js σ) σ2∧sU σ2 H2 fun b H3 =>
    if b=true then te σ2 H3 fun y H4=>H4 D=some (.lst ys)∧ys.length<ZW∧N (ys++[y]) (upd H4 D (.lst (ys++[y]))) else N ys H3):=by
 refine comp_map n (fun i ys H'=>∃rr:List Addr,ys=rr.map V.ref∧rr.length=i∧(∀(j:Nat) a,rr[j]?=some a→∃o,Pe j o∧H' a=some o)∧D∉rr∧aO H1 H'∧H' D=some (.lst (rr.map V.ref))) ⟨[],rfl,rfl,fun j a h=>by simp at h,by simp,aH hD _,aB⟩ ?_ ?_
 ·rintro i ys H' hi ⟨rr,rfl,hl,hp,nD,g1,eD⟩;refine⟨go i H' hi g1,fun x H'' hy=>hs i H' x H'' _ hi g1 hy fun a o H4 hP ha g4 e4=>⟨g4 _ _ eD,?_,rr++[a],?_,?_,?_,?_,?_,?_⟩⟩
  ·rw[Zq,hl];exact Xz hi (YQ hn (by decide))
  ·rw[Zt];rfl
  ·simp[hl]
  ·have aD:a≠D:=fun z=>by rw[z,eD]at ha;cases ha
   intro j b hb;by_cases hj:j<i
   ·rw[Zx (by lia)]at hb;obtain⟨o',h1,h2⟩:=hp j b hb;exact⟨o',h1,by rw[aP (show b≠D from fun z=>nD (z▸Zg hb))];exact g4 _ _ h2⟩
   ·have hj2:j=i:=by
     have:=(Zj.mp hb).1;simp at this;lia
    subst hj2;rw[←hl,Yy]at hb;cases hb;exact⟨o,hP,by rw[aP aD];exact e4⟩
  ·intro z;rcases Zf.mp z with z | z
   ·exact nD z
   ·have:=Zb.mp z;rw[←this,eD]at ha;cases ha
  ·exact(g1.trans g4).fresh hD _
  ·rw[Zt];exact aB
 ·rintro ys H' ⟨rr,rfl,hl,hp,nD,g1,eD⟩;exact⟨stop H' g1,hd rr H' hl hp g1 eD⟩
def zO(H:Hp)(a:Addr)(W:List Rw):Prop:=∃rr:List Addr,H a=some (.lst (rr.map V.ref))∧rr.length=W.length∧∀(i:Nat) r,W[i]?=some r→∃x,rr[i]?=some x∧H x=some (.lst (vxs r))
theorem zO.same{H H':Hp}{a:Addr}{W:List Rw}(h:zO H a W)(g:aO H H'):zO H' a W:=by
 obtain⟨rr,h1,h2,h3⟩:=h;exact⟨rr,g _ _ h1,h2,fun i r e=>let⟨x,q1,q2⟩:=h3 i r e;⟨x,q1,g _ _ q2⟩⟩
theorem NF{H:Hp}{W:List Rw}{rr:List Addr}(h1:rr.length=W.length)(h2:∀(i:Nat) r,W[i]?=some r→∃x,rr[i]?=some x∧H x=some (.lst (vxs r))){i:Nat}{v:V}(hx:(rr.map V.ref)[i]?=some v) :
  ∃r x,W[i]?=some r∧v=.ref x∧H x=some (.lst (vxs r)):=by
 rw[Zk]at hx;cases e:W[i]? with
 |none =>
  have:rr[i]?=none:=Zr (by rw[h1];exact List.getElem?_eq_none_iff.mp e);rw[this]at hx;cases hx
 |some r =>
  obtain⟨x,q1,q2⟩:=h2 i r e;rw[q1]at hx;cases hx;exact⟨r,x,rfl,rfl,q2⟩
theorem gF(xs:List V)(k:Nat):fF xs (some (k:Int)) none=xs.drop k:=by
 unfold fF;rw[HT.mC,HT.uF];by_cases h:k≤xs.length
 ·rw[Nat.min_eq_left h,List.take_of_length_le (by rw[Ym];lia)]
 ·rw[Nat.min_eq_right (by lia),List.drop_of_length_le (Nat.le_refl _),List.drop_of_length_le (by lia),List.take_nil]
theorem kW(xs:List V)(k:Nat):fF xs none (some (k:Int))=xs.take k:=by
 unfold fF;rw[HT.mC,HT.uF,List.drop_zero,Nat.sub_zero];by_cases h:k≤xs.length
 ·rw[Nat.min_eq_left h]
 ·rw[Nat.min_eq_right (by lia),List.take_of_length_le (Nat.le_refl _),List.take_of_length_le (by lia)]
section
variable{X:Cx}{a b:Expr}{rest:List Expr}{pos:Pos}{ta tb:TE}
def S8(K:PySem.W.Frag)(ta tb:TE):TE:=fun σ H Q=>ta σ H fun x H1=>∃k,MN K x H1 k∧if k=true then tb σ H1 Q else Q x H1
theorem AF(ha:PE X a ta)(hb:PE X (.BoolOp .And (b::rest) pos) tb):PE X (.BoolOp .And (a::b::rest) pos) (S8 X.K ta tb):=by
 intro pins s σ H Q I h;refine BoolOp_and (thn (ha pins s σ H _ I h) fun v s1 ⟨x,H1,I1,r1,q1⟩=>?_);obtain⟨k,e,q1⟩:=q1;refine thn (IT pins s1 σ H1 x v (fun c H2=>c=k∧H2=H1) I1 r1 ⟨k,e,rfl,rfl⟩) fun c s2 ⟨H2,I2,h1,h2⟩=>?_;subst h1 h2;cases c with
 |true=>exact hb pins s2 σ H2 Q I2 q1
 |false=>exact⟨x,H2,I2,r1,q1⟩
end
end L2
namespace L2
open PySem PySem.Spec PyProof.Rows
theorem LG(x:Int)(ns:List Int):inV (.int x) (ns.map V.int)=decide (x∈ns):=by
 unfold inV;rw[Xg,List.any_eq_true,decide_eq_true_iff];constructor
 ·rintro⟨y,hy,h⟩;obtain⟨z,hz,rfl⟩:=Zh.mp hy;have:z=x:=by simpa[eqV] using h
  exact this▸hz
 ·intro h;exact⟨.int x,Zh.mpr ⟨x,h,rfl⟩,by simp[eqV]⟩
theorem HR(ns:List Int):(ns.map V.int).all iN=true:=by
 rw[List.all_eq_true];intro y hy;obtain⟨n,_,rfl⟩:=Zh.mp hy;rfl
section
variable{X:Cx}
def U0(_ j:Int):Prop:=0<j∧j.natAbs.log2<9000
theorem B1:OpR X (binaryOp .FloorDiv) (rI U0 fun i j=>.int (i / j)):=opI fun i j _ _ _ _ _ hc q=>by
 have h1:(0:Int)<j:=hc.1;exact floordiv_int (by lia) (by rw[Int.fdiv_eq_ediv_of_nonneg i (by lia)];exact q) (.inl (PyProof.noPylong_of_log2 hc.2))
def NM:V→List V→Hp→VK→Prop:=fun x vs H Q=>∃(l:Addr) (xs:List V) (v:V) (j:Nat),x=.ref l∧vs=[v]∧H l=some (.lst xs)∧iN v=true∧xs.all iN=true∧(∃y,xs[j]?=some y∧eqV y v=true)∧(∀m y,m<j→xs[m]?=some y→eqV y v=false)∧Q (vn j) H
theorem HF:MtM X "list.index" NM:=by
 intro pins s σ H x vs v us Q I rx rv h;obtain⟨l,xs,k,j,rfl,rfl,hH,fk,fl,⟨yj,ey,hy⟩,hm,q⟩:=h;cases rx;obtain⟨u,rfl,ru⟩:=rv.one;obtain⟨z,its,n,r,hl,e⟩:=I.lstM hH;have item:∀(m:Nat) (hm:m<its.toArray.size) (y:V),xs[m]?=some y→eqU k its.toArray[m]=eqV y k:=fun m hm' y hx=>by
  obtain⟨u',hu',ru'⟩:=r.get hx;have e1:its.toArray[m]=u':=by
   have:its[m]?=some its.toArray[m]:=by simp at hm' ⊢
   rw[this]at hu';exact Option.some.inj hu'
  rw[e1,wQ ru' (List.all_eq_true.mp fl y (Zg hx))]
 have hj:j<xs.length:=(Zj.mp ey).1;have hsm:((j:Nat):Int)<2 ^ 63-1:=by
  have h1:=iL
  lia
 refine call_meets F.slot_list_index ⟨_,e,rfl⟩ F.entry_list_index (F.args_list_index_2 _ _) (SeqAt.list_indexAt l its.toArray n none #[] u (eqU k) j (by rw[List.size_toArray];lia) hsm ?_ ?_) ⟨e,fun y hy=>?_,?_⟩
 ·rw[item j _ yj ey];exact hy
 ·intro m hm' hlt;rw[item m hm' xs[m] (Zz (by lia))];exact hm m _ hlt (Zz (by lia))
 ·exact gO (x:=k) ru fk r fl y (by simpa using hy)
 ·exact⟨vn j,H,I.tok _,⟨_,rfl⟩,q⟩
def NQ:V→List V→Hp→VK→Prop:=fun x vs H Q=>∃(l:Addr) (xs:List V) (v:V),x=.ref l∧vs=[v]∧H l=some (.lst xs)∧iN v=true∧xs.all iN=true∧Q (vn (xs.countP fun y=>eqV y v)) H
theorem tS{k:V}:∀{xs:List V}{us:List Value},b7 xs us→xs.all iN=true→us.countP (eqU k)=xs.countP fun y=>eqV y k
 |_,_,.nil,_=>rfl
 |y::xs,u::us,.cons r t,f=>by
  rw[List.all_cons,Xy]at f;rw[List.countP_cons,List.countP_cons,tS t f.2,wQ r f.1]
theorem HI:MtM X "list.count" NQ:=by
 intro pins s σ H x vs v us Q I rx rv h;obtain⟨l,xs,k,rfl,rfl,hH,fk,fl,q⟩:=h;cases rx;obtain⟨u,rfl,ru⟩:=rv.one;obtain⟨z,its,n,r,hl,e⟩:=I.lstM hH;refine call_meets PySem.F.slot_list_count ⟨_,e,rfl⟩ PySem.F.entry_list_count (PySem.F.args_list_count_2 _ _) (SeqAt.list_countAt l its.toArray n none #[] u (eqU k)) ⟨e,fun y hy=>gO (x:=k) ru fk r fl y (by simpa using hy),?_⟩;rw[show its.toArray.toList=its from rfl,tS r fl];exact⟨vn (xs.countP fun y=>eqV y k),H,I.tok _,⟨_,rfl⟩,q⟩
end
theorem qT{J:It}{js:List (Option Nat)}{σ:St}{H1:Hp}{R:Hp→Prop}{D:Addr}{g:TG}{tc:TT}{te:TE}(n:Nat)(fs:Nat→V)(p:Nat→Bool)(hD:H1 D=none)(hn:n≤100000)
  (go:∀i H',i<n→aO H1 H'→J.go i H') (stop:∀H',aO H1 H'→J.stop n H')
  (hs:∀i H' x H'' (kt:V→Hp→Prop) (kf:Hp→Prop),i<n→aO H1 H'→J.yld i H' x H''→(p i=true→∀H4,aO H' H4→kt (fs i) H4)→(p i=false→∀H4,aO H' H4→kf H4) →
   g x (inner js σ) H'' fun σ2 H2=>Fills (inner js σ) σ2∧tc σ2 H2 fun b H3=>if b=true then te σ2 H3 kt else kf H3)
  (hd:∀H',aO H1 H'→H' D=some (.lst (((List.range n).filter p).map fs))→R H') :
  ∃W:Nat→Nat→List V→Hp→Prop,(∃m,W 0 m [] (upd H1 D (.lst []))) ∧
   ∀i m ys H,W i m ys H→(J.stop i H∧R H)∨(J.go i H∧∃N:List V→Hp→Prop,(∀ys' H',N ys' H'→∃m',m' < m∧W (i+1) m' ys' H')∧∀x H',J.yld i H x H'→g x (inner js σ) H' fun σ2 H2=>Fills (inner js σ) σ2∧tc σ2 H2 fun b H3 =>
    if b=true then te σ2 H3 fun y H4=>H4 D=some (.lst ys)∧ys.length<ZW∧N (ys++[y]) (upd H4 D (.lst (ys++[y]))) else N ys H3):=by
 refine uK n (fun i ys H'=>ys=((List.range i).filter p).map fs∧aO H1 H'∧H' D=some (.lst ys)) ⟨rfl,aH hD _,aB⟩ ?_ ?_
 ·rintro i ys H' hi ⟨rfl,g1,eD⟩;have en:((List.range (i+1)).filter p).map fs=((List.range i).filter p).map fs++(if p i=true then [fs i] else []):=by
   rw[List.range_succ,List.filter_append,Zt];congr 1;by_cases h:p i=true
   ·simp[h]
   ·simp[h]
  refine⟨go i H' hi g1,fun x H'' hy=>hs i H' x H'' _ _ hi g1 hy (fun hp H4 g4=>⟨g4 _ _ eD,?_,?_,(g1.trans g4).fresh hD _,aB⟩) (fun hp H4 g4=>⟨?_,g1.trans g4,g4 _ _ eD⟩)⟩
  ·rw[Zq];refine Xq (List.length_filter_le _ _) ?_;rw[Yj];exact Xz hi (YQ hn (by decide))
  ·rw[en,if_pos hp]
  ·rw[en,if_neg (by rw[hp];exact Bool.false_ne_true),List.append_nil]
 ·rintro ys H' ⟨rfl,g1,eD⟩;exact⟨stop H' g1,hd H' g1 eD⟩
end L2
namespace L2
open PySem PySem.Spec PyProof.Rows GR
def dP(p:Pt):PyData:=.tuple [.int p.1,.int p.2]
def dS(s:Pt×Pt):PyData:=.tuple [dP s.1,dP s.2]
abbrev PtA(H:Hp)(a:Addr)(p:Pt):Prop:=H a=some (.tup [.int p.1,.int p.2])
def StA(H:Hp)(a:Addr)(s:Pt×Pt):Prop:=∃x y,H a=some (.tup [.ref x,.ref y])∧PtA H x s.1∧PtA H y s.2
def SsI(H:Hp)(a:Addr)(S:Sts):Prop:=∃tr:List Addr,H a=some (.lst (tr.map V.ref))∧tr.length=S.length∧∀(i:Nat) s,S[i]?=some s→∃r,tr[i]?=some r∧StA H r s
theorem StA.same{H H':Hp}{a:Addr}{s:Pt×Pt}(h:StA H a s)(g:aO H H'):StA H' a s:=let⟨x,y,h1,h2,h3⟩:=h;⟨x,y,g _ _ h1,g _ _ h2,g _ _ h3⟩
theorem SsI.same{H H':Hp}{a:Addr}{S:Sts}(h:SsI H a S)(g:aO H H'):SsI H' a S:=let⟨tr,h1,h2,h3⟩:=h;⟨tr,g _ _ h1,h2,fun i s e=>let⟨r,q1,q2⟩:=h3 i s e;⟨r,q1,q2.same g⟩⟩
theorem tT{K:PySem.W.Frag}{H:Hp}{a:Addr}{p:Pt}(h:PtA H a p):Bd K H (.ref a) (dP p):=.tup (SqT.of h) (.cons (.int _) (.cons (.int _) .nil))
theorem P7{K:PySem.W.Frag}{H:Hp}{a:Addr}{s:Pt×Pt}(h:StA H a s):Bd K H (.ref a) (dS s):=let⟨_,_,h1,h2,h3⟩:=h;.tup (SqT.of h1) (.cons (tT h2) (.cons (tT h3) .nil))
theorem xC{K:PySem.W.Frag}{H:Hp}{α:Type}{d:α→PyData}:∀(tr:List Addr) (S:List α),tr.length=S.length→(∀(i:Nat) s,S[i]?=some s→∃r,tr[i]?=some r∧Bd K H (.ref r) (d s))→Bds K H (tr.map V.ref) (S.map d)
 |[],[],_,_=>.nil
 |a::tr,s::S,hl,h=>by
  obtain⟨r,h1,h2⟩:=h 0 s rfl;cases h1;exact .cons h2 (xC tr S (by simpa using hl) fun i t e=>h (i+1) t (by simpa using e))
theorem sX(p:Pt):smD (dP p):=⟨rfl,by simp[dP,PyData.depth,PyData.depthAll]⟩
theorem PL(s:Pt×Pt):smD (dS s):=⟨rfl,by simp[dS,dP,PyData.depth,PyData.depthAll]⟩
theorem pM(p q:Pt):PyData.eqv (dP p) (dP q)=decide (p=q):=by
 unfold dP;simp only[PyData.eqv,PyData.eqvAll];rw[Xg];simp[Prod.ext_iff]
theorem LS(s t:Pt×Pt):PyData.eqv (dS s) (dS t)=decide (s=t):=by
 unfold dS;rw[Xg];simp only[PyData.eqv,PyData.eqvAll,pM];simp[Prod.ext_iff]
theorem MH(ps:List Pt)(p:Pt):((ps.map dP).any fun d=>PyData.eqv d (dP p))=decide (p∈ps):=by
 rw[Xg,List.any_eq_true,decide_eq_true_iff];constructor
 ·rintro⟨d,hd,e⟩;obtain⟨q,hq,rfl⟩:=Zh.mp hd;rw[pM]at e;exact of_decide_eq_true e▸hq
 ·intro h;exact⟨_,Yn h,by rw[pM];exact decide_eq_true rfl⟩
theorem SE(S:Sts)(s:Pt×Pt):((S.map dS).any fun d=>PyData.eqv d (dS s))=decide (s∈S):=by
 rw[Xg,List.any_eq_true,decide_eq_true_iff];constructor
 ·rintro⟨d,hd,e⟩;obtain⟨q,hq,rfl⟩:=Zh.mp hd;rw[LS]at e;exact of_decide_eq_true e▸hq
 ·intro h;exact⟨_,Yn h,by rw[LS];exact decide_eq_true rfl⟩
theorem SsI.bds{K:PySem.W.Frag}{H:Hp}{S:Sts}{tr:List Addr}(h2:tr.length=S.length)(h3:∀(i:Nat) s,S[i]?=some s→∃r,tr[i]?=some r∧StA H r s):Bds K H (tr.map V.ref) (S.map dS):=xC tr S h2 fun i s e=>let⟨r,q1,q2⟩:=h3 i s e;⟨r,q1,P7 q2⟩
theorem TsI.bds{K:PySem.W.Frag}{H:Hp}{S:List Pt}{tr:List Addr}(h2:tr.length=S.length)(h3:∀(i:Nat) s,S[i]?=some s→∃r,tr[i]?=some r∧H r=some (.tup [.int s.1,.int s.2])):Bds K H (tr.map V.ref) (S.map dP):=xC tr S h2 fun i s e=>let⟨r,q1,q2⟩:=h3 i s e;⟨r,q1,tT q2⟩
theorem SsI.nth{H:Hp}{S:Sts}{tr:List Addr}(h1:tr.length=S.length)(h2:∀(i:Nat) s,S[i]?=some s→∃r,tr[i]?=some r∧StA H r s){i:Nat}{x:V}(hx:(tr.map V.ref)[i]?=some x):∃s r,S[i]?=some s∧x=.ref r∧StA H r s:=by
 rw[Zk]at hx;cases e:S[i]? with
 |none =>
  rw[Zr (by rw[h1];exact List.getElem?_eq_none_iff.mp e)]at hx;cases hx
 |some s =>
  obtain⟨r,q1,q2⟩:=h2 i s e;rw[q1]at hx;exact⟨s,r,rfl,(Option.some.inj hx).symm,q2⟩
theorem mD{H:Hp}{D r:Addr}{ps:List Pt}{tr:List Addr}{p:Pt}(h1:H D=some (.lst (tr.map V.ref)))(h2:tr.length=ps.length)(h3:∀(i:Nat) s,ps[i]?=some s→∃r,tr[i]?=some r∧PtA H r s)(hr:PtA H r p):TsI (upd H D (.lst (tr.map V.ref++[.ref r]))) D (ps++[p]):=by
 have ne:∀{b:Addr}{l:List V},H b=some (.tup l)→b≠D:=fun hb z=>by rw[z,h1]at hb;cases hb
 refine⟨tr++[r],by rw[Zt];exact aB,by simp[h2],fun i s e=>?_⟩;by_cases q:i<ps.length
 ·rw[Zx q]at e;obtain⟨x,e1,e2⟩:=h3 i s e;exact⟨x,by rw[Zx (by lia)];exact e1,by rw[aP (ne e2)];exact e2⟩
 ·have hi:=(Zj.mp e).1;simp at hi;have:i=ps.length:=by lia
  subst this;rw[Zy (Nat.le_refl _),Nat.sub_self]at e;cases e;exact⟨r,by rw[Zy (by lia),h2,Nat.sub_self];rfl,by rw[aP (ne hr)];exact hr⟩
theorem OI{X:Cx}{K:PySem.W.Frag}(hK:X.K=K)(hu:X.A.units+64<cLine):OpR X (compareOp .In) (Q5 K false):=by subst hK;exact rZ hu
theorem vZ{X:Cx}{K:PySem.W.Frag}(hK:X.K=K)(hu:X.A.units+64<cLine):MtM X "list.index" (E4 K):=by subst hK;exact HH hu
theorem UU{i:Nat}(h:i<4):atI [V.int 1,V.int 0,V.int (-1),V.int 0] (0+(i:Int))=some (.int (dx i)):=by
 match i,h with
 |0,_=>rfl
 |1,_=>rfl
 |2,_=>rfl
 |3,_=>rfl
theorem UT{i:Nat}(h:i<4):atI [V.int 0,V.int 1,V.int 0,V.int (-1)] (0+(i:Int))=some (.int (dy i)):=by
 match i,h with
 |0,_=>rfl
 |1,_=>rfl
 |2,_=>rfl
 |3,_=>rfl
end L2
variable{P:PySem.Program}{w:PySem.World}{K:PySem.W.Frag}{mg:PySem.Str→Option PySem.Value}{base:PySem.Heap}{t:K75.Adr}
namespace K75
open PySem L2 PyProof.Rows TX GR
def JD:Sp:=fun vs H Q _=>∃(sa pa:Addr) (S:Sts) (p:Pt),vs=[.ref sa,.ref pa]∧SsI H sa S∧PtA H pa p∧∀(D:Addr) (H':Hp),aO H H'→H D=none→TsI H' D (nb S p)→Q (.ref D) H'
theorem oG(T:Txt K mg t):cU P w K mg base CX0 1 t.xN t.wX ["_law_steps_here","_law_point"] JD:=by
 refine T.iP.F.ok tF (fun vs H Q E h=>?_) (fun cdv A outer s H vs Q E hr h=>?_)
 ·obtain⟨sa,pa,S,p,rfl,_⟩:=h;rfl
 obtain⟨sa,pa,S,p,rfl,hS,hp,q⟩:=h;have nd:=tF.nd;refine⟨_,(aG (aZ 2 nd (bI aC))
  (aG (cR PassesOwn.never rfl (dC rfl T.eJ (aA aE aC)) (aX (i:=3) nd rfl (Or.inl rfl)) (aG (aZ 4 nd (cS (aA (aM bM (aQ bW (pv 1) aE (fun _ _=>rfl)) (aQ aT (bI (aA aE (aA aE (aA (iH e8 aE) (aA aE aC))))) (pv 3) (fun _ _=>rfl))) (aA (aM bM (aQ bW (pv 1) aE (fun _ _=>rfl)) (aQ aT (bI (aA aE (aA aE (aA aE (aA (iH e8 aE) aC))))) (pv 3) (fun _ _=>rfl))) aC))))
  (aL (cH (PW.pt (iY (aS (rZ hr.units) (cS (aA (pv 1) (aA (pv 4) aC))) (pv 0) rfl) (jF (aS (rZ hr.units) (cS (aA (pv 4) (aA (pv 1) aC))) (pv 0) rfl)))) (aL (bQ (dE mAp bR (pv 2) (aA (pv 4) aC)))) bG))))
  (aL (a8 (pv 2))))),?_⟩
 refine⟨(by show 0≤ZW;decide),fun D hD=>?_⟩;have b1:=aH hD (.lst [])
 let Pv1:Nat→L2.St→L2.Hp→Prop:=fun i σ H'=>(∃v3 v4,σ=[some (.ref sa),some (.ref pa),some (.ref D),v3,v4])∧aO H H'∧TsI H' D (((List.range i).map (dr p)).filter fun q=>decide (Adj S p q))
 refine⟨4,rfl,by decide,by decide,dD (lo:=0) (n:=4) Pv1 ⟨⟨_,_,rfl⟩,b1,⟨[],aB,rfl,fun i s e=>by simp at e⟩⟩ ?_ ?_⟩
 ·rintro i σ H1 hi ⟨⟨v3,v4,rfl⟩,g1,⟨tr,f1,f2,f3⟩⟩;have i4:i<4:=hi;have hS1:=hS.same g1;have hp1:=g1 _ _ hp;refine⟨_,rfl,(aI pa _ _ _ rfl (aU rfl (SqT.of hp1) rfl _ rfl ⟨ (by show 4≤ZW;decide),fun l1 hl1=>?_⟩))⟩;have k1:=aH hl1 (.lst [V.int 1,V.int 0,V.int (-1),V.int 0]);refine⟨_,rfl,(aI l1 _ _ _ rfl ⟨ rfl,(aN (SqL.of aB) (UU i4) _ _ rfl ⟨ rfl,_,rfl,(aI pa _ _ _ rfl (aU rfl (SqT.of (k1 _ _ hp1)) rfl _ rfl ⟨ (by show 4≤ZW;decide),fun l2 hl2=>?_⟩))⟩)⟩)⟩;have k2:=aH hl2 (.lst [V.int 0,V.int 1,V.int 0,V.int (-1)]);refine⟨_,rfl,(aI l2 _ _ _ rfl ⟨ rfl,(aN (SqL.of aB) (UT i4) _ _ rfl ⟨ rfl,(by show 2≤ZW;decide),fun oa hoa=>?_⟩)⟩)⟩;have k3:=aH hoa (.tup [.int (dr p i).1,.int (dr p i).2]);have k13:=k1.trans (k2.trans k3);show bT 4 (V.ref oa) _ (upd _ oa (.tup [.int (dr p i).1,.int (dr p i).2])) _;have ho:PtA (upd (upd (upd H1 l1 (.lst [V.int 1,V.int 0,V.int (-1),V.int 0])) l2 (.lst [V.int 0,V.int 1,V.int 0,V.int (-1)])) oa (.tup [.int (dr p i).1,.int (dr p i).2])) oa (dr p i):=aB;generalize upd (upd (upd H1 l1 (.lst [V.int 1,V.int 0,V.int (-1),V.int 0])) l2 (.lst [V.int 0,V.int 1,V.int 0,V.int (-1)])) oa (.tup [.int (dr p i).1,.int (dr p i).2])=H2 at k13 ho ⊢;have hp2:=k13 _ _ hp1;have look:∀{a b:Addr}{x y:Pt}{H3:Hp}(ta:Addr),aO H2 H3→PtA H3 a x→PtA H3 b y→H3 ta=none→∃xs dx ds,SqL K (upd H3 ta (.tup [.ref a,.ref b])) sa xs∧Bd K (upd H3 ta (.tup [.ref a,.ref b])) (.ref ta) dx∧Bds K (upd H3 ta (.tup [.ref a,.ref b])) xs ds∧smD dx∧(∀d∈ds,smD d)∧(ds.any fun d=>PyData.eqv d dx)=decide ((x,y)∈S):=fun {a b x y H3} ta g ha hb hta=>by
   have k:=aH hta (.tup [.ref a,.ref b]);obtain⟨sr,s1,s2,s3⟩:=(hS1.same (k13.trans (g.trans k)))
   exact(cQ _ (dS (x,y)) (S.map dS) (SqL.of s1) (P7 ⟨a,b,aB,k _ _ ha,k _ _ hb⟩) ⟨ SsI.bds s2 s3,PL _,fun d hd=>by obtain⟨z,_,rfl⟩:=Zh.mp hd;exact PL z,SE S (x,y)⟩)
  have yes:∀{H3:Hp},aO H2 H3→Adj S p (dr p i)→TsI (upd H3 D (.lst (tr.map V.ref++[.ref oa]))) D (((List.range (i+1)).map (dr p)).filter fun q=>decide (Adj S p q)):=fun {H3} g h=>by
   rw[List.range_succ,Zt,List.filter_append,List.map_cons,List.map_nil,List.filter_cons,if_pos (decide_eq_true h),List.filter_nil];exact mD (g _ _ (k13 _ _ f1)) f2 (fun j s e=>let⟨r,e1,e2⟩:=f3 j s e;⟨r,e1,g _ _ (k13 _ _ e2)⟩) (g _ _ ho)
  have no:∀{H3:Hp},aO H2 H3→¬Adj S p (dr p i)→TsI H3 D (((List.range (i+1)).map (dr p)).filter fun q=>decide (Adj S p q)):=fun {H3} g h=>by
   rw[List.range_succ,Zt,List.filter_append,List.map_cons,List.map_nil,List.filter_cons,if_neg (by rw[decide_eq_true_iff];exact h),List.filter_nil,List.append_nil];exact⟨tr,g _ _ (k13 _ _ f1),f2,fun j s e=>let⟨r,e1,e2⟩:=f3 j s e;⟨r,e1,g _ _ (k13 _ _ e2)⟩⟩
  have sz:(tr.map V.ref).length<ZW:=by
   rw[Zq,f2];refine Xq (List.length_filter_le _ _) ?_;rw[Zq,Yj];exact Xz i4 (by decide)
  refine(cL _ rfl _ rfl (by show 2≤ZW;decide) (fun t1 ht1=>?_));have m1:=aH ht1 (.tup [.ref pa,.ref oa]);obtain⟨xs1,dx1,ds1,a1,a2,a3,a4,a5,a6⟩:=look t1 (aO.refl H2) hp2 ho ht1;refine⟨_,rfl,(aI sa xs1 dx1 ds1 rfl (bF a1 a2 a3 a4 a5 ⟨ _,rfl,?_⟩))⟩;show if (ds1.any fun d=>PyData.eqv d dx1)=true then _ else _
  rw[a6];refine cO (fun c=>?_) (fun c=>?_)
  ·have hA:Adj S p (dr p i):=.inl (of_decide_eq_true c);refine fR (bE _ rfl (.inl ⟨rfl,_,SqL.of (m1 _ _ (k13 _ _ f1))⟩) _ rfl (cQ D _ _ rfl rfl ⟨ m1 _ _ (k13 _ _ f1),sz,⟨_,_,rfl⟩,((g1.trans k13).trans m1).fresh hD _,yes m1 hA⟩))
  ·refine(cL _ rfl _ rfl (by show 2≤ZW;decide) (fun t2 ht2=>?_));have m2:=aH ht2 (.tup [.ref oa,.ref pa]);have m12:=m1.trans m2;obtain⟨xs2,dx2,ds2,c1,c2,c3,c4,c5,c6⟩:=look t2 m1 (m1 _ _ ho) (m1 _ _ hp2) ht2;refine⟨_,rfl,(aI sa xs2 dx2 ds2 rfl (bF c1 c2 c3 c4 c5 ⟨ _,rfl,?_⟩))⟩;show if (ds2.any fun d=>PyData.eqv d dx2)=true then _ else _
   rw[c6];refine cO (fun e=>?_) (fun e=>?_)
   ·have hA:Adj S p (dr p i):=.inr (of_decide_eq_true e);exact(bE _ rfl (.inl ⟨rfl,_,SqL.of (m12 _ _ (k13 _ _ f1))⟩) _ rfl (cQ D _ _ rfl rfl ⟨ m12 _ _ (k13 _ _ f1),sz,⟨_,_,rfl⟩,((g1.trans k13).trans m12).fresh hD _,yes m12 hA⟩))
   ·have hA:¬Adj S p (dr p i):=fun z=>z.elim (fun z=>c (decide_eq_true z)) fun z=>e (decide_eq_true z);exact⟨⟨_,_,rfl⟩,(g1.trans k13).trans m12,no m12 hA⟩
 ·rintro σ H1 ⟨⟨v3,v4,rfl⟩,g1,f⟩;exact⟨_,rfl,q D _ g1 hD f⟩
end K75
namespace L2
open PySem PySem.Spec PyProof.Rows GR
theorem BH{H:Hp}{D r:Addr}{S:Sts}{p:Pt×Pt}{xs:List V}(h:SsI H D S)(hD:H D=some (.lst xs))(hr:StA H r p):SsI (upd H D (.lst (xs++[.ref r]))) D (S++[p]):=by
 obtain⟨tr,h1,h2,h3⟩:=h;rw[hD]at h1;cases h1;have ne:∀{b:Addr}{l:List V},H b=some (.tup l)→b≠D:=fun hb z=>by rw[z,hD]at hb;cases hb
 have kp:∀{a:Addr}{s:Pt×Pt},StA H a s→StA (upd H D (.lst (tr.map V.ref++[.ref r]))) a s:=fun ⟨x,y,q1,q2,q3⟩=>⟨x,y,by rw[aP (ne q1)];exact q1,by rw[PtA,aP (ne q2)];exact q2,by rw[PtA,aP (ne q3)];exact q3⟩
 refine⟨tr++[r],by rw[Zt];exact aB,by simp[h2],fun i s e=>?_⟩;by_cases q:i<S.length
 ·rw[Zx q]at e;obtain⟨x,e1,e2⟩:=h3 i s e;exact⟨x,by rw[Zx (by lia)];exact e1,kp e2⟩
 ·have hi:=(Zj.mp e).1;simp at hi;have:i=S.length:=by lia
  subst this;rw[Zy (Nat.le_refl _),Nat.sub_self]at e;cases e;exact⟨r,by rw[Zy (by lia),h2,Nat.sub_self];rfl,kp hr⟩
theorem SsI.other{H:Hp}{a D:Addr}{S:Sts}{xs:List V}(h:SsI H a S)(hD:H D=some (.lst xs))(ne:a≠D)(u:HO):SsI (upd H D u) a S:=by
 obtain⟨tr,h1,h2,h3⟩:=h;have n2:∀{b:Addr}{l:List V},H b=some (.tup l)→b≠D:=fun hb z=>by rw[z,hD]at hb;cases hb
 exact⟨tr,by rw[aP ne];exact h1,h2,fun i s e=>let⟨r,q,x,y,q1,q2,q3⟩:=h3 i s e;⟨r,q,x,y,by rw[aP (n2 q1)];exact q1,by rw[PtA,aP (n2 q2)];exact q2,by rw[PtA,aP (n2 q3)];exact q3⟩⟩
theorem SsI.lst{H:Hp}{a:Addr}{S:Sts}(h:SsI H a S):∃xs:List V,H a=some (.lst xs)∧xs.length=S.length:=let⟨tr,h1,h2,_⟩:=h;⟨_,h1,by rw[Zq,h2]⟩
end L2
namespace GR
def Ins(a b:Nat)(p:Pt):Prop:=(0≤p.1∧p.1<a)∧0≤p.2∧p.2<b
def IB(a b:Nat)(s:Pt×Pt):Prop:=(s.2=dr s.1 0∨s.2=dr s.1 1)∧Ins a b s.1∧Ins a b s.2
end GR
namespace K75
open PySem L2 PyProof.Rows TX GR
def M0:Sp:=fun vs H Q _=>∃(za:Addr) (a b:Nat) (bits:Int),vs=[.ref za,.int bits]∧H za=some (.tup [vn a,vn b])∧0<a∧0<b∧a≤5∧b≤5∧(1<a∨1<b)∧∀(D:Addr) (S:Sts) (H':Hp),aO H H'→SsI H' D S→S≠[]→S.length≤60→(∀s∈S,IB a b s)→Q (.ref D) H'
theorem KA(T:Txt K mg t):cU P w K mg base CX0 1 t.zI t.yZ ["_law_size","_law_bits"] M0:=by
 refine T.yT.F.ok uZ (fun vs H Q E h=>?_) (fun cdv A outer s H vs Q E hr h=>?_)
 ·obtain⟨za,a,b,bits,rfl,_⟩:=h;rfl
 obtain⟨za,a,b,bits,rfl,hz,ha,hb,ha5,hb5,hab,q⟩:=h;have nd:=uZ.nd;refine⟨_,(aG (aZ 2 nd (bI aC))
  (aG (aZ 3 nd (bI aC))
  (aG (cR PassesOwn.never rfl (dC rfl T.eJ (aA (aQ bW (pv 0) aE (fun _ _=>rfl)) aC)) (aX (i:=4) nd rfl (Or.inl rfl)) (aL (cR PassesOwn.never rfl (dC rfl T.eJ (aA (aQ bW (pv 0) aE (fun _ _=>rfl)) aC)) (aX (i:=5) nd rfl (Or.inl rfl)) (aL (cR PassesOwn.never rfl (cD (bI (aA (cS (aA (aM bM (pv 5) aE) (aA (pv 4) aC))) (aA (cS (aA (pv 5) (aA (aM bM (pv 4) aE) aC))) aC)))) (aX (i:=6) nd rfl (Or.inl rfl)) (aL (cH (PW.pt (kS (aS p9 (aQ bW (pv 6) aE (fun _ _=>rfl)) (aQ bW (pv 0) aE (fun _ _=>rfl)) (bA _)) (iZ (aS p9 (aQ bW (pv 6) aE (fun _ _=>rfl)) (aQ bW (pv 0) aE (fun _ _=>rfl)) (bA _))))) (aG (bQ (dE mAp bR (pv 3) (aA (cS (aA (cS (aA (pv 5) (aA (pv 4) aC))) (aA (pv 6) aC))) aC)))
  (aG (cH (aS dO (aM cJ (pv 1) aE) aE (bA _)) (aL (bQ (dE mAp bR (pv 2) (aA (cS (aA (cS (aA (pv 5) (aA (pv 4) aC))) (aA (pv 6) aC))) aC)))) bG)
  (aL (aZ 1 nd (aM c8 (pv 1) aE))))) bG)))))))
  (aG (cH (aS (mG hr.units) (pv 2) (bI aC) (bA _)) (aL (a8 (bC cC (pv 3) bB (bH aE)))) bG)
  (aL (a8 (pv 2))))))),?_⟩
 refine⟨(by show 0≤ZW;decide),fun fa hfa=>?_⟩;have b1:=aH hfa (.lst []);refine⟨(by show 0≤ZW;decide),fun la hla=>?_⟩;have b2:=aH hla (.lst []);have nfl:fa≠la:=fun z=>by rw[z]at hla;rw[←z,aB]at hla;cases hla
 have hla0:H la=none:=b1.free hla
 let Inv:Nat→(Sts→Prop)→Hp→Prop:=fun n E H'=>aO H H'∧∃F L,SsI H' fa F∧SsI H' la L∧F.length≤n∧L.length≤n∧(∀s∈F,IB a b s)∧(∀s∈L,IB a b s)∧E L
 have zS:∀{H':Hp},aO H H'→SqT K H' za [vn a,vn b]:=fun g=>SqT.of (g _ _ hz);dsimp only[bT];refine t7 (fun σ' H'=>(∃v1 v4 v5 v6,σ'=[some (.ref za),some (.int v1),some (.ref fa),some (.ref la),v4,v5,v6])∧Inv 50 (fun L=>L≠[]) H') (fun N n1=>?_) ?_
 ·refine⟨_,rfl,(aI za _ 1 (vn b) rfl (aU rfl (zS (b1.trans b2)) rfl (b:Int) rfl ⟨ by lia,by lia,dD (lo:=0) (n:=((b:Int)-0).toNat) (fun i σ H'=>(∃v1 v4 v5 v6,σ=[some (.ref za),some (.int v1),some (.ref fa),some (.ref la),v4,v5,v6])∧Inv (10*i) (fun L=>1≤i→L≠[]) H') (aN ⟨_,_,_,_,rfl⟩ (b1.trans b2) ([]) ([]) ⟨[],b2 _ _ aB,rfl,fun i s e=>by simp at e⟩ (bF ⟨[],aB,rfl,fun i s e=>by simp at e⟩ (Nat.zero_le _) (Nat.zero_le _) (fun s hs=>by simp at hs) (fun s hs=>by simp at hs) (fun z=>by lia))) ?_ ?_⟩))⟩
  ·rintro i σ H1 hi ⟨⟨v1,v4,v5,v6,rfl⟩,g1,F,L,hF,hL,lF,lL,oF,oL,eL⟩;have hib:i<b:=by lia
   refine⟨_,rfl,(aI za _ 0 (vn a) rfl (aU rfl (zS g1) rfl (a:Int) rfl ⟨ by lia,by lia,dD (lo:=0) (n:=((a:Int)-0).toNat) (fun j σ H'=>(∃v1 v5 v6,σ=[some (.ref za),some (.int v1),some (.ref fa),some (.ref la),some (.int (0+(i:Int))),v5,v6])∧Inv (10*i+2*j) (fun L=>1≤i∨1≤j→L≠[]) H') (aN ⟨_,_,_,rfl⟩ g1 F L hF (bF hL (by lia) (by lia) oF oL (fun z=>eL (by lia)))) ?_ ?_⟩))⟩
   ·rintro j σ H2 hj ⟨⟨v1,v5,v6,rfl⟩,g2,F,L,hF,hL,lF,lL,oF,oL,eL⟩;have hja:j<a:=by lia
    refine(aJ _ rfl _ _ rfl ⟨ rfl,_,rfl,(by show 2≤ZW;decide),fun t1 ht1=>?_⟩);have k1:=aH ht1 (.tup [.int (dr ((j:Int),(i:Int)) 0).1,.int (dr ((j:Int),(i:Int)) 0).2]);have e1:HO.tup [V.int (0+(j:Int)+1),V.int (0+(i:Int))]=.tup [.int (dr ((j:Int),(i:Int)) 0).1,.int (dr ((j:Int),(i:Int)) 0).2]:=by
     show _=HO.tup [V.int ((j:Int)+1),V.int ((i:Int)+0)];rw[Int.zero_add,Int.zero_add,Int.add_zero]
    have e2:HO.tup [V.int (0+(j:Int)),V.int (0+(i:Int)+1)]=.tup [.int (dr ((j:Int),(i:Int)) 1).1,.int (dr ((j:Int),(i:Int)) 1).2]:=by
     show _=HO.tup [V.int ((j:Int)+0),V.int ((i:Int)+1)];rw[Int.zero_add,Int.zero_add,Int.add_zero]
    have e3:HO.tup [V.int (0+(j:Int)),V.int (0+(i:Int))]=.tup [.int (j:Int),.int (i:Int)]:=by rw[Int.zero_add,Int.zero_add]
    rw[e1];refine⟨_,rfl,(aJ _ rfl _ _ rfl ⟨ rfl,(by show 2≤ZW;decide),fun t2 ht2=>?_⟩)⟩;rw[e2];have k2:=aH ht2 (.tup [.int (dr ((j:Int),(i:Int)) 1).1,.int (dr ((j:Int),(i:Int)) 1).2]);refine⟨(by show 2≤ZW;decide),fun l hl=>?_⟩;have k3:=aH hl (.lst [.ref t1,.ref t2]);have k13:=k1.trans (k2.trans k3);have p1:=k3 _ _ (k2 _ _ (aB (H:=H2) (a:=t1) (o:=.tup [.int (dr ((j:Int),(i:Int)) 0).1,.int (dr ((j:Int),(i:Int)) 0).2])));have p2:=k3 _ _ (aB (H:=upd H2 t1 (.tup [.int (dr ((j:Int),(i:Int)) 0).1,.int (dr ((j:Int),(i:Int)) 0).2])) (a:=t2) (o:=.tup [.int (dr ((j:Int),(i:Int)) 1).1,.int (dr ((j:Int),(i:Int)) 1).2]));have p3:upd (upd (upd H2 t1 (.tup [.int (dr ((j:Int),(i:Int)) 0).1,.int (dr ((j:Int),(i:Int)) 0).2])) t2 (.tup [.int (dr ((j:Int),(i:Int)) 1).1,.int (dr ((j:Int),(i:Int)) 1).2])) l (.lst [.ref t1,.ref t2]) l=some (.lst [.ref t1,.ref t2]):=aB;have hF3:=hF.same k13;have hL3:=hL.same k13;obtain⟨fx,fx1,_⟩:=hF3.lst;obtain⟨lx,lx1,_⟩:=hL3.lst;have nlf:l≠fa:=fun z=>by
     obtain⟨ys,h1,_⟩:=(hF.same (k1.trans k2)).lst;rw[z,h1]at hl;cases hl
    have nll:l≠la:=fun z=>by
     obtain⟨ys,h1,_⟩:=(hL.same (k1.trans k2)).lst;rw[z,h1]at hl;cases hl
    have g3:=g2.trans k13;generalize upd (upd (upd H2 t1 (.tup [.int (dr ((j:Int),(i:Int)) 0).1,.int (dr ((j:Int),(i:Int)) 0).2])) t2 (.tup [.int (dr ((j:Int),(i:Int)) 1).1,.int (dr ((j:Int),(i:Int)) 1).2])) l (.lst [.ref t1,.ref t2])=H3 at p1 p2 p3 hF3 hL3 fx1 lx1 g3 k13 ⊢;clear k1 k2 k3 ht1 ht2 hl e1 e2 k13;refine⟨l,rfl,⟨_,SqL.of p3⟩,dR (xs:=[.ref t1,.ref t2]) (fun k σ H'=>(∃v1 v6,σ=[some (.ref za),some (.int v1),some (.ref fa),some (.ref la),some (.int (0+(i:Int))),some (.int (0+(j:Int))),v6])∧(H' l=some (.lst [.ref t1,.ref t2])∧PtA H' t1 (dr ((j:Int),(i:Int)) 0)∧PtA H' t2 (dr ((j:Int),(i:Int)) 1))∧Inv (10*i+2*j+k) (fun L=>(1≤i∨1≤j)∨(1≤k∧1<a)∨(2≤k∧1<b)→L≠[]) H') ⟨⟨_,_,rfl⟩,(aN ⟨p3,p1,p2⟩ g3 F L hF3 (bF hL3 (by lia) (by lia) oF oL (fun z=>eL (by lia))))⟩ (fun _ _ _ _ ⟨_,e,_⟩=>SqL.of e.1) ?_ ?_⟩
    ·rintro k x σ H4 hx ⟨⟨v1,v6,rfl⟩,⟨r1,r2,r3⟩,g4,F,L,hF,hL,lF,lL,oF,oL,eL⟩;have hk2:k<2:=by simpa using(Zj.mp hx).1
     obtain⟨o,ho,rfl⟩:∃o,PtA H4 o (dr ((j:Int),(i:Int)) k)∧x=.ref o:=by
      match k,hk2 with
      |0,_=>cases hx;exact⟨t1,r2,rfl⟩
      |1,_=>cases hx;exact⟨t2,r3,rfl⟩
     obtain⟨fx,fx1,fx2⟩:=hF.lst;obtain⟨lx,lx1,lx2⟩:=hL.lst;have bp:∀(c d:Prop),c=d→c→d:=fun c d h=>h▸id;refine⟨_,rfl,(aI o _ 0 _ rfl (aU rfl (SqT.of ho) rfl _ rfl (aI za _ 0 (vn a) rfl ⟨ rfl,(aN (zS g4) rfl _ _ rfl ⟨ rfl,_,rfl,cO (fun c1=>?_) (fun c1=>iU ?_)⟩)⟩)))⟩
     ·have c1:(dr ((j:Int),(i:Int)) k).1<(a:Int):=of_decide_eq_true c1;refine⟨_,rfl,(aI o _ 1 _ rfl (aU rfl (SqT.of ho) rfl _ rfl (aI za _ 1 (vn b) rfl ⟨ rfl,(aN (zS g4) rfl _ _ rfl ⟨ rfl,_,rfl,cO (fun c2=>?_) (fun c2=>?_)⟩)⟩)))⟩
      ·have c2:(dr ((j:Int),(i:Int)) k).2<(b:Int):=of_decide_eq_true c2;have okS:IB a b (((j:Int),(i:Int)),dr ((j:Int),(i:Int)) k):=by
        refine⟨?_,⟨⟨by show 0≤(j:Int);lia,by show(j:Int)<a;lia⟩,by show 0≤(i:Int);lia,by show(i:Int)<b;lia⟩,⟨?_,c1⟩,?_,c2⟩
        ·match k,hk2 with
         |0,_=>exact .inl rfl
         |1,_=>exact .inr rfl
        ·match k,hk2 with
         |0,_=>show 0≤(j:Int)+1;lia
         |1,_=>show 0≤(j:Int)+0;lia
        ·match k,hk2 with
         |0,_=>show 0≤(i:Int)+0;lia
         |1,_=>show 0≤(i:Int)+1;lia
       refine(bE _ rfl (.inl ⟨rfl,_,SqL.of lx1⟩) _ rfl ⟨ _,rfl,(by show 2≤ZW;decide),fun u1 hu1=>?_⟩);rw[e3];have m1:=aH hu1 (.tup [.int (j:Int),.int (i:Int)]);refine⟨_,rfl,(by show 2≤ZW;decide),fun u2 hu2=>?_⟩;have m2:=aH hu2 (.tup [.ref u1,.ref o]);have m12:=m1.trans m2;have hu1':=m2 _ _ (aB (H:=H4) (a:=u1) (o:=.tup [.int (j:Int),.int (i:Int)]));have st1:StA (upd (upd H4 u1 (.tup [.int (j:Int),.int (i:Int)])) u2 (.tup [.ref u1,.ref o])) u2 (((j:Int),(i:Int)),dr ((j:Int),(i:Int)) k):=⟨u1,o,aB,hu1',m12 _ _ ho⟩
       generalize upd (upd H4 u1 (.tup [.int (j:Int),.int (i:Int)])) u2 (.tup [.ref u1,.ref o])=H5 at m12 st1 ⊢;refine(cQ la _ _ rfl rfl ⟨ m12 _ _ lx1,by rw[lx2];exact Xq (by lia:L.length≤60) (by decide),?_⟩);have hL5:=BH (hL.same m12) (m12 _ _ lx1) st1;have hF5:=(hF.same m12).other (m12 _ _ lx1) nfl (.lst (lx++[.ref u2]));have kp:∀{c:Addr}{u:HO},c≠la→H5 c=some u→upd H5 la (.lst (lx++[.ref u2])) c=some u:=fun hc e=>by rw[aP hc];exact e
       have tn:∀{c:Addr}{xs:List V},H5 c=some (.tup xs)→c≠la:=fun e z=>by rw[z,m12 _ _ lx1]at e;cases e
       have g5:=(g4.trans m12).fresh hla0 (.lst (lx++[.ref u2]));have q1:=kp nll (m12 _ _ r1);have q2:=kp (tn (m12 _ _ r2)) (m12 _ _ r2);have q3:=kp (tn (m12 _ _ r3)) (m12 _ _ r3);have q4:=kp (tn (m12 _ _ ho)) (m12 _ _ ho);have fx5:=kp nfl (m12 _ _ fx1);generalize upd H5 la (.lst (lx++[.ref u2]))=H6 at hL5 hF5 g5 q1 q2 q3 q4 fx5 ⊢;have lL':(L++[(((j:Int),(i:Int)),dr ((j:Int),(i:Int)) k)]).length≤10*i+2*j+(k+1):=by simp;lia
       have oL':∀s∈L++[(((j:Int),(i:Int)),dr ((j:Int),(i:Int)) k)],IB a b s:=fun s hs=>by
        rcases Zf.mp hs with hs | hs
        ·exact oL s hs
        ·rw[Zb.mp hs];exact okS
       dsimp only;refine t7 (fun σ' H'=>(∃v1,σ'=[some (.ref za),some (.int v1),some (.ref fa),some (.ref la),some (.int (0+(i:Int))),some (.int (0+(j:Int))),some (.ref o)])∧(H' l=some (.lst [.ref t1,.ref t2])∧PtA H' t1 (dr ((j:Int),(i:Int)) 0)∧PtA H' t2 (dr ((j:Int),(i:Int)) 1))∧Inv (10*i+2*j+(k+1)) (fun L=>(1≤i∨1≤j)∨(1≤k+1∧1<a)∨(2≤k+1∧1<b)→L≠[]) H') (fun N n2=>?_) ?_
       ·refine(aJ _ rfl _ _ rfl (aU rfl (by show(0:Int)<2;decide) rfl _ rfl (cO (fun _=>?_) (fun _=>?_))))
        ·refine(bE _ rfl (.inl ⟨rfl,_,SqL.of fx5⟩) _ rfl ⟨ _,rfl,(by show 2≤ZW;decide),fun w1 hw1=>?_⟩);rw[e3];have s1:=aH hw1 (.tup [.int (j:Int),.int (i:Int)]);refine⟨_,rfl,(by show 2≤ZW;decide),fun w2 hw2=>?_⟩;have s2:=aH hw2 (.tup [.ref w1,.ref o]);have s12:=s1.trans s2;have hw1':=s2 _ _ (aB (H:=H6) (a:=w1) (o:=.tup [.int (j:Int),.int (i:Int)]));have st2:StA (upd (upd H6 w1 (.tup [.int (j:Int),.int (i:Int)])) w2 (.tup [.ref w1,.ref o])) w2 (((j:Int),(i:Int)),dr ((j:Int),(i:Int)) k):=⟨w1,o,aB,hw1',s12 _ _ q4⟩
         generalize upd (upd H6 w1 (.tup [.int (j:Int),.int (i:Int)])) w2 (.tup [.ref w1,.ref o])=H7 at s12 st2 ⊢;have tn2:∀{c:Addr}{xs:List V},H7 c=some (.tup xs)→c≠fa:=fun e z=>by rw[z,s12 _ _ fx5]at e;cases e
         obtain⟨ly,ly1,_⟩:=hL5.lst;refine(cQ fa _ _ rfl rfl ⟨ s12 _ _ fx5,by rw[fx2];exact Xq (by lia:F.length≤60) (by decide),n2 _ _ ⟨⟨_,rfl⟩,(aN ⟨by rw[aP nlf];exact s12 _ _ q1,by rw[PtA,aP (tn2 (s12 _ _ q2))];exact s12 _ _ q2,by rw[PtA,aP (tn2 (s12 _ _ q3))];exact s12 _ _ q3⟩ ((g5.trans s12).fresh hfa _) (F++[_]) _ (BH (hF5.same s12) (s12 _ _ fx5) st2) (bF ((hL5.same s12).other (s12 _ _ fx5) nfl.symm _) (by simp;lia) lL' (fun s hs=>?_) oL' (fun _=>by simp)))⟩⟩);rcases Zf.mp hs with hs | hs
         ·exact oF s hs
         ·rw[Zb.mp hs];exact okS
        ·exact n2 _ _ ⟨⟨_,rfl⟩,(aN ⟨q1,q2,q3⟩ g5 F _ hF5 (bF hL5 (by lia) lL' oF oL' (fun _=>by simp)))⟩
       ·rintro σ' H' ⟨⟨v1,rfl⟩,r',hI⟩;exact(aJ _ rfl _ _ rfl ⟨ rfl,⟨by decide,by decide⟩,⟨_,_,rfl⟩,r',hI⟩)
      ·have c2:¬(dr ((j:Int),(i:Int)) k).2<(b:Int):=fun z=>c2 (decide_eq_true z);refine⟨⟨_,_,rfl⟩,(aN ⟨r1,r2,r3⟩ g4 F L hF (bF hL (by lia) (by lia) oF oL (fun z=>eL ?_)))⟩
       match k,hk2 with
       |0,_ =>
        have:¬((i:Int)+0<b):=c2;omega
       |1,_ =>
        have:¬((i:Int)+1<b):=c2
        lia
     ·have c1:¬(dr ((j:Int),(i:Int)) k).1<(a:Int):=fun z=>c1 (decide_eq_true z);refine⟨⟨_,_,rfl⟩,(aN ⟨r1,r2,r3⟩ g4 F L hF (bF hL (by lia) (by lia) oF oL (fun z=>eL ?_)))⟩
      match k,hk2 with
      |0,_ =>
       have:¬((j:Int)+1<a):=c1
       lia
      |1,_ =>
       have:¬((j:Int)+0<a):=c1;omega
    ·rintro σ H4 ⟨⟨v1,v6,rfl⟩,_,g4,F,L,hF,hL,lF,lL,oF,oL,eL⟩;exact(aN ⟨_,_,_,rfl⟩ g4 F L hF (bF hL (by simp at lF;lia) (by simp at lL;lia) oF oL (fun z=>eL (by simp;lia))))
   ·rintro σ H2 ⟨⟨v1,v5,v6,rfl⟩,g2,F,L,hF,hL,lF,lL,oF,oL,eL⟩;exact(aN ⟨_,_,_,_,rfl⟩ g2 F L hF (bF hL (by lia) (by lia) oF oL (fun z=>eL (by lia))))
  ·rintro σ H1 ⟨⟨v1,v4,v5,v6,rfl⟩,g1,F,L,hF,hL,lF,lL,oF,oL,eL⟩;exact n1 _ _ (aN ⟨_,_,_,_,rfl⟩ g1 F L hF (bF hL (by lia) (by lia) oF oL (eL (by lia))))
 rintro σ' H1 ⟨⟨v1,v4,v5,v6,rfl⟩,g1,F,L,hF,hL,lF,lL,oF,oL,eL⟩;have nilq:PyData.eqv (.list (F.map dS)) (.list [])=decide (F=[]):=by
  cases F with
  |nil=>rfl
  |cons x F=>rfl
 have shp:SeqAt.shaped (.list (F.map dS))=true:=by
  have this:PyData.canLayAll0 (F.map dS)=true∧PyData.depthAll (F.map dS)≤4:=jB 4 fun d hd=>by
   obtain⟨n,_,rfl⟩:=Zh.mp hd;exact⟨rfl,by simp[dS,dP,PyData.depth,PyData.depthAll]⟩
  unfold SeqAt.shaped;rw[Xy];refine⟨this.1,decide_eq_true ?_⟩;show PyData.depthAll (F.map dS)+1≤64;have:=this.2
  lia
 obtain⟨fr,f1,f2,f3⟩:=hF;refine⟨_,rfl,(by show 0≤ZW;decide),fun ea hea=>?_⟩;have k1:=aH hea (.lst []);refine(a9 (.list (F.map dS)) (.list []) (.lst (SqL.of (k1 _ _ f1)) (SsI.bds f2 fun i s e=>let⟨r,e1,e2⟩:=f3 i s e;⟨r,e1,e2.same k1⟩)) (.lst (SqL.of aB) .nil) shp ⟨ rfl,_,rfl,?_⟩);rw[nilq,Bool.xor_false];refine cO (fun c=>?_) (fun c=>?_)
 ·obtain⟨lr,l1,l2,l3⟩:=hL.same k1;refine⟨_,rfl,(aJ _ rfl la _ rfl ⟨ SqL.of l1,fun D hD=>?_⟩)⟩;have k2:=aH hD (.lst (fF (lr.map V.ref) none (some 1)));refine q D (L.take 1) _ (g1.trans (k1.trans k2)) ⟨lr.take 1,?_,by rw[Yx,Yx,l2],fun i s e=>?_⟩ ?_ ?_ ?_
  ·rw[show(some (1:Int))=some ((1:Nat):Int) from rfl,kW,←List.map_take];exact aB
  ·have hi:i<1:=by have:=(Zj.mp e).1;rw[Yx]at this;lia
   rw[List.getElem?_take_of_lt hi]at e;obtain⟨r,e1,e2⟩:=l3 i s e;exact⟨r,by rw[List.getElem?_take_of_lt hi];exact e1,e2.same k2⟩
  ·intro z;cases L with
   |nil=>exact eL rfl
   |cons x L=>cases z
  ·rw[Yx];lia
  ·exact fun s hs=>oL s (List.mem_of_mem_take hs)
 ·exact⟨_,rfl,q fa F _ (g1.trans k1) (SsI.same ⟨fr,f1,f2,f3⟩ k1) (fun z=>c (decide_eq_true z)) (by lia) oF⟩
def TC:Sp:=fun vs H Q _=>∃(sa fa:Addr) (S:Sts) (p q:Pt),vs=[.ref sa,.ref fa]∧SsI H sa S∧StA H fa (p,q)∧(p,q)∈S∧S.length≤60∧∀(D:Addr) (S':Sts) (H':Hp),aO H H'→SsI H' D S'→(∀s∈S',s∈S)→(p,q)∈S'→Whl S'→S'.length≤60→Q (.ref D) H'
theorem RG(T:Txt K mg t):cU P w K mg base CX0 1 t.qZ t.qR ["_law_steps_here","_law_first"] TC:=by
 refine T.qM.F.ok oV (fun vs H Q E h=>?_) (fun cdv A outer s H vs Q E hr h=>?_)
 ·obtain⟨sa,fa,S,p,q,rfl,_⟩:=h;rfl
 obtain⟨sa,fa,S,p,q,rfl,hS,⟨xa,ya,f1,f2,f3⟩,hpq,l60,qq⟩:=h;have nd:=oV.nd;have hu64:=hr.units;have nd_l_step_l_there:(["_law_step","_law_there"]:List Str).Nodup:=by decide
 refine⟨_,(aG (aZ 2 nd (b9 A7 rfl T.P9 boot_list (aA (pv 1) aC)))
  (aG (cR PassesOwn.never rfl (dC rfl T.eJ (aA (aW aV rfl T.cP PySem.boot_len (aA (pv 0) aC)) aC)) (aX (i:=3) nd rfl (Or.inl rfl)) (aL (cR PassesOwn.never rfl (cD (pv 0)) (mE rfl (b8 (aX (i:=4) nd rfl (Or.inl rfl)) (b8 (aX (i:=5) nd rfl (Or.inl rfl)) e7))) (aG (cH (PW.pt (kS (aS (rZ hr.units) (pv 4) (pv 2) rfl) (iZ (aS (rY hr.units) (pv 5) (pv 2) rfl)))) (aL (bQ (dE mAp bR (pv 2) (aA (pv 5) aC)))) bG)
  (aL (cH (PW.pt (kS (aS (rZ hr.units) (pv 5) (pv 2) rfl) (iZ (aS (rY hr.units) (pv 4) (pv 2) rfl)))) (aL (bQ (dE mAp bR (pv 2) (aA (pv 4) aC)))) bG))))))
  (aL (a8 (eN (N':=["_law_step","_law_there"]) (js:=[none,some 2]) rfl (cD (pv 0)) (fun _ _ _ _ _=>(aX (i:=0) nd_l_step_l_there rfl (Or.inl rfl))) (fun _ _ _ _ _=>(rW (aS (OI (K:=K) rfl hu64) (aQ (OJ (K:=K) rfl) (pv 0) aE (fun _ _=>rfl)) (pv 1) rfl))) (fun _ _ _ _ _=>(pv 0))))))),?_⟩
 refine(aJ _ rfl fa _ rfl ⟨ .inr (SqT.of f1),fun D hD=>?_⟩);have b1:=aH hD (.lst [.ref xa,.ref ya]);obtain⟨sr,s1,s2,s3⟩:=hS;have sl:((sr.map V.ref).length:Int)=(S.length:Int):=by rw[Zq,s2]
 have inT:∀{H':Hp}{C:List Pt}{x:Addr}{a:Pt},TsI H' D C→PtA H' x a→∃xs dx ds,SqL K H' D xs∧Bd K H' (.ref x) dx∧Bds K H' xs ds∧smD dx∧(∀d∈ds,smD d)∧(ds.any fun d=>PyData.eqv d dx)=decide (a∈C):=fun {H' C x a} ⟨tr,t1,t2,t3⟩ hx =>
  (cQ _ (dP a) (C.map dP) (SqL.of t1) (tT hx) ⟨ TsI.bds t2 t3,sX _,fun d hd=>by obtain⟨z,_,rfl⟩:=Zh.mp hd;exact sX z,MH C a⟩)
 refine(aJ _ rfl sa _ rfl (uQ (.inl (SqL.of (b1 _ _ s1))) (S.length:Int) (by rw[sl]) (by lia) (by lia) ?_))
 let Pv1:Nat→L2.St→L2.Hp→Prop:=fun n σ H'=>(∃v3 v4 v5,σ=[some (.ref sa),some (.ref fa),some (.ref D),v3,v4,v5])∧aO H H'∧∃C,TsI H' D C∧C.length≤2+120*n∧Tu S p q n C
 refine dD (lo:=0) (n:=((S.length:Int)-0).toNat) Pv1 (fT ⟨_,_,_,rfl⟩ b1 ([p,q]) ⟨[xa,ya],aB,rfl,fun i z e=>?_⟩ (Nat.le_refl _) ⟨ .start hpq,.inr (Nat.le_refl _)⟩) ?_ ?_
 ·match i with
  |0=>cases e;exact⟨xa,rfl,b1 _ _ f2⟩
  |1=>cases e;exact⟨ya,rfl,b1 _ _ f3⟩
  |i+2=>simp at e
 ·rintro n σ H1 hn ⟨⟨v3,v4,v5,rfl⟩,g1,C0,hC0,lC0,hU⟩
  let Pv2:Nat→L2.St→L2.Hp→Prop:=fun i σ H'=>(∃v4 v5,σ=[some (.ref sa),some (.ref fa),some (.ref D),some (.int (0+(n:Int))),v4,v5])∧aO H H'∧∃C,TsI H' D C∧C.length≤2+120*n+2*i∧Tn S p q C0 i C
  refine(cL _ rfl sa rfl ⟨_,SqL.of (g1 _ _ s1)⟩ (dR (xs:=sr.map V.ref) Pv2 (fT ⟨_,_,rfl⟩ g1 C0 hC0 (by lia) (.start hU.th)) (fun _ _ _ _ ⟨_,g,_⟩=>SqL.of (g _ _ s1)) ?_ ?_))
  ·rintro i x σ H2 hx ⟨⟨v4,v5,rfl⟩,g2,C,hC,lC,hT⟩;obtain⟨st,ra,e1,rfl,⟨xa',ya',e2,e3,e4⟩⟩:=SsI.nth s2 s3 hx;have hi:i<S.length:=(Zj.mp e1).1;have e3':=g2 _ _ e3;have e4':=g2 _ _ e4;have szC:∀{xs:List V}{C:List Pt}{H':Hp},TsI H' D C→H' D=some (.lst xs)→C.length≤9000→xs.length<ZW:=fun {xs C H'} ⟨tr,t1,t2,_⟩ h hl=>by
    rw[t1]at h;cases h;rw[Zq,t2];exact Xq hl (by decide)
   refine(a9 ra _ rfl (SqT.of (g2 _ _ e2)) rfl ⟨ _,(aJ _ rfl _ _ rfl ⟨ rfl,?_⟩)⟩);refine t7 (fun σ' H'=>σ'=[some (.ref sa),some (.ref fa),some (.ref D),some (.int (0+(n:Int))),some (.ref xa'),some (.ref ya')]∧aO H H'∧PtA H' xa' st.1∧PtA H' ya' st.2∧∃C',TsI H' D C'∧C'.length≤C.length+1∧((C'=C∧¬(st.1∈C∧st.2∉C))∨(C'=C++[st.2]∧st.1∈C∧st.2∉C))) (fun N n1=>?_) ?_
   ·obtain⟨xs,dx,ds,a1,a2,a3,a4,a5,a6⟩:=inT hC e3';refine⟨_,rfl,_,rfl,(aI D xs dx ds rfl (bF a1 a2 a3 a4 a5 ⟨ _,rfl,?_⟩))⟩;show if (ds.any fun d=>PyData.eqv d dx)=true then _ else _
    rw[a6];refine cO (fun c1=>?_) (fun c1=>iU ?_)
    ·obtain⟨xs,dx,ds,a1,a2,a3,a4,a5,a6⟩:=inT hC e4';refine⟨_,rfl,_,rfl,(aI D xs dx ds rfl (bF a1 a2 a3 a4 a5 ⟨ _,rfl,?_⟩))⟩;show if (!(ds.any fun d=>PyData.eqv d dx))=true then _ else _
     rw[a6];refine cO (fun c2=>?_) (fun c2=>?_)
     ·have h1:=of_decide_eq_true c1;have h2:st.2∉C:=fun z=>by rw[decide_eq_true z]at c2;cases c2
      obtain⟨tr,t1,t2,t3⟩:=id hC;have tn:∀{c:Addr}{xs:List V},H2 c=some (.tup xs)→c≠D:=fun e z=>by rw[z,t1]at e;cases e
      exact(bE _ rfl (.inl ⟨rfl,_,SqL.of t1⟩) _ rfl (cQ D _ _ rfl rfl ⟨ t1,szC hC t1 (by lia),n1 _ _ ⟨rfl,(aU (g2.fresh hD _) (by rw[PtA,aP (tn e3')];exact e3') (by rw[PtA,aP (tn e4')];exact e4') _ (mD t1 t2 t3 e4') ⟨ by simp,.inr ⟨rfl,h1,h2⟩⟩)⟩⟩))
     ·have h2:st.2∈C:=by
       cases hd:decide (st.2∈C) with
       |true=>exact of_decide_eq_true hd
       |false=>rw[hd]at c2;exact absurd rfl c2
      exact n1 _ _ ⟨rfl,(aU g2 e3' e4' C hC ⟨ Nat.le_succ _,.inl ⟨rfl,fun z=>z.2 h2⟩⟩)⟩
    ·exact n1 _ _ ⟨rfl,(aU g2 e3' e4' C hC ⟨ Nat.le_succ _,.inl ⟨rfl,fun z=>c1 (decide_eq_true z.1)⟩⟩)⟩
   rintro σ' H3 ⟨rfl,g3,e5,e6,C',hC',lC',hh⟩;have fin:∀{C'':List Pt},(C''=C'∧¬(st.2∈C'∧st.1∉C'))∨(C''=C'++[st.1]∧st.2∈C'∧st.1∉C')→Tn S p q C0 (i+1) C'':=fun {C''} h=>by
    refine hT.next e1 ?_;rcases hh with⟨rfl,n1⟩ | ⟨rfl,m1,m2⟩
    ·rcases h with⟨rfl,n2⟩ | ⟨rfl,m3,m4⟩
     ·exact .inl ⟨rfl,fun z=>ZS fun y=>n1 ⟨z,y⟩,fun z=>ZS fun y=>n2 ⟨z,y⟩⟩
     ·exact .inr (.inr ⟨rfl,m3,m4⟩)
    ·rcases h with⟨rfl,_⟩ | ⟨_,_,m4⟩
     ·exact .inr (.inl ⟨rfl,m1,m2⟩)
     ·exact absurd (List.mem_append_left _ m1) m4
   obtain⟨xs,dx,ds,a1,a2,a3,a4,a5,a6⟩:=inT hC' e6;refine⟨_,rfl,_,rfl,(aI D xs dx ds rfl (bF a1 a2 a3 a4 a5 ⟨ _,rfl,?_⟩))⟩;show if (ds.any fun d=>PyData.eqv d dx)=true then _ else _
   rw[a6];refine cO (fun c1=>?_) (fun c1=>iU ?_)
   ·obtain⟨xs,dx,ds,a1,a2,a3,a4,a5,a6⟩:=inT hC' e5;refine⟨_,rfl,_,rfl,(aI D xs dx ds rfl (bF a1 a2 a3 a4 a5 ⟨ _,rfl,?_⟩))⟩;show if (!(ds.any fun d=>PyData.eqv d dx))=true then _ else _
    rw[a6];refine cO (fun c2=>?_) (fun c2=>?_)
    ·have h1:=of_decide_eq_true c1;have h2:st.1∉C':=fun z=>by rw[decide_eq_true z]at c2;cases c2
     obtain⟨tr,t1,t2,t3⟩:=id hC';exact(bE _ rfl (.inl ⟨rfl,_,SqL.of t1⟩) _ rfl (cQ D _ _ rfl rfl ⟨ t1,(aU (szC hC' t1 (by lia)) ⟨_,_,rfl⟩ (g3.fresh hD _) _ (mD t1 t2 t3 e5) ⟨ by simp;lia,fin (.inr ⟨rfl,h1,h2⟩)⟩)⟩))
    ·have h2:st.1∈C':=by
      cases hd:decide (st.1∈C') with
      |true=>exact of_decide_eq_true hd
      |false=>rw[hd]at c2;exact absurd rfl c2
     exact(fT ⟨_,_,rfl⟩ g3 C' hC' (by lia) (fin (.inl ⟨rfl,fun z=>z.2 h2⟩)))
   ·exact(fT ⟨_,_,rfl⟩ g3 C' hC' (by lia) (fin (.inl ⟨rfl,fun z=>c1 (decide_eq_true z.1)⟩)))
  ·rintro σ H2 ⟨⟨v4,v5,rfl⟩,g2,C,hC,lC,hT⟩;rw[Zq,s2]at lC hT;exact(fT ⟨_,_,_,rfl⟩ g2 C hC (by lia) (hU.next hT))
 ·rintro σ H1 ⟨⟨v3,v4,v5,rfl⟩,g1,C,hC,lC,hU⟩;rw[show((S.length:Int)-0).toNat=S.length by lia]at hU
  let pr:Nat→Bool:=fun i=>((S[i]?).map fun s=>decide (s.1∈C)).getD false
  refine(cL _ rfl sa rfl ⟨_,SqL.of (g1 _ _ s1)⟩ (fun R hR=>?_));refine qT S.length (fun i=>.ref (sr.getD i 0)) pr hR (by lia) (fun i H2 hi g=>⟨_,.ref (sr[i]'(by lia)),SqL.of (g _ _ (g1 _ _ s1)),by rw[Zk,Zz (by lia)];rfl⟩) (fun H2 g=>⟨_,SqL.of (g _ _ (g1 _ _ s1)),by rw[Zq,s2];exact Nat.le_refl _⟩) ?_ ?_
  ·rintro i H2 x H3 kt kf hi g ⟨rfl,hx⟩ ht hf;have hx:=hx _ (SqL.of (g _ _ (g1 _ _ s1)));obtain⟨st,ra,e1,rfl,⟨xa',ya',e2,e3,e4⟩⟩:=SsI.nth s2 s3 hx;have gg:=g1.trans g;obtain⟨xs,dx,ds,a1,a2,a3,a4,a5,a6⟩:=inT (hC.same g) (gg _ _ e3);have er:V.ref ra=.ref (sr.getD i 0):=by
    rw[Zk]at hx;cases hs:sr[i]? with
    |none=>rw[hs]at hx;cases hx
    |some r=>rw[hs]at hx;cases hx;rw[Zv,hs];rfl
   have ep:pr i=decide (st.1∈C):=by show((S[i]?).map _).getD false=_;rw[e1];rfl
   refine⟨(Fills.refl _).set _ rfl,_,rfl,(aI ra _ 0 (.ref xa') rfl (aU rfl (SqT.of (gg _ _ e2)) rfl _ rfl (aI D xs dx ds rfl (bF a1 a2 a3 a4 a5 ⟨ _,rfl,?_⟩))))⟩;show if (ds.any fun d=>PyData.eqv d dx)=true then _ else _
   rw[a6];refine cO (fun c=>⟨_,rfl,?_⟩) (fun c=>?_)
   ·rw[er];exact ht (by rw[ep];exact c) _ (aO.refl _)
   ·exact hf (by rw[ep];simpa using c) _ (aO.refl _)
  intro H2 g2 eR;have mem:∀s,s∈(((List.range S.length).filter pr).filterMap (S[·]?))↔s∈S∧s.1∈C:=fun s=>by
   rw[List.mem_filterMap];constructor
   ·rintro⟨i,hi,e⟩;have:=(Yz.mp hi).2;have hp:((S[i]?).map fun s=>decide (s.1∈C)).getD false=true:=this;rw[e]at hp;exact⟨Zg e,of_decide_eq_true hp⟩
   ·rintro⟨h1,h2⟩;obtain⟨i,hi,rfl⟩:=Yg.mp h1;refine⟨i,Yz.mpr ⟨Zs.mpr hi,?_⟩,Zz hi⟩;show((S[i]?).map fun s=>decide (s.1∈C)).getD false=true;rw[Zz hi];exact decide_eq_true h2
  have g02:=g1.trans g2;have lt:∀i∈(List.range S.length).filter pr,i<S.length:=fun i hi=>Zs.mp (Yz.mp hi).1;have key:∀l:List Nat,(∀i∈l,i<S.length)→(l.map fun i=>sr.getD i 0).length=(l.filterMap (S[·]?)).length∧∀(j:Nat) s,(l.filterMap (S[·]?))[j]?=some s→∃r,(l.map fun i=>sr.getD i 0)[j]?=some r∧StA H2 r s:=by
   intro l;induction l with
   |nil=>intro _;exact⟨rfl,fun j s e=>by simp at e⟩
   |cons i l ih =>
    intro h;obtain⟨i1,i2⟩:=ih fun x hx=>h x (Zw _ hx);have hi:=h i Zd;rw[List.filterMap_cons,Zz hi];refine⟨by rw[Zq]at i1 ⊢;simp[i1],fun j s e=>?_⟩;cases j with
    |zero =>
     simp at e;obtain⟨r,r1,r2⟩:=s3 i s (by rw[Zz hi,e]);exact⟨r,by simp[Zv,r1],r2.same g02⟩
    |succ j=>simpa using i2 j s (by simpa using e)
  obtain⟨k1,k2⟩:=key _ lt;refine qq R (((List.range S.length).filter pr).filterMap (S[·]?)) _ g02 ⟨((List.range S.length).filter pr).map fun i=>sr.getD i 0,?_,k1,k2⟩ (fun s hs=>((mem s).mp hs).1) ((mem _).mpr ⟨hpq,hU.th.pm⟩) (hU.whl mem) ?_
  ·rw[eR,Yb];rfl
  ·rw[←k1,Zq];refine YQ (List.length_filter_le _ _) ?_;rw[Yj];exact l60
end K75
namespace L2
open PySem PySem.Spec PyProof.Rows GR
theorem xE{xs:List V}{k:Nat}{v:V}(h0:0<k)(hk:k≤xs.length)(h:xs[xs.length-k]?=some v):atI xs (-(k:Int))=some v:=by
 have e:ixN xs.length (-(k:Int))=some (xs.length-k):=by
  unfold ixN;rw[if_neg (by lia),if_pos (by lia)];congr 1
  lia
 unfold atI;rw[e];exact h
theorem OH{X:Cx}{K:PySem.W.Frag}(hK:X.K=K)(hu:X.A.units+64<cLine):OpR X (compareOp .NotEq) (Q7 K true):=by subst hK;exact RB hu
theorem J4{l:List Nat}{i:Nat}(nd:l.Nodup)(h:∀j,j∈l↔j=i):l=[i]:=by
 match l with
 |[]=>exact absurd ((h i).mpr rfl) (by simp)
 |[a]=>rw[(h a).mp (by simp)]
 |a::b::l =>
  have h1:=(h a).mp (by simp);have h2:=(h b).mp (by simp);subst h1;subst h2;simp at nd
theorem PM(p:Pt):SeqAt.shaped (dP p)=true:=by
 unfold SeqAt.shaped;rw[(sX p).1,Bool.true_and];exact decide_eq_true (YQ (sX p).2 (by decide))
theorem TsI.at{H:Hp}{a:Addr}{ps:List Pt}(h:TsI H a ps):∃tr:List Addr,H a=some (.lst (tr.map V.ref))∧tr.length=ps.length∧∀(i:Nat) p,ps[i]?=some p→∃r,(tr.map V.ref)[i]?=some (.ref r)∧PtA H r p:=by
 obtain⟨tr,h1,h2,h3⟩:=h;exact⟨tr,h1,h2,fun i p e=>let⟨r,q1,q2⟩:=h3 i p e;⟨r,by rw[Zk,q1];rfl,q2⟩⟩
end L2
namespace K75
open PySem L2 PyProof.Rows TX GR
def QX:Sp:=fun vs H Q _=>∃(sa pl oa ob:Addr) (S:Sts) (Pl Ps:List Pt) (p o:Pt),vs=[.ref sa,.ref pl,.ref oa,.ref ob]∧SsI H sa S∧TsI H pl Pl∧PtA H oa p∧PtA H ob o∧Pls S Pl∧p∈Pl∧Adj S p o∧(∀a b,Adj S a b→a∈Ps)∧Ps.length≤30∧∀(D:Addr) (r:List Pt) (H':Hp),aO H H'→H D=none→TsI H' D r→En S Pl r→r[0]?=some p→r[1]?=some o→r.length≤32→Q (.ref D) H'
theorem N9(T:Txt K mg t):cU P w K mg base CX0 2 t.DM t.CZ ["_law_steps_here","_law_places_here","_law_one","_law_other"] QX:=by
 refine T.CN.F.ok yF (fun vs H Q E h=>?_) (fun cdv A outer s H vs Q E hr h=>?_)
 ·obtain⟨sa,pl,oa,ob,S,Pl,Ps,p,o,rfl,_⟩:=h;rfl
 obtain⟨sa,pl,oa,ob,S,Pl,Ps,p,o,rfl,hS,hPl,hoa,hob,hP,hpp,hpo,hPs,l30,q⟩:=h;have nd:=yF.nd;have nd_l_there_l_row:(["_law_there","_law_row"]:List Str).Nodup:=by decide
 refine⟨_,(aG (aZ 4 nd (bI (aA (pv 2) (aA (pv 3) aC))))
  (aG (JQ PassesOwn.never (aS (rY hr.units) (aQ aT (pv 4) (iH e8 aE) (fun _ _=>rfl)) (pv 1) rfl) (aL (bQ (dE mAp bR (pv 4) (aA (aQ aT (eN (N':=["_law_there","_law_row"]) (js:=[none,some 4]) rfl (cD (bP (oG T) hr T.iP bK (aA (pv 0) (aA (aQ aT (pv 4) (iH e8 aE) (fun _ _=>rfl)) aC)))) (fun _ _ _ _ _=>(aX (i:=0) nd_l_there_l_row rfl (Or.inl rfl))) (fun _ _ _ _ _=>(rW (aS (OH (K:=K) rfl hr.units) (pv 0) (aQ (eP (K:=K) rfl) (pv 1) (iH e8 aE) (fun _ _=>rfl)) (bA _)))) (fun _ _ _ _ _=>(pv 0))) aE (fun _ _=>rfl)) aC)))))
  (aL (a8 (pv 4))))),?_⟩
 refine(cL _ rfl _ rfl (by show 2≤ZW;decide) (fun D hD=>?_));have b1:=aH hD (.lst [.ref oa,.ref ob]);obtain⟨pr,p1,p2,p3⟩:=id hPl;refine⟨fun m σ H'=>σ=[some (.ref sa),some (.ref pl),some (.ref oa),some (.ref ob),some (.ref D)]∧aO H H'∧∃r,TsI H' D r∧Tr S Pl r∧r[0]?=some p∧r[1]?=some o∧m+r.length=40∧r.length≤32,(bE 38 rfl b1 ([p,o]) ⟨[oa,ob],aB,rfl,fun i z e=>?_⟩ ⟨ .start hpp hpo,rfl,rfl,rfl,(show 2≤32 by decide)⟩),?_⟩
 ·match i with
  |0=>cases e;exact⟨oa,rfl,b1 _ _ hoa⟩
  |1=>cases e;exact⟨ob,rfl,b1 _ _ hob⟩
  |i+2=>simp at e
 rintro m σ H1 ⟨rfl,g1,r,hr',ht,r0,r1,hm,l32⟩;have len:=ht.len;obtain⟨tr,t1,t2,t3⟩:=hr'.at;have ga:=GR.aK (l:=r) (i:=r.length-2) (by lia);have gb:=GR.aK (l:=r) (i:=r.length-1) (by lia);obtain⟨aa,ea1,ea2⟩:=t3 _ _ ga;obtain⟨ba,eb1,eb2⟩:=t3 _ _ gb;have lm:(tr.map V.ref).length=r.length:=by rw[Zq,t2]
 have atb:atI (tr.map V.ref) (-1)=some (.ref ba):=xE (k:=1) (by decide) (by lia) (by rw[lm];exact eb1);have ata:atI (tr.map V.ref) (-2)=some (.ref aa):=xE (k:=2) (by decide) (by lia) (by rw[lm];exact ea1);refine⟨_,rfl,_,rfl,(aI D _ _ _ rfl (aU rfl (SqL.of t1) atb _ rfl (aI pl _ (dP _) (Pl.map dP) rfl (bF (SqL.of (g1 _ _ p1)) (tT eb2) (TsI.bds p2 (fun i z e=>let⟨x,e1,e2⟩:=p3 i z e;⟨x,e1,g1 _ _ e2⟩)) (sX _) (fun d hd=>by obtain⟨z,_,rfl⟩:=Zh.mp hd;exact sX z) ⟨ _,rfl,?_⟩))))⟩;show if (!((Pl.map dP).any fun d=>PyData.eqv d (dP r[r.length-1])))=true then _ else _
 rw[MH];refine cO (fun c=>?_) (fun c=>?_)
 ·have hb:r[r.length-1]∉Pl:=fun z=>by rw[decide_eq_true z]at c;cases c
  obtain⟨c,hc,hbc,hca⟩:=KN hP ht ga gb hb;have short:=ht.short hP (fun a e=>by rw[List.getLast?_eq_getElem?,gb]at e;cases e;exact hb) hPs;refine⟨fun σ' H'=>σ'=[some (.ref sa),some (.ref pl),some (.ref oa),some (.ref ob),some (.ref D)]∧aO H H'∧∃r',TsI H' D r'∧Tr S Pl r'∧r'[0]?=some p∧r'[1]?=some o∧r'.length=r.length+1,?_,?_⟩
  ·rintro σ' H' ⟨rfl,g,r',a1,a2,a3,a4,a5⟩;exact⟨m-1,(aU (by lia) rfl g r' a1 ⟨ a2,a3,a4,by lia,by lia⟩)⟩
  refine(bE _ rfl (.inl ⟨rfl,_,SqL.of t1⟩) _ rfl ⟨ _,rfl,_,rfl,(aI D _ _ _ rfl ⟨ rfl,SqL.of t1,atb,(aI sa ba S _ rfl ⟨ hS.same g1,eb2,fun B H2 g2 hB hT=>?_⟩)⟩)⟩);obtain⟨nr,n1,n2,n3⟩:=hT;obtain⟨nr',m1',m2',m3'⟩:=TsI.at ⟨nr,n1,n2,n3⟩;have nl:nr.length≤4:=by rw[n2];exact vU _ _
  let pd:Nat→Bool:=fun i=>((nb S r[r.length-1])[i]?.map fun x=>decide (x≠r[r.length-2])).getD false
  refine⟨B,rfl,⟨_,SqL.of n1⟩,fun R hR=>?_⟩;refine qT nr.length (fun i=>.ref (nr.getD i 0)) pd hR (by lia) (fun i H3 hi g=>⟨_,.ref nr[i],SqL.of (g _ _ n1),by rw[Zk,Zz hi];rfl⟩) (fun H3 g=>⟨_,SqL.of (g _ _ n1),by rw[Zq];exact Nat.le_refl _⟩) ?_ ?_
  ·rintro i H3 x H4 kt kf hi g ⟨rfl,hx⟩ hkt hkf;have hx:=hx _ (SqL.of (g _ _ n1));have hin:i<(nb S r[r.length-1]).length:=by rw[←n2];exact hi
   obtain⟨xa,x1,x2⟩:=n3 i _ (GR.aK hin);rw[Zk,x1]at hx;cases hx;have er:V.ref xa=.ref (nr.getD i 0):=by rw[Zv,x1];rfl
   have ep:pd i=decide ((nb S r[r.length-1])[i]≠r[r.length-2]):=by show(Option.map _ _).getD false=_;rw[GR.aK hin];rfl
   have gg:=g2.trans g;refine(bJ ((Fills.refl _).set _ rfl) _ rfl _ rfl ⟨ _,rfl,(aI D _ _ _ rfl ⟨ rfl,(aN (SqL.of (gg _ _ t1)) ata (dP (nb S r[r.length-1])[i]) (dP r[r.length-2]) (tT (g _ _ x2)) (aU (tT (gg _ _ ea2)) (PM _) (PM _) _ rfl ?_))⟩)⟩);rw[pM,Bool.xor_true];refine cO (fun cc=>⟨_,rfl,?_⟩) (fun cc=>?_)
   ·rw[er];refine hkt ?_ _ (aO.refl _);rw[ep];refine decide_eq_true fun z=>?_;rw[decide_eq_true z]at cc;cases cc
   ·refine hkf ?_ _ (aO.refl _);rw[ep];refine decide_eq_false fun z=>cc ?_;rw[decide_eq_false z];rfl
  intro H3 g3 eR;obtain⟨i0,hi0,ei0⟩:∃i0,∃h:i0<(nb S r[r.length-1]).length,(nb S r[r.length-1])[i0]=c:=by
   have:c∈nb S r[r.length-1]:=(dY hP.u).mpr hbc;obtain⟨i,h,e⟩:=Yg.mp this;exact⟨i,h,e⟩
  have only:(List.range nr.length).filter pd=[i0]:=by
   refine J4 (List.Pairwise.filter _ List.nodup_range) fun j=>?_;rw[Yz,Zs,n2];constructor
   ·rintro⟨hj,hpd⟩;have hpd:((nb S r[r.length-1])[j]?.map fun x=>decide (x≠r[r.length-2])).getD false=true:=hpd;rw[GR.aK hj]at hpd;have hne:=of_decide_eq_true hpd;have:(nb S r[r.length-1])[j]∈(nb S r[r.length-1]).filter fun x=>decide (x≠r[r.length-2]):=Yz.mpr ⟨Zp hj,decide_eq_true hne⟩;rw[hc]at this;have ej:=Zb.mp this;have nd2:=qB S r[r.length-1];rw[List.nodup_iff_pairwise_ne,List.pairwise_iff_getElem]at nd2;rcases Nat.lt_trichotomy j i0 with z | z | z
    ·exact absurd (ej.trans ei0.symm) (nd2 j i0 hj hi0 z)
    ·exact z
    ·exact absurd (ei0.trans ej.symm) (nd2 i0 j hi0 hj z)
   ·rintro rfl;refine⟨hi0,?_⟩;show((nb S r[r.length-1])[j]?.map fun x=>decide (x≠r[r.length-2])).getD false=true;rw[GR.aK hi0,ei0];exact decide_eq_true hca
  rw[only]at eR;obtain⟨ca,c1,c2⟩:=n3 i0 c (by rw[GR.aK hi0,ei0]);have eg:nr.getD i0 0=ca:=by rw[Zv,c1];rfl
  have g23:=g2.trans g3;obtain⟨tr2,u1,u2,u3⟩:=hr'.same g23;have u1':=g23 _ _ t1;rw[u1]at u1';refine(aI R _ 0 (.ref ca) rfl ⟨ rfl,SqL.of eR,(cF (by rw[←eg];rfl) D _ _ rfl (bF rfl u1 (by rw[Zq,u2];exact Xq l32 (by decide)) rfl ((g1.trans g23).fresh hD _) (lQ (r++[c]) (mD u1 u2 u3 (g3 _ _ c2)) (ht.on ga gb hb hbc hca) (by rw[Zx (by lia)];exact r0) (by rw[Zx (by lia)];exact r1) (by simp))))⟩)
 ·have hb:r[r.length-1]∈Pl:=by
   cases hd:decide (r[r.length-1]∈Pl) with
   |true=>exact of_decide_eq_true hd
   |false=>rw[hd]at c;exact absurd rfl c
  exact⟨_,rfl,q D r _ g1 hD hr' ⟨ht,fun a e=>by rw[gb]at e;cases e;exact hb⟩ r0 r1 l32⟩
end K75
namespace L2
open PySem PySem.Spec PyProof.Rows GR
def key(p:Pt):List Int:=[p.1,p.2]
theorem AL{p q:Pt}(h:key p=key q):p=q:=by
 unfold key at h;injection h with h1 h2;injection h2 with h2 _;exact Prod.ext h1 h2
theorem EE{α:Type}(R:Nat→α→Prop):∀n:Nat,(∀i,i<n→∃x,R i x)→∃xs:List α,xs.length=n∧∀(i:Nat) x,xs[i]?=some x→R i x
 |0,_=>⟨[],rfl,fun i x e=>by simp at e⟩
 |n+1,h=>by
  obtain⟨xs,h1,h2⟩:=EE R n fun i hi=>h i (by lia);obtain⟨x,hx⟩:=h n (by lia);refine⟨xs++[x],by simp[h1],fun i y e=>?_⟩;by_cases c:i<xs.length
  ·rw[Zx c]at e;exact h2 i y e
  ·have hi:=(Zj.mp e).1;simp at hi;have:i=xs.length:=by lia
   subst this;rw[Zy (Nat.le_refl _),Nat.sub_self]at e;cases e;rw[h1];exact hx
theorem SsI.two{H:Hp}{S:Sts}{sr:List Addr}(h2:sr.length=S.length)(h3:∀(i:Nat) s,S[i]?=some s→∃r,sr[i]?=some r∧StA H r s):∃xs ys:List Addr,xs.length=S.length∧ys.length=S.length∧∀(i:Nat) s,S[i]?=some s→∃r x y,sr[i]?=some r∧xs[i]?=some x∧ys[i]?=some y∧H r=some (.tup [.ref x,.ref y])∧PtA H x s.1∧PtA H y s.2:=by
 obtain⟨zs,z1,z2⟩:=EE (fun i (z:Addr×Addr)=>∀s,S[i]?=some s→∃r,sr[i]?=some r∧H r=some (.tup [.ref z.1,.ref z.2])∧PtA H z.1 s.1∧PtA H z.2 s.2) S.length fun i hi=>by
  obtain⟨r,q1,x,y,q2,q3,q4⟩:=h3 i _ (GR.aK hi);exact⟨(x,y),fun s e=>by rw[GR.aK hi]at e;cases e;exact⟨r,q1,q2,q3,q4⟩⟩
 refine⟨zs.map (·.1),zs.map (·.2),by rw[Zq,z1],by rw[Zq,z1],fun i s e=>?_⟩;have hi:i<zs.length:=by rw[z1];exact(Zj.mp e).1
 obtain⟨r,a,b,c,d⟩:=z2 i _ (GR.aK hi) s e;exact⟨r,_,_,a,by rw[Zk,GR.aK hi];rfl,by rw[Zk,GR.aK hi];rfl,b,c,d⟩
theorem TsI.insert{H:Hp}{D r:Addr}{ps:List Pt}{tr:List Addr}{p:Pt}(h1:H D=some (.lst (tr.map V.ref)))(h2:tr.length=ps.length)(h3:∀(i:Nat) s,ps[i]?=some s→∃r,tr[i]?=some r∧PtA H r s)(hr:PtA H r p){k:Nat}(hk:k≤ps.length):TsI (upd H D (.lst (dH (tr.map V.ref) k (.ref r)))) D (dH ps k p):=by
 have ne:∀{b:Addr}{l:List V},H b=some (.tup l)→b≠D:=fun hb z=>by rw[z,h1]at hb;cases hb
 have ge:∀{α:Type}{l:List α}{x:α}(i:Nat),k≤l.length→(dH l k x)[i]?=if i<k then l[i]? else if i=k then some x else l[i-1]?:=fun {α l x} i hl=>ST.qJ hl x i
 have em:dH (tr.map V.ref) k (V.ref r)=(dH tr k r).map V.ref:=by unfold dH;simp[List.map_take,List.map_drop]
 refine⟨dH tr k r,by rw[em];exact aB,?_,fun i s e=>?_⟩
 ·have l1:=ST.iM tr k r;have l2:=ST.iM ps k p;show(ST.cX tr k r).length=(ST.cX ps k p).length
  lia
 ·rw[ge i hk]at e;rw[ge i (by lia)];by_cases c1:i<k
  ·rw[if_pos c1]at e ⊢;obtain⟨x,e1,e2⟩:=h3 i s e;exact⟨x,e1,by rw[aP (ne e2)];exact e2⟩
  ·rw[if_neg c1]at e ⊢;by_cases c2:i=k
   ·rw[if_pos c2]at e ⊢;cases e;exact⟨r,rfl,by rw[aP (ne hr)];exact hr⟩
   ·rw[if_neg c2]at e ⊢;obtain⟨x,e1,e2⟩:=h3 (i-1) s e;exact⟨x,e1,by rw[aP (ne e2)];exact e2⟩
end L2
namespace K75
open PySem L2 PyProof.Rows TX GR
def JC:Sp:=fun vs H Q _=>∃(sa:Addr) (n:Int) (S:Sts) (dom:List Pt),vs=[.ref sa,.int n]∧SsI H sa S∧Unit S∧S≠[]∧S.length≤60∧(∀s∈S,s.1∈dom∧s.2∈dom)∧dom.length≤10∧∀(D:Addr) (Pl:List Pt) (H':Hp),aO H H'→TsI H' D Pl→Pls S Pl→Pl≠[]→Pl.length≤10→(∀p∈Pl,p∈dom)→Q (.ref D) H'
theorem G8(T:Txt K mg t):cU P w K mg base CX0 2 t.pO t.wV ["_law_steps_here","_law_number_here"] JC:=by
 refine T.wN.F.ok tD (fun vs H Q E h=>?_) (fun cdv A outer s H vs Q E hr h=>?_)
 ·obtain⟨sa,n,S,dom,rfl,_⟩:=h;rfl
 obtain⟨sa,n,S,dom,rfl,hS,hU,hne,l60,hdm,d10,q⟩:=h;have nd:=tD.nd;have hu8:(A.deeper (envOfC (ZT "_law_places") (aR kJ) s.heap.objs.size t.pO cdv)).units+8<cLine:=by have:=hr.units;lia
 have nd_l_one_l_other:(["_law_one","_law_other"]:List Str).Nodup:=by decide
 refine⟨_,(aG (aZ 2 nd (aW (A6 rfl hu8) rfl T.ID boot_sorted (aA (b9 (HZ rfl hu8) rfl T.SV boot_set (aA (aM dQ (eN (N':=["_law_one","_law_other"]) (js:=[none,none]) rfl (cD (pv 0)) (fun _ _ _ _ _=>(qH (K:=K) (n:=2) rfl rfl (b8 (aX (i:=0) nd_l_one_l_other rfl (Or.inl rfl)) (b8 (aX (i:=1) nd_l_one_l_other rfl (Or.inl rfl)) e7)))) (fun _ _ _ _ _=>fX) (fun _ _ _ _ _=>(pv 0))) (eN (N':=["_law_one","_law_other"]) (js:=[none,none]) rfl (cD (pv 0)) (fun _ _ _ _ _=>(qH (K:=K) (n:=2) rfl rfl (b8 (aX (i:=0) nd_l_one_l_other rfl (Or.inl rfl)) (b8 (aX (i:=1) nd_l_one_l_other rfl (Or.inl rfl)) e7)))) (fun _ _ _ _ _=>fX) (fun _ _ _ _ _=>(pv 1)))) aC)) aC)))
  (aG (aZ 3 nd (bI aC))
  (aG (cR PassesOwn.never rfl (AD rfl T.lM (aA (pv 2) aC)) (mE rfl (b8 (aX (i:=4) nd rfl (Or.inl rfl)) (b8 (aX (i:=5) nd rfl (Or.inl rfl)) e7))) (aL (cH (PW.pt (iY (aS oX (aW aV rfl T.cP PySem.boot_len (aA (bP (oG T) hr T.iP bK (aA (pv 0) (aA (pv 5) aC))) aC)) aE (bA _)) (jF (aS dO (aM cJ (aM c8 (pv 1) (aM JZ aE (pv 4))) aE) aE (bA _))))) (aL (bQ (dE mAp bR (pv 3) (aA (pv 5) aC)))) bG)))
  (aG (aZ 6 nd (bI aC))
  (aG (cR PassesOwn.never rfl (AD rfl T.lM (aA (aM dQ (pv 3) (bC cC (pv 2) bB (bH (b9 j9 rfl T.oP boot_int (aA (cZ (mG hr.units) (pv 3) (bI aC) (bA _)) aC))))) aC)) (mE rfl (b8 (aX (i:=4) nd rfl (Or.inl rfl)) (b8 (aX (i:=5) nd rfl (Or.inl rfl)) e7))) (aL (bQ (lI PySem.F.plainAttrs_list PySem.F.slot_list_insert PySem.F.type_list_insert yQ (pv 6) (aA (aM cJ (aM c8 (pv 1) (aM bM aE (aM cW aE (pv 4)))) (aM bM (aW aV rfl T.cP PySem.boot_len (aA (pv 6) aC)) aE)) (aA (pv 5) aC))))))
  (aL (a8 (pv 6)))))))),?_⟩
 obtain⟨sr,s1,s2,s3⟩:=id hS;obtain⟨xs,ys,x1,y1,xy⟩:=SsI.two s2 s3;refine(cL _ rfl sa rfl ⟨_,SqL.of s1⟩ (fun D1 hD1=>?_));refine oM S.length (fun i=>.ref (xs.getD i 0)) hD1 (by lia) (fun i H' hi g=>⟨_,.ref (sr[i]'(by lia)),SqL.of (g _ _ s1),by rw[Zk,Zz (by lia)];rfl⟩) (fun H' g=>⟨_,SqL.of (g _ _ s1),by rw[Zq,s2];exact Nat.le_refl _⟩) ?_ ?_
 ·rintro i H' x H'' k hi g ⟨rfl,hx⟩ hk;have hx:=hx _ (SqL.of (g _ _ s1));obtain⟨r,a,b,e1,e2,e3,e4,e5,e6⟩:=xy i _ (GR.aK hi);rw[Zk,e1]at hx;cases hx;refine(a9 r _ rfl (SqT.of (g _ _ e4)) rfl ⟨ _,(aJ _ rfl _ _ rfl ⟨ rfl,((Fills.refl _).set _ rfl).set _ rfl,_,rfl,?_⟩)⟩);have:=hk _ (aO.refl _);rw[Zv,e2]at this;exact this
 intro H1 g1 eD1;refine(cL _ rfl sa rfl ⟨_,SqL.of (g1 _ _ s1)⟩ (fun D2 hD2=>?_));refine oM S.length (fun i=>.ref (ys.getD i 0)) hD2 (by lia) (fun i H' hi g=>⟨_,.ref (sr[i]'(by lia)),SqL.of (g _ _ (g1 _ _ s1)),by rw[Zk,Zz (by lia)];rfl⟩) (fun H' g=>⟨_,SqL.of (g _ _ (g1 _ _ s1)),by rw[Zq,s2];exact Nat.le_refl _⟩) ?_ ?_
 ·rintro i H' x H'' k hi g ⟨rfl,hx⟩ hk;have hx:=hx _ (SqL.of (g _ _ (g1 _ _ s1)));obtain⟨r,a,b,e1,e2,e3,e4,e5,e6⟩:=xy i _ (GR.aK hi);rw[Zk,e1]at hx;cases hx;refine(a9 r _ rfl (SqT.of (g _ _ (g1 _ _ e4))) rfl ⟨ _,(aJ _ rfl _ _ rfl ⟨ rfl,((Fills.refl _).set _ rfl).set _ rfl,_,rfl,?_⟩)⟩);have:=hk _ (aO.refl _);rw[Zv,e3]at this;exact this
 intro H2 g2 eD2;have tx:∀{zs:List Addr},zs.length=S.length→(List.range S.length).map (fun i=>V.ref (zs.getD i 0))=zs.map V.ref:=fun {zs} hz=>by
  refine Ys (by simp[hz]) fun i h1 h2=>?_;simp only[Zq,Yj]at h1;simp[Zv,Zz (show i<zs.length by lia)]
 rw[tx x1]at eD1;rw[tx y1]at eD2;have g12:=g1.trans g2;refine(aI D1 D2 _ _ rfl ⟨ rfl,g2 _ _ eD1,eD2,by rw[Zq,Zq,x1,y1];exact YQ (by lia:_≤120) (by decide),fun D3 hD3=>?_⟩);have g3:=aH hD3 (.lst (xs.map V.ref++ys.map V.ref));have g13:=g12.trans g3
 let PP:List Pt:=S.map (·.1)++S.map (·.2)
 let vs:ST.Xs:=(PP.map key).zip (xs++ys)
 have lPP:(PP.map key).length=(xs++ys).length:=by simp[PP,x1,y1]
 have vm:vs.map (fun x=>V.ref x.2)=xs.map V.ref++ys.map V.ref:=by
  have:vs.map (·.2)=xs++ys:=List.map_snd_zip (by lia);rw[←Zt,←this,Yb];rfl
 have vk:vs.map (·.1)=PP.map key:=List.map_fst_zip (by lia);have mp:∀p,p∈PP↔∃q,Adj S p q:=fun p=>by
  show p∈S.map (·.1)++S.map (·.2)↔_;rw[Zf,Zh,Zh];constructor
  ·rintro(⟨s,hs,rfl⟩ | ⟨s,hs,rfl⟩)
   ·exact⟨s.2,.inl hs⟩
   ·exact⟨s.1,.inr hs⟩
  ·rintro⟨q,h | h⟩
   ·exact .inl ⟨_,h,rfl⟩
   ·exact .inr ⟨_,h,rfl⟩
 have pdm:∀p∈PP,p∈dom:=fun p hp=>by
  obtain⟨q,h | h⟩:=(mp p).mp hp
  ·exact(hdm _ h).1
  ·exact(hdm _ h).2
 have vat:∀x∈vs,∃p∈PP,x.1=key p∧PtA H x.2 p:=fun x hx=>by
  obtain⟨i,hi,rfl⟩:=Yg.mp hx;rw[List.getElem_zip];have hi':i<PP.length:=by have:=hi;rw[List.length_zip]at this;simp at this ⊢;lia
  refine⟨PP[i],Zp hi',by rw[List.getElem_map],?_⟩;show PtA H ((xs++ys)[i]'(by rw[←lPP,Zq];exact hi')) PP[i];by_cases c:i<S.length
  ·obtain⟨r,a,b,e1,e2,e3,e4,e5,e6⟩:=xy i _ (GR.aK c);have z1:(xs++ys)[i]'(by simp;lia)=a:=by
    rw[List.getElem_append_left (by lia)];exact Option.some.inj ((GR.aK (by lia)).symm.trans e2)
   have z2:PP[i]=S[i].1:=by
    show(S.map (·.1)++S.map (·.2))[i]=_;rw[List.getElem_append_left (by rw[Zq];exact c),List.getElem_map]
   rw[z1,z2];exact e5
  ·have c':i-S.length<S.length:=by have:=hi';simp[PP]at this;lia
   obtain⟨r,a,b,e1,e2,e3,e4,e5,e6⟩:=xy (i-S.length) _ (GR.aK c');have z1:(xs++ys)[i]'(by simp;lia)=b:=by
    rw[List.getElem_append_right (by lia)];have:ys[i-xs.length]?=some b:=by rw[x1];exact e3
    exact Option.some.inj ((GR.aK (by lia)).symm.trans this)
   have z2:PP[i]=S[i-S.length].2:=by
    show(S.map (·.1)++S.map (·.2))[i]=_;rw[List.getElem_append_right (by rw[Zq];lia),List.getElem_map];simp
   rw[z1,z2];exact e6
 refine(cQ D3 vs (dom.map key) rfl (by rw[vm];exact SqL.of aB) ⟨ fun x hx=>?_,by rw[Zq];lia,fun x hx=>?_,fun S0 zs hS0 hacc hnd=>?_⟩)
 ·obtain⟨p,_,e1,e2⟩:=vat x hx;rw[e1];exact SqT.of (g13 _ _ e2)
 ·obtain⟨p,hp,e1,_⟩:=vat x hx;rw[e1];exact Yn (pdm p hp)
 have g4:=aH hS0 (DO P w S0 zs);have g14:=g13.trans g4;have zat:∀x∈zs,∃p∈PP,x.1=key p∧PtA H x.2 p:=fun x hx=>vat x (hacc.sub x hx);have zl:zs.length≤10:=by
  have:=GR.sub_len hnd (b:=dom.map key) fun k hk=>by
   obtain⟨x,hx,rfl⟩:=Zh.mp hk;obtain⟨p,hp,e1,_⟩:=zat x hx;rw[e1];exact Yn (pdm p hp)
  rw[Zq,Zq]at this
  lia
 have nd2:(zs.map (·.2)).Nodup:=by
  refine GR.fZ (GR.gX hnd) fun x hx y hy e=>?_;obtain⟨p,_,a1,a2⟩:=zat x hx;obtain⟨p',_,b1,b2⟩:=zat y hy;rw[e,PtA,b2]at a2;have:p'=p:=by injection a2 with a2;injection a2 with a2;injection a2 with h1 h2;injection h1 with h1;injection h2 with h2 _;injection h2 with h2;exact Prod.ext h1 h2
  exact Prod.ext (by rw[a1,b1,this]) e
 refine(a9 S0 zs rfl aB (fun x hx=>?_) ⟨ by lia,nd2,fun l ws hl hperm _=>?_⟩)
 ·obtain⟨p,_,e1,e2⟩:=zat x hx;rw[e1];exact⟨by simp[key],SqT.of (g14 _ _ e2)⟩
 have g5:=aH hl (.lst (ws.map fun x=>V.ref x.2));have g15:aO H (upd (upd (upd H2 D3 (.lst (xs.map V.ref++ys.map V.ref))) S0 (DO P w S0 zs)) l (.lst (ws.map fun x=>V.ref x.2))):=g14.trans g5;obtain⟨pts,pt1,pt2⟩:=EE (fun i p=>∀x,ws[i]?=some x→x.1=key p∧PtA H x.2 p) ws.length fun i hi=>by
  obtain⟨p,_,e1,e2⟩:=zat _ (hperm.mem_iff.mp (Zp hi));exact⟨p,fun x e=>by rw[GR.aK hi]at e;cases e;exact⟨e1,e2⟩⟩
 have wk:ws.map (·.1)=pts.map key:=by
  refine Ys (by simp[pt1]) fun i h1 h2=>?_;simp only[Zq]at h1 h2;rw[List.getElem_map,List.getElem_map];exact(pt2 i _ (GR.aK (by lia)) _ (GR.aK h1)).1
 have pnd:pts.Nodup:=by
  refine GR.gX (f:=key) ?_;rw[←wk];exact(hperm.map (·.1)).nodup_iff.mpr hnd
 have pmem:∀p,p∈pts↔p∈PP:=fun p=>by
  constructor
  ·intro hp;have:key p∈ws.map (·.1):=by rw[wk];exact Yn hp
   obtain⟨x,hx,e⟩:=Zh.mp this;obtain⟨p',hp',e1,_⟩:=zat x (hperm.mem_iff.mp hx);rw[←AL (e1.symm.trans e)];exact hp'
  ·intro hp;have:key p∈vs.map (·.1):=by rw[vk];exact Yn hp
   obtain⟨x,hx,e⟩:=Zh.mp this;obtain⟨y,hy,e2⟩:=hacc.al x (by rw[Yw];exact hx);have:key p∈pts.map key:=by
    rw[←wk,←e,←e2];exact Yn (hperm.mem_iff.mpr hy)
   obtain⟨p',hp',e3⟩:=Zh.mp this;rw[←AL e3];exact hp'
 have pl10:pts.length≤10:=by rw[pt1,hperm.length_eq];exact zl
 have hpts:TsI (upd (upd (upd H2 D3 (.lst (xs.map V.ref++ys.map V.ref))) S0 (DO P w S0 zs)) l (.lst (ws.map fun x=>V.ref x.2))) l pts:=by
  refine⟨ws.map (·.2),by rw[Yb];exact aB,by rw[Zq,pt1],fun i p e=>?_⟩;have hi:i<ws.length:=by rw[←pt1];exact(Zj.mp e).1
  exact⟨ws[i].2,by rw[Zk,GR.aK hi];rfl,g15 _ _ (pt2 i p e _ (GR.aK hi)).2⟩
 have pne:pts≠[]:=fun z=>by
  obtain⟨s,hs⟩:=List.exists_mem_of_ne_nil S hne;have:=(pmem s.1).mpr ((mp _).mpr ⟨s.2,.inl hs⟩);rw[z]at this;cases this
 show bT 2 (V.ref l) _ (upd (upd (upd H2 D3 (.lst (xs.map V.ref++ys.map V.ref))) S0 (DO P w S0 zs)) l (.lst (ws.map fun x=>V.ref x.2))) _;generalize upd (upd (upd H2 D3 (.lst (xs.map V.ref++ys.map V.ref))) S0 (DO P w S0 zs)) l (.lst (ws.map fun x=>V.ref x.2))=H5 at g15 hpts ⊢;clear hS0 hl g5 g4 g14 hD3 eD1 eD2 hD1 hD2 g3 g13;obtain⟨pr,p1,p2,p3⟩:=id hpts;refine⟨(by show 0≤ZW;decide),fun sm hsm=>?_⟩;have k1:=aH hsm (.lst []);have hsm0:H sm=none:=g15.free hsm;dsimp only[bT];refine t7 (fun σ' H'=>(∃v4 v5,σ'=[some (.ref sa),some (.int n),some (.ref l),some (.ref sm),v4,v5,none])∧aO H5 H'∧∃F,TsI H' sm F∧F.Nodup∧F.length≤10∧(∀p∈F,p∈pts)∧∀p∈pts,(nb S p).length≠2→p∈F) (fun N n1=>?_) ?_
 ·let Pv1:Nat→L2.St→L2.Hp→Prop:=fun i σ H'=>(∃v4 v5,σ=[some (.ref sa),some (.int n),some (.ref l),some (.ref sm),v4,v5,none])∧aO H5 H'∧∃F,TsI H' sm F∧F.Nodup∧F.length≤i∧(∀p∈F,p∈pts.take i)∧∀p∈pts.take i,(nb S p).length≠2→p∈F
  refine(cL _ rfl l rfl ⟨_,SqL.of (k1 _ _ p1)⟩ (wI (K:=K) (a:=l) (xs:=pr.map V.ref) Pv1 (fT ⟨_,_,rfl⟩ k1 ([]) ⟨[],aB,rfl,fun i z e=>by simp at e⟩ List.nodup_nil ⟨ Nat.le_refl _,fun p hp=>by simp at hp,fun p hp=>by simp at hp⟩) (fun _ _ _ _ ⟨_,g,_⟩=>SqL.of (g _ _ p1)) ?_ ?_))
  ·rintro i x σ H6 Tp hx ⟨⟨v4,v5,rfl⟩,g6,F,hF,nF,lF,sF,aF⟩ hTp;obtain⟨pt,ra,e1,rfl,e2⟩:=TsI.nth (a:=l) p2 p3 hx;have hi:i<pts.length:=(Zj.mp e1).1;have m1:=aH hTp (.tup [vn i,.ref ra]);have g7:=g6.trans m1;have tk:pts.take (i+1)=pts.take i++[pt]:=by rw[List.take_add_one,e1];rfl
   have hnew:pt∉F:=fun z=>by
    have:=sF pt z;obtain⟨j,hj,ej⟩:=Yg.mp this;rw[Yx]at hj;rw[List.getElem_take]at ej;have:=List.nodup_iff_pairwise_ne.mp pnd;rw[List.pairwise_iff_getElem]at this;exact this j i (by lia) hi (by lia) (ej.trans (Zj.mp e1).2.symm)
   obtain⟨fr,f1,f2,f3⟩:=id hF;have put:∀{H':Hp},aO H6 H'→PtA H' ra pt→TsI (upd H' sm (.lst (fr.map V.ref++[.ref ra]))) sm (F++[pt])∧(F++[pt]).Nodup∧(F++[pt]).length≤i+1∧(∀p∈F++[pt],p∈pts.take (i+1))∧∀p∈pts.take (i+1),(nb S p).length≠2→p∈F++[pt]:=fun {H'} g hpt=>by
    refine⟨mD (g _ _ f1) f2 (fun j z e=>let⟨r,a,b⟩:=f3 j z e;⟨r,a,g _ _ b⟩) hpt,?_,by simp;lia,fun p hp=>?_,fun p hp h2=>?_⟩
    ·rw[List.nodup_append];refine⟨nF,by simp,fun a ha b hb z=>?_⟩;rw[Zb.mp hb]at z;exact hnew (z▸ha)
    ·rw[tk];rcases Zf.mp hp with hp | hp
     ·exact List.mem_append_left _ (sF p hp)
     ·exact List.mem_append_right _ hp
    ·rw[tk]at hp;rcases Zf.mp hp with hp | hp
     ·exact List.mem_append_left _ (aF p hp h2)
     ·exact List.mem_append_right _ hp
   have szF:(fr.map V.ref).length<ZW:=by rw[Zq,f2];exact Xq (by lia:F.length≤10) (by decide)
   refine(a9 Tp _ rfl (SqT.of aB) rfl ⟨ _,(aJ _ rfl _ _ rfl ⟨ rfl,?_⟩)⟩);refine⟨_,rfl,_,rfl,(aI sa ra S pt rfl ⟨ hS.same (g15.trans g7),g7 _ _ e2,fun B H8 g8 hB hnb=>?_⟩)⟩;obtain⟨br,b1,b2,_⟩:=hnb;have g68:=m1.trans g8;refine(a9 B _ rfl (.inl (SqL.of b1)) rfl ⟨ _,rfl,cO (fun c=>fR ?_) (fun c=>?_)⟩)
   ·obtain⟨a1,a2,a3,a4,a5⟩:=put g68 (g68 _ _ (g6 _ _ e2));exact(bE _ rfl (.inl ⟨rfl,_,SqL.of (g68 _ _ f1)⟩) _ rfl (cQ sm _ _ rfl rfl ⟨ g68 _ _ f1,(aU szF ⟨_,_,rfl⟩ ((g6.trans g68).fresh hsm _) _ a1 ⟨ a2,a3,a4,a5⟩)⟩))
   ·have two:(nb S pt).length=2:=by
     apply ZS;intro z;apply c;have:¬(V.int (((br.map V.ref).length:Nat):Int)=V.int 2):=fun y=>z (by
      have y:=V.int.inj y;rw[Zq,b2]at y
      lia)
     rw[decide_eq_false this];rfl
    have pw:(1:Int)*2 ^ (i:Int).toNat=((2 ^ i:Nat):Int):=by simp
    have pl:2 ^ i≤2 ^ 10:=Nat.pow_le_pow_right (by decide) (by lia);have pp:0<2 ^ i:=Nat.pow_pos (by decide);refine⟨_,rfl,(aJ _ rfl _ _ rfl (aN rfl ⟨by lia,by lia,by decide⟩ _ _ rfl (aN rfl ?_ _ _ rfl (aU rfl (by show(0:Int)<2;decide) rfl _ rfl (cO (fun _=>?_) (fun _=>?_))))))⟩
    ·show 0<(1:Int)*2 ^ (i:Int).toNat∧(1:Int)*2 ^ (i:Int).toNat<1073741824;rw[pw];exact⟨by lia,by lia⟩
    ·obtain⟨a1,a2,a3,a4,a5⟩:=put g68 (g68 _ _ (g6 _ _ e2));exact(bE _ rfl (.inl ⟨rfl,_,SqL.of (g68 _ _ f1)⟩) _ rfl (cQ sm _ _ rfl rfl ⟨ g68 _ _ f1,(aU szF ⟨_,_,rfl⟩ ((g6.trans g68).fresh hsm _) _ a1 ⟨ a2,a3,a4,a5⟩)⟩))
    ·refine(fT ⟨_,_,rfl⟩ (g6.trans g68) F (hF.same g68) nF ⟨ by lia,fun p hp=>?_,fun p hp h2=>?_⟩)
     ·rw[tk];exact List.mem_append_left _ (sF p hp)
     ·rw[tk]at hp;rcases Zf.mp hp with hp | hp
      ·exact aF p hp h2
      ·rw[Zb.mp hp]at h2;exact absurd two h2
  ·rintro σ H6 ⟨h,g6,F,hF,nF,lF,sF,aF⟩;rw[Zq,p2,Yw]at sF aF;rw[Zq,p2]at lF;exact n1 _ _ (fT h g6 F hF nF ⟨ by lia,sF,aF⟩)
 rintro σ' H6 ⟨⟨v4,v5,rfl⟩,g6,F,hF,nF,lF,sF,aF⟩;refine⟨(by show 0≤ZW;decide),fun fd hfd=>?_⟩;have k2:=aH hfd (.lst []);have hfd0:H fd=none:=(g15.trans g6).free hfd;obtain⟨fr,f1,f2,f3⟩:=hF.same k2;have shp:SeqAt.shaped (.list (F.map dP))=true:=by
  have this:PyData.canLayAll0 (F.map dP)=true∧PyData.depthAll (F.map dP)≤4:=jB 4 fun d hd=>by
   obtain⟨z,_,rfl⟩:=Zh.mp hd;exact⟨rfl,by simp[dP,PyData.depth,PyData.depthAll]⟩
  unfold SeqAt.shaped;rw[Xy];refine⟨this.1,decide_eq_true ?_⟩;show PyData.depthAll (F.map dP)+1≤64;have:=this.2
  lia
 have nilq:PyData.eqv (.list (F.map dP)) (.list [])=decide (F=[]):=by
  cases F with
  |nil=>rfl
  |cons x F=>rfl
 dsimp only[bT];refine⟨_,(bJ rfl _ rfl _ rfl ⟨ (by show 0≤ZW;decide),fun ea hea=>?_⟩)⟩;have k3:=aH hea (.lst []);refine(a9 (.list (F.map dP)) (.list []) (.lst (SqL.of (k3 _ _ f1)) (TsI.bds f2 fun i z e=>let⟨r,a,b⟩:=f3 i z e;⟨r,a,k3 _ _ b⟩)) (.lst (SqL.of aB) .nil) shp ⟨ rfl,?_⟩);rw[nilq,Bool.xor_false];obtain⟨j,hj,hj1,hjF⟩:∃j:Nat,(if decide (F=[])=true then (1:Int) else 0)=(j:Int)∧j≤1∧(F=[]↔j=1):=by
  by_cases c:F=[]
  ·exact⟨1,by rw[if_pos (decide_eq_true c)];rfl,Nat.le_refl _,by simp[c]⟩
  ·exact⟨0,by rw[if_neg (by rw[decide_eq_true_iff];exact c)];rfl,by decide,by simp[c]⟩
 refine .inr ⟨_,rfl,?_⟩;have g7:=g6.trans (k2.trans k3);refine(aJ _ rfl l _ rfl ⟨ SqL.of (g7 _ _ p1),fun cu hcu=>?_⟩);have k4:=aH hcu (.lst ((pr.take j).map V.ref));have ec:fF (pr.map V.ref) none (some (if decide (F=[])=true then (1:Int) else 0))=(pr.take j).map V.ref:=by rw[hj,kW,List.map_take]
 rw[ec];refine(aI sm cu _ _ rfl ⟨ rfl,k4 _ _ (k3 _ _ f1),aB,by rw[Zq,Zq,f2,Yx];exact YQ (by lia:_≤20) (by decide),fun ga hga=>?_⟩);have k5:=aH hga (.lst (fr.map V.ref++(pr.take j).map V.ref));have g8:=g7.trans (k4.trans k5);have hG:TsI (upd (upd (upd (upd H6 fd (.lst [])) ea (.lst [])) cu (.lst ((pr.take j).map V.ref))) ga (.lst (fr.map V.ref++(pr.take j).map V.ref))) ga (F++pts.take j):=by
  refine⟨fr++pr.take j,by rw[Zt];exact aB,by rw[Zm,Zm,f2,Yx,Yx,p2],fun i z e=>?_⟩;by_cases c:i<F.length
  ·rw[Zx c]at e;obtain⟨r,a,b⟩:=f3 i z e;exact⟨r,by rw[Zx (by lia)];exact a,k5 _ _ (k4 _ _ (k3 _ _ b))⟩
  ·rw[Zy (by lia)]at e;have hi:=(Zj.mp e).1;rw[Yx]at hi;rw[List.getElem?_take_of_lt (by lia)]at e;obtain⟨r,a,b⟩:=p3 _ z e;exact⟨r,by rw[Zy (by lia),f2,List.getElem?_take_of_lt (by lia)];exact a,g8 _ _ b⟩
 have hfdE:upd (upd (upd (upd H6 fd (.lst [])) ea (.lst [])) cu (.lst ((pr.take j).map V.ref))) ga (.lst (fr.map V.ref++(pr.take j).map V.ref)) fd=some (.lst []):=k5 _ _ (k4 _ _ (k3 _ _ aB));have nga:fd≠ga:=fun z=>by
  have:upd (upd (upd H6 fd (.lst [])) ea (.lst [])) cu (.lst ((pr.take j).map V.ref)) fd=some (.lst []):=k4 _ _ (k3 _ _ aB);have h0:=hga;rw[←z,this]at h0;cases h0
 generalize upd (upd (upd (upd H6 fd (.lst [])) ea (.lst [])) cu (.lst ((pr.take j).map V.ref))) ga (.lst (fr.map V.ref++(pr.take j).map V.ref))=H9 at g8 hG hfdE ⊢;have gnd:(F++pts.take j).Nodup:=by
  by_cases c:F=[]
  ·rw[c,List.nil_append];exact pnd.sublist (List.take_sublist _ _)
  ·have:j=0:=by have:=mt hjF.mpr c;lia
   rw[this,List.take_zero,List.append_nil];exact nF
 have gsub:∀p∈F++pts.take j,p∈pts:=fun p hp=>by
  rcases Zf.mp hp with hp | hp
  ·exact sF p hp
  ·exact List.mem_of_mem_take hp
 have gne:F++pts.take j≠[]:=fun z=>by
  obtain⟨z1,z2⟩:=List.append_eq_nil_iff.mp z;rw[hjF.mp z1]at z2;cases pts with
  |nil=>exact pne rfl
  |cons x pts=>cases z2
 have gl:(F++pts.take j).length≤10:=YQ (GR.sub_len gnd gsub) pl10;obtain⟨gr,q1,q2,q3⟩:=id hG;have hfin:∀{Pl:List Pt},Pl.Perm (F++pts.take j)→Pls S Pl:=fun {Pl} pm=>by
  refine⟨hU,pm.nodup_iff.mpr gnd,fun p hp=>(mp p).mp ((pmem p).mp (gsub p (pm.mem_iff.mp hp))),fun p x hpx hp=>?_⟩;apply ZS;intro h2;exact hp (pm.mem_iff.mpr (List.mem_append_left _ (aF p ((pmem p).mpr ((mp p).mpr ⟨x,hpx⟩)) h2)))
 have g9:aO H H9:=g15.trans g8
 let Pv2:Nat→L2.St→L2.Hp→Prop:=fun i σ H'=>(∃v4 v5,σ=[some (.ref sa),some (.int n),some (.ref l),some (.ref sm),v4,v5,some (.ref fd)])∧aO H H'∧H' ga=some (.lst (gr.map V.ref))∧(∀(j':Nat) z,(F++pts.take j)[j']?=some z→∃r,gr[j']?=some r∧PtA H' r z)∧∃Pl,TsI H' fd Pl∧Pl.Perm ((F++pts.take j).take i)
 refine⟨ga,rfl,⟨_,SqL.of q1⟩,wI (K:=K) (a:=ga) (xs:=gr.map V.ref) Pv2 ⟨⟨_,_,rfl⟩,(aU g9 q1 q3 ([]) ⟨[],hfdE,rfl,fun i z e=>by simp at e⟩ (by rw[List.take_zero]))⟩ (fun _ _ _ _ ⟨_,_,e,_⟩=>SqL.of e) ?_ ?_⟩
 ·rintro i x σ H1' Tp hx ⟨⟨v4',v5',rfl⟩,gA,eg,eq3,Pl,hPl,pm⟩ hTp;obtain⟨pt,ra,e1,rfl,e2⟩:=TsI.nth (a:=ga) q2 eq3 hx;have hi:i<(F++pts.take j).length:=(Zj.mp e1).1;have m1:=aH hTp (.tup [vn i,.ref ra]);obtain⟨fr',t1,t2,t3⟩:=hPl.same m1;have ll:Pl.length≤10:=by rw[pm.length_eq,Yx];lia
  have hra:=m1 _ _ e2;have eg':=m1 _ _ eg;have eq3':∀(j':Nat) z,(F++pts.take j)[j']?=some z→∃r,gr[j']?=some r∧PtA (upd H1' Tp (.tup [vn i,.ref ra])) r z:=fun j' z e=>let⟨r,a,b⟩:=eq3 j' z e;⟨r,a,m1 _ _ b⟩;have gA':=gA.trans m1;refine(a9 Tp _ rfl (SqT.of aB) rfl ⟨ _,(aJ _ rfl _ _ rfl ⟨ rfl,?_⟩)⟩);generalize upd H1' Tp (.tup [vn i,.ref ra])=H2' at t1 t3 hra eg' eq3' gA' ⊢;obtain⟨k,hk⟩:=Xx (Xv (n / (1024+37*(i:Int))) (show((((fr'.map V.ref).length:Nat):Int)+1)≠0 by lia));have hk2:=Xw (n / (1024+37*(i:Int))) (show(0:Int)<(((fr'.map V.ref).length:Nat):Int)+1 by lia);have kl:k≤fr'.length:=by rw[hk,Zq]at hk2;lia
  have tn:∀{b:Addr}{xs:List V},H2' b=some (.tup xs)→b≠fd:=fun hb z=>by rw[z,t1]at hb;cases hb
  refine(bE _ rfl (.inl ⟨rfl,_,SqL.of t1⟩) _ rfl (aJ _ rfl _ _ rfl (aN rfl (.inl ⟨by decide,by decide⟩) _ _ rfl (bN rfl _ _ rfl rfl ⟨ ⟨by lia,by lia⟩,(aJ _ rfl fd _ rfl (bN (.inl (SqL.of t1)) _ _ rfl rfl (a9 _ _ rfl rfl ?_ ⟨ _,rfl,(aI fd _ k (.ref ra) rfl (bF ?_ t1 (by rw[Zq];exact kl) (by rw[Zq,t2];exact Xq ll (by decide)) ⟨_,_,rfl⟩ (aU (gA'.fresh hfd0 _) (by rw[aP (Ne.symm nga)];exact eg') (fun j' z e=>?_) (dH Pl k pt) (TsI.insert t1 t2 t3 hra (by lia)) ?_)))⟩)))⟩))))
  ·show(0:Int)<(((fr'.map V.ref).length:Nat):Int)+1
   lia
  ·exact congrArg (fun z=>[V.int z,V.ref ra]) hk
  ·obtain⟨r,a,b⟩:=eq3' j' z e;exact⟨r,a,by rw[PtA,aP (tn b)];exact b⟩
  ·rw[List.take_add_one,e1];refine(AW.qI Pl k pt).trans ?_;exact(List.Perm.cons pt pm).trans (List.perm_append_comm (l₁:=[pt]))
 ·rintro σ H1' ⟨⟨v4',v5',rfl⟩,gA,_,_,Pl,hPl,pm⟩;rw[Zq,q2,Yw]at pm;exact⟨_,rfl,q fd Pl _ gA hPl (hfin pm) (fun z=>gne (by rw[z]at pm;exact(List.nil_perm.mp pm))) (by rw[pm.length_eq];exact gl) fun p hp=>pdm p ((pmem p).mp (gsub p (pm.mem_iff.mp hp)))⟩
end K75
namespace K75
open PySem L2 PyProof.Rows TX
def VJ(K:PySem.W.Frag):Sp:=fun vs H Q _=>∃(a:Addr) (ns:List Int) (k:Int),vs=[.ref a,.int k]∧SqL K H a (ns.map V.int)∧0≤k∧∀c:Int,Q (.int c) H
theorem R9{ns:List Int}{k:Int}(h0:0≤k)(h:k<(ns.length:Int)):∃v:Int,atI (ns.map V.int) k=some (.int v):=by
 have hk:k.toNat<ns.length:=by lia
 have ek:k=((k.toNat:Nat):Int):=by lia
 have q:atI (ns.map V.int) ((k.toNat:Nat):Int)=some (.int ns[k.toNat]):=cE (by rw[Zk,Zz hk]<;>rfl);rw[←ek]at q;exact⟨_,q⟩
theorem oY(T:Txt K mg t):cU P w K mg base CX0 1 t.ML t.L7 ["_law_script","_law_k"] (VJ K):=by
 refine T.iQ.F.ok ND (fun vs H Q E h=>?_) (fun cdv A outer s H vs Q E hr h=>?_)
 ·obtain⟨a,ns,k,rfl,_⟩:=h;rfl
 obtain⟨a,ns,k,rfl,hS,h0,q⟩:=h;refine⟨_,(aG (cH (aS p9 (pv 1) (aW aV rfl T.cP PySem.boot_len (aA (pv 0) aC)) (bA _)) (aL (a8 (aQ aT (pv 0) (pv 1) (fun _ _=>rfl)))) bG)
  (aL (a8 (aM bM (aM cW aE (pv 1)) aE)))),?_⟩
 refine⟨_,rfl,(aJ _ rfl a _ rfl (bN (.inl hS) _ _ rfl rfl ⟨ _,rfl,?_⟩))⟩;refine cO (fun c=>?_) (fun c=>?_)
 ·have c':k<(((ns.map V.int).length:Nat):Int):=of_decide_eq_true c;rw[Zq]at c';obtain⟨v,hv⟩:=R9 h0 c';exact⟨_,rfl,_,rfl,(aI a _ _ _ rfl ⟨ rfl,hS,hv,q v⟩)⟩
 ·exact(aJ _ rfl _ _ rfl (aN rfl (.inl ⟨by decide,by decide⟩) _ _ rfl ⟨ rfl,q _⟩))
def TL:Sp:=fun vs H Q _=>∃c k:Int,vs=[.int c,.int k]∧0≤k∧k≤1000∧∀m:Int,0≤m→m<2147483648→Q (.int m) H
theorem fY(T:Txt K mg t):cU P w K mg base CX0 1 t.GG t.GE ["_law_cell","_law_place"] TL:=by
 refine T.eO.F.ok BM (fun vs H Q E h=>?_) (fun cdv A outer s H vs Q E hr h=>?_)
 ·obtain⟨a,k,rfl,_⟩:=h;rfl
 obtain⟨c,k,rfl,h0,h1,q⟩:=h;have nd:=BM.nd;refine⟨_,(aG (cH (aS J3 (pv 0) (aM J0 aE aE) (bA _)) (aG (aZ 0 nd (aM eG (aM B1 (pv 0) (aM J0 aE aE)) aE))
  (aG (cR PassesOwn.never rfl (dC rfl T.eJ (aA (aM cJ (pv 1) aE) aC)) (aX (i:=2) nd rfl (Or.inl rfl)) (aL (aZ 0 nd (aM B1 (pv 0) aE))))
  (aL (a8 (aM cJ (pv 0) aE))))) bG)
  (aG (aZ 3 nd (aM cJ (aM cW (aM bM (aM bM (aM cJ (pv 0) aE) (pv 1)) aE) (aM bM (aM cW (aM cW aE (pv 1)) (pv 1)) aE)) aE))
  (aG (aZ 3 nd (aM cJ (aM cW (pv 3) (pv 3)) aE))
  (aL (a8 (aM cJ (aM cW (pv 3) (aM bM (pv 3) aE)) aE)))))),?_⟩
 have p12:SQ 10 12:=⟨by decide,by decide,by decide⟩
 refine(aJ _ rfl _ _ rfl (aN rfl p12 _ _ rfl ⟨ rfl,_,rfl,?_⟩));refine cO (fun _=>?_) (fun _=>?_)
 ·refine(aJ _ rfl _ _ rfl (aN rfl p12 _ _ rfl (aN rfl ⟨by decide,by decide⟩ _ _ rfl ⟨ rfl,?_⟩)));refine(aJ _ rfl _ _ rfl (fT rfl (by show(0:Int)<61;decide) (k%61) rfl (by lia) ⟨ by lia,dD (lo:=0) (n:=(k%61).toNat) (fun _ σ H'=>H'=H∧∃(c':Int) (o:Option V),σ=[some (.int c'),some (.int k),o,none]) ⟨rfl,_,none,rfl⟩ ?_ ?_⟩))
  ·rintro i σ H' hi ⟨rfl,c',o,rfl⟩;exact(aJ _ rfl _ _ rfl ⟨ rfl,⟨by decide,by decide⟩,rfl,_,_,rfl⟩)
  ·rintro σ H' ⟨rfl,c',o,rfl⟩;exact(aJ _ rfl _ _ rfl ⟨ rfl,(by show(0:Int)<2147483648;decide),q _ (Xv _ (by decide)) (Xw _ (by decide))⟩)
 ·refine(aJ _ rfl _ _ rfl ⟨ rfl,(by show(0:Int)<2147483629;decide),(aJ _ rfl _ _ rfl (bN rfl _ _ rfl rfl (aJ _ rfl _ _ rfl ⟨ rfl,.inl ⟨by decide,by decide⟩,(aJ _ rfl _ _ rfl (aN rfl (.inl ⟨by lia,by lia⟩) _ _ rfl (bN rfl _ _ rfl rfl (bN ?_ _ _ rfl rfl ⟨ (by show(0:Int)<2147483647;decide),?_⟩))))⟩)))⟩)
  ·have:=Xv c (show(2147483629:Int)≠0 by decide);have:=Xw c (show(0:Int)<2147483629 by decide);exact .inl ⟨by lia,by lia⟩
  have b1:∀x:Int,0≤x%2147483647∧x%2147483647<2147483647:=fun x=>⟨Xv _ (by decide),Xw _ (by decide)⟩
  have b2:∀x:Int,0≤x%2147483587∧x%2147483587<2147483587:=fun x=>⟨Xv _ (by decide),Xw _ (by decide)⟩
  have r1:=b1 ((c%2147483629+k+1)*(8*k*k+48271));generalize ((c%2147483629+k+1)*(8*k*k+48271)%2147483647:Int)=n1 at r1 ⊢;refine⟨_,rfl,(aJ _ rfl _ _ rfl (aN rfl (.inl ⟨by omega,by omega⟩) _ _ rfl ⟨ rfl,(by show(0:Int)<2147483587;decide),?_⟩))⟩;have r2:=b2 (n1*n1);generalize n1*n1%2147483587=n2 at r2 ⊢;refine⟨_,rfl,(aJ _ rfl _ _ rfl (bN rfl _ _ rfl rfl (bN (.inl ⟨by lia,by lia⟩) _ _ rfl rfl ⟨ (by show(0:Int)<2147483579;decide),q _ (Xv _ (by decide)) ?_⟩)))⟩;exact Int.lt_trans (Xw _ (by decide)) (by decide)
end K75
namespace L2
open PySem PySem.Spec PyProof.Rows GR
theorem KS:∀a b:List Int,a≠b→SO.lx b a=!SO.lx a b
 |[],[],h=>absurd rfl h
 |[],_::_,_=>rfl
 |_::_,[],_=>rfl
 |x::a,y::b,h=>by
  unfold SO.lx;by_cases e:x=y
  ·subst e;rw[if_pos rfl,if_pos rfl];exact KS a b fun z=>h (by rw[z])
  ·rw[if_neg e,if_neg (Ne.symm e)];rcases Int.lt_trichotomy x y with c | c | c
   ·rw[decide_eq_false (by lia),decide_eq_true c];rfl
   ·exact absurd c e
   ·rw[decide_eq_true c,decide_eq_false (by lia)];rfl
theorem FJ:∀a b:List (List Int),a≠b→SO.lxL b a=!SO.lxL a b
 |[],[],h=>absurd rfl h
 |[],_::_,_=>rfl
 |_::_,[],_=>rfl
 |x::a,y::b,h=>by
  unfold SO.lxL;by_cases e:x=y
  ·subst e;rw[if_pos rfl,if_pos rfl];exact FJ a b fun z=>h (by rw[z])
  ·rw[if_neg e,if_neg (Ne.symm e)];exact KS x y e
def ltP(a b:List Pt):Bool:=SO.lxL (a.map key) (b.map key)
theorem tI:∀{a b:List Pt},a.map key=b.map key→a=b
 |[],[],_=>rfl
 |[],_::_,h=>by cases h
 |_::_,[],h=>by cases h
 |x::a,y::b,h=>by
  injection h with h1 h2;rw[AL h1,tI h2]
theorem KW:GR.Lt ltP:=⟨fun a b h=>FJ _ _ fun z=>h (tI z)⟩
def LsI(H:Hp)(a:Addr)(F:List (List Pt)):Prop:=∃rr:List Addr,H a=some (.lst (rr.map V.ref))∧rr.length=F.length∧a∉rr∧∀(i:Nat) r,F[i]?=some r→∃x,rr[i]?=some x∧TsI H x r
theorem LsI.same{H H':Hp}{a:Addr}{F:List (List Pt)}(h:LsI H a F)(g:aO H H'):LsI H' a F:=by
 obtain⟨rr,h1,h2,h3,h4⟩:=h;exact⟨rr,g _ _ h1,h2,h3,fun i r e=>let⟨x,q1,q2⟩:=h4 i r e;⟨x,q1,q2.same g⟩⟩
theorem TsI.other'{H:Hp}{a o:Addr}{ts:List Pt}(h:TsI H a ts){xs:List V}(ho:H o=some (.lst xs))(ne:a≠o)(u:HO):TsI (upd H o u) a ts:=by
 obtain⟨tr,h1,h2,h3⟩:=h;exact⟨tr,by rw[aP ne];exact h1,h2,fun i t e=>let⟨r,q1,q2⟩:=h3 i t e;⟨r,q1,by rw[aP (show r≠o from fun z=>by rw[z,ho]at q2;cases q2)];exact q2⟩⟩
theorem LsI.insert{H:Hp}{D x:Addr}{F:List (List Pt)}{rr:List Addr}{r:List Pt}(h1:H D=some (.lst (rr.map V.ref)))(h2:rr.length=F.length)(h3:D∉rr)(h4:∀(i:Nat) r,F[i]?=some r→∃x,rr[i]?=some x∧TsI H x r)(hr:TsI H x r)(xD:x≠D){k:Nat}(hk:k≤F.length):LsI (upd H D (.lst (dH (rr.map V.ref) k (.ref x)))) D (dH F k r):=by
 have ge:∀{α:Type}{l:List α}{x:α}(i:Nat),k≤l.length→(dH l k x)[i]?=if i<k then l[i]? else if i=k then some x else l[i-1]?:=fun {α l x} i hl=>ST.qJ hl x i
 have em:dH (rr.map V.ref) k (V.ref x)=(dH rr k x).map V.ref:=by unfold dH;simp[List.map_take,List.map_drop]
 refine⟨dH rr k x,by rw[em];exact aB,?_,fun z=>?_,fun i s e=>?_⟩
 ·have l1:=ST.iM rr k x;have l2:=ST.iM F k r;show(ST.cX rr k x).length=(ST.cX F k r).length
  lia
 ·rcases ST.jW.mp z with z | z
  ·exact xD z.symm
  ·exact h3 z
 ·rw[ge i hk]at e;rw[ge i (by lia)];have kp:∀{y:Addr}{s:List Pt}{i:Nat},rr[i]?=some y→TsI H y s→TsI (upd H D (.lst (dH (rr.map V.ref) k (.ref x)))) y s:=fun hy ht=>ht.other' h1 (fun z=>h3 (z▸Zg hy)) _;by_cases c1:i<k
  ·rw[if_pos c1]at e ⊢;obtain⟨y,e1,e2⟩:=h4 i s e;exact⟨y,e1,kp e1 e2⟩
  ·rw[if_neg c1]at e ⊢;by_cases c2:i=k
   ·rw[if_pos c2]at e ⊢;cases e;exact⟨x,rfl,hr.other' h1 xD _⟩
   ·rw[if_neg c2]at e ⊢;obtain⟨y,e1,e2⟩:=h4 (i-1) s e;exact⟨y,e1,kp e1 e2⟩
theorem TsI.xs{K:PySem.W.Frag}{H:Hp}{a:Addr}{r:List Pt}(h:TsI H a r):∃xs:ST.Xs,H a=some (.lst (xs.map fun x=>V.ref x.2))∧xs.map (·.1)=r.map key∧(∀x∈xs,SqT K H x.2 (x.1.map V.int))∧xs.length=r.length∧∀(i:Nat) p,r[i]?=some p→∃x,xs[i]?=some x∧PtA H x.2 p:=by
 obtain⟨tr,h1,h2,h3⟩:=h;have l2:(r.map key).length=tr.length:=by rw[Zq,h2]
 have m2:((r.map key).zip tr).map (·.2)=tr:=List.map_snd_zip (by lia);have at_:∀(i:Nat) p,r[i]?=some p→∃x,((r.map key).zip tr)[i]?=some x∧x.1=key p∧PtA H x.2 p:=fun i p e=>by
  obtain⟨x,q1,q2⟩:=h3 i p e;exact⟨(key p,x),by rw[List.getElem?_zip_eq_some];exact⟨by rw[Zk,e];rfl,q1⟩,rfl,q2⟩
 refine⟨(r.map key).zip tr,?_,List.map_fst_zip (by lia),fun x hx=>?_,by rw[List.length_zip,Zq];lia,fun i p e=>let⟨x,q1,_,q3⟩:=at_ i p e;⟨x,q1,q3⟩⟩
 ·rw[h1];congr 2;rw[show((r.map key).zip tr).map (fun x=>V.ref x.2)=(((r.map key).zip tr).map (·.2)).map V.ref by rw[Yb];rfl,m2]
 ·obtain⟨i,hi,rfl⟩:=Yg.mp hx;have hi':i<r.length:=by rw[List.length_zip,Zq]at hi;lia
  obtain⟨x,q1,q2,q3⟩:=at_ i _ (GR.aK hi');rw[GR.aK hi]at q1;cases q1;rw[q2];exact SqT.of q3
end L2
namespace K75
open PySem L2 PyProof.Rows TX GR
def QQ:Sp:=fun vs H Q _=>∃(sa pl:Addr) (n:Int) (S:Sts) (Pl Ps:List Pt),vs=[.ref sa,.ref pl,.int n]∧SsI H sa S∧TsI H pl Pl∧Pls S Pl∧Pl.length≤10∧(∀a b,Adj S a b→a∈Ps)∧Ps.length≤30∧∀(D:Addr) (F:List (List Pt)) (H':Hp),aO H H'→LsI H' D F→Rows S Pl F→F.length≤40→(∀r∈F,r.length≤32)→Q (.ref D) H'
theorem N4(T:Txt K mg t):cU P w K mg base CX0 3 t.xH t.CU ["_law_steps_here","_law_places_here","_law_number_here"] QQ:=by
 refine T.CI.F.ok x9 (fun vs H Q E h=>?_) (fun cdv A outer s H vs Q E hr h=>?_)
 ·obtain⟨sa,pl,n,S,Pl,Ps,rfl,_⟩:=h;rfl
 obtain⟨sa,pl,n,S,Pl,Ps,rfl,hS,hPl,hP,l10,hPs,l30,q⟩:=h;have nd:=x9.nd;have hu12:(A.deeper (envOfC (ZT "_law_ways") (aR pY) s.heap.objs.size t.xH cdv)).units+12<cLine:=by have:=hr.units;lia
 refine⟨_,(aG (aZ 3 nd (bI aC))
  (aG (cR PassesOwn.never rfl (cD (pv 1)) (aX (i:=4) nd rfl (Or.inl rfl)) (aL (cR PassesOwn.never rfl (cD (bP (oG T) hr T.iP bK (aA (pv 0) (aA (pv 4) aC)))) (aX (i:=5) nd rfl (Or.inl rfl)) (aG (aZ 6 nd (bP (N9 T) hr T.CN bK (aA (pv 0) (aA (pv 1) (aA (pv 4) (aA (pv 5) aC))))))
  (aL (cH (aS (RE hu12) (pv 6) (yN (pv 6) bB bB (bH (iH e8 aE))) (bA _)) (aG (bQ (lI PySem.F.plainAttrs_list PySem.F.slot_list_insert PySem.F.type_list_insert yQ (pv 3) (aA (aM cJ (pv 2) (aM bM (aW aV rfl T.cP PySem.boot_len (aA (pv 3) aC)) aE)) (aA (yO (pv 6) bB bB (bH (aQ aT (bI (aA aE (aA (iH e8 aE) aC))) (aM cJ (aM c8 (pv 2) aE) aE) (fun _ _=>rfl)))) aC))))
  (aL (aZ 2 nd (bP (fY T) hr T.eO bK (aA (pv 2) (aA (aW aV rfl T.cP PySem.boot_len (aA (pv 3) aC)) aC)))))) bG))))))
  (aL (a8 (pv 3))))),?_⟩
 refine⟨(by show 0≤ZW;decide),fun D hD=>?_⟩;have b1:=aH hD (.lst []);obtain⟨pr,p1,p2,p3⟩:=id hPl
 let pf:Pt→List (Option Pt×Option Pt):=fun p=>(nb S p).map fun o=>(some p,some o)
 let Pv1:Nat→L2.St→L2.Hp→Prop:=fun i σ H'=>(∃v2 v4 v5 v6,σ=[some (.ref sa),some (.ref pl),some (.int v2),some (.ref D),v4,v5,v6])∧aO H H'∧∃F Dl,LsI H' D F∧Fd S Pl ltP Dl F∧(∀r∈Dl,En S Pl r)∧Dl.map hd2=(Pl.take i).flatMap pf∧F.length≤4*i∧∀r∈F,r.length≤32
 refine(cL _ rfl pl rfl ⟨_,SqL.of (b1 _ _ p1)⟩ (dR (xs:=pr.map V.ref) Pv1 (aN ⟨_,_,_,_,rfl⟩ b1 ([]) ([]) ⟨[],aB,rfl,by simp,fun i r e=>by simp at e⟩ ⟨ ⟨fun r h=>by simp at h,List.Perm.refl _⟩,fun r h=>by simp at h,rfl,Nat.le_refl _,fun r h=>by simp at h⟩) (fun _ _ _ _ ⟨_,g,_⟩=>SqL.of (g _ _ p1)) ?_ ?_))
 ·rintro i x σ H1 hx ⟨⟨v2,v4,v5,v6,rfl⟩,g1,F0,Dl0,hF0,hf0,he0,hd0,lF0,lr0⟩;obtain⟨p,pa,e1,rfl,e2⟩:=TsI.nth (a:=pl) p2 p3 hx;have hi:i<Pl.length:=(Zj.mp e1).1;have hpm:=Zg e1;refine⟨_,rfl,_,rfl,(aI sa pa S p rfl ⟨ hS.same g1,g1 _ _ e2,fun B H2 g2 hB hnb=>?_⟩)⟩;obtain⟨br,b1',b2',b3'⟩:=hnb;have g12:=g1.trans g2;have nBD:B≠D:=fun z=>by
   obtain⟨rr,h1,_⟩:=hF0;rw[z,h1]at hB;cases hB
  have nl:=vU S p
  let Pv2:Nat→L2.St→L2.Hp→Prop:=fun j σ H'=>(∃v2 v5 v6,σ=[some (.ref sa),some (.ref pl),some (.int v2),some (.ref D),some (.ref pa),v5,v6])∧aO H H'∧H' B=some (.lst (br.map V.ref))∧(∀(k:Nat) z,(nb S p)[k]?=some z→∃r,br[k]?=some r∧PtA H' r z)∧∃F Dl,LsI H' D F∧Fd S Pl ltP Dl F∧(∀r∈Dl,En S Pl r)∧Dl.map hd2=(Pl.take i).flatMap pf++((nb S p).take j).map (fun o=>(some p,some o))∧F.length≤4*i+j∧∀r∈F,r.length≤32
  refine⟨B,rfl,⟨_,SqL.of b1'⟩,dR (xs:=br.map V.ref) Pv2 ⟨⟨_,_,_,rfl⟩,g12,(aN b1' b3' F0 Dl0 (hF0.same g2) ⟨ hf0,he0,by rw[List.take_zero];simpa using hd0,by lia,lr0⟩)⟩ (fun _ _ _ _ ⟨_,_,e,_⟩=>SqL.of e) ?_ ?_⟩
  ·rintro j x σ H3 hx ⟨⟨v2,v5,v6,rfl⟩,g3,hB3,hB3',F,Dl,hF,hf,he,hd,lF,lr⟩;obtain⟨o,oa,f1,rfl,f2⟩:=TsI.nth (a:=B) b2' hB3' hx;have hj:j<(nb S p).length:=(Zj.mp f1).1;have hAdj:=(dY hP.u).mp (Zg f1);refine⟨_,(bJ rfl _ rfl _ rfl ⟨ _,rfl,(dB sa pl pa oa S (aI Pl Ps p o rfl (bF (hS.same g3) (hPl.same g3) (g3 _ _ e2) f2 hP ⟨ hpm,hAdj,hPs,l30,fun R r H4 g4 hR hr4 hEn r0 r1 l32=>?_⟩)))⟩)⟩;have hF4:=hF.same g4;have nRD:R≠D:=fun z=>by
    obtain⟨rr,h1,_⟩:=hF;rw[z,h1]at hR;cases hR
   have hdN:(Dl++[r]).map hd2=(Pl.take i).flatMap pf++((nb S p).take (j+1)).map (fun o=>(some p,some o)):=by
    rw[Zt,hd,List.take_add_one,f1,Zt,Yf];show _++(_++[(r[0]?,r[1]?)])=_;rw[r0,r1];rfl
   have heN:∀r'∈Dl++[r],En S Pl r':=fun r' h=>by
    rcases Zf.mp h with h | h
    ·exact he r' h
    ·rw[Zb.mp h];exact hEn
   have b4:∀(k:Nat) z,(nb S p)[k]?=some z→∃r,br[k]?=some r∧PtA H4 r z:=fun k z e=>let⟨r,a,b⟩:=hB3' k z e;⟨r,a,g4 _ _ b⟩;obtain⟨xs,x1,x2,x3,x4,x5⟩:=TsI.xs (K:=K) hr4;refine⟨_,(bJ rfl _ rfl _ rfl ⟨ _,(cF rfl R _ 0 rfl ⟨ SqL.of x1,rfl,rfl,.inl ⟨rfl,rfl⟩,fun B2 hB2=>?_⟩)⟩)⟩;have k1:=aH hB2 (.lst ((xs.map fun x=>V.ref x.2).drop 0).reverse);have er:((xs.map fun x=>V.ref x.2).drop 0).reverse=xs.reverse.map fun x=>V.ref x.2:=by rw[List.drop_zero,List.map_reverse]
   rw[er]at k1;rw[er];refine(aI R B2 xs xs.reverse rfl (bF rfl (SqL.of (k1 _ _ x1)) (SqL.of aB) (fun x hx=>k1.tup (x3 x hx)) (fun x hx=>k1.tup (x3 x (List.mem_reverse.mp hx))) ⟨ _,rfl,?_⟩));have el:SO.lxL (xs.map (·.1)) (xs.reverse.map (·.1))=ltP r r.reverse:=by
    unfold ltP;rw[List.map_reverse,x2,List.map_reverse]
   rw[el];refine cO (fun c=>?_) (fun c=>?_)
   ·obtain⟨k,hk⟩:∃k:Nat,v2 / 64%2=(k:Int)∧k<2:=⟨(v2 / 64%2).toNat,by lia,by lia⟩
    obtain⟨rr,h1,h2,h3,h4⟩:=hF4.same k1;obtain⟨m,hm⟩:=Xx (Xv v2 (show((((rr.map V.ref).length:Nat):Int)+1)≠0 by lia));have hm2:=Xw v2 (show(0:Int)<(((rr.map V.ref).length:Nat):Int)+1 by lia);have ml:m≤rr.length:=by rw[hm,Zq]at hm2;lia
    refine(bE _ rfl (.inl ⟨rfl,_,SqL.of h1⟩) _ rfl (aJ _ rfl D _ rfl (bN (.inl (SqL.of h1)) _ _ rfl rfl (a9 _ _ rfl rfl ?_ (cL _ rfl _ rfl (by show 2≤ZW;decide) (fun l2 hl2=>?_))))))
    ·show(0:Int)<(((rr.map V.ref).length:Nat):Int)+1
     lia
    have k2:=aH hl2 (.lst [V.int 1,V.int (-1)]);obtain⟨sg,hsg,hsg2⟩:∃sg:Int,atI [V.int 1,V.int (-1)] (v2 / 64%2)=some (.int sg)∧(sg=1∨sg = -1):=by
     rw[hk.1]
     match k,hk.2 with
     |0,_=>exact⟨1,rfl,.inl rfl⟩
     |1,_=>exact⟨-1,rfl,.inr rfl⟩
    have k12:=k1.trans k2;refine(aJ _ rfl _ _ rfl (aN rfl ⟨by decide,by decide⟩ _ _ rfl ⟨ rfl,(by show(0:Int)<2;decide),(aI l2 _ _ _ rfl (aU rfl (SqL.of aB) hsg sg rfl (cQ R _ sg rfl (SqL.of (k12 _ _ x1)) ⟨ rfl,rfl,rfl,hsg2,fun N3 hN3=>?_⟩)))⟩));have k3:=aH hN3 (.lst (if sg=1 then xs.map (fun x=>V.ref x.2) else (xs.map fun x=>V.ref x.2).reverse));have k13:=k12.trans k3
    let r':List Pt:=if sg=1 then r else r.reverse
    have hr':r'=r∨r'=r.reverse:=by show(if sg=1 then r else r.reverse)=r∨(if sg=1 then r else r.reverse)=r.reverse;split<;>simp
    have hN:TsI (upd (upd (upd H4 B2 (.lst (xs.reverse.map fun x=>V.ref x.2))) l2 (.lst [V.int 1,V.int (-1)])) N3 (.lst (if sg=1 then xs.map (fun x=>V.ref x.2) else (xs.map fun x=>V.ref x.2).reverse))) N3 r':=by
     rcases hsg2 with e | e
     ·subst e;refine⟨xs.map (·.2),by rw[aB,Yb];rfl,by rw[Zq,x4];rfl,fun i' z e=>?_⟩;obtain⟨x,q1,q2⟩:=x5 i' z e;exact⟨x.2,by rw[Zk,q1];rfl,k13 _ _ q2⟩
     ·subst e;refine⟨(xs.map (·.2)).reverse,by rw[aB,List.map_reverse,Yb];rfl,by rw[Yt,Zq,x4];show r.length=r.reverse.length;rw[Yt],fun i' z e=>?_⟩;have e:r.reverse[i']?=some z:=e;have hi':i' < r.length:=by simpa using(Zj.mp e).1
      rw[Yd hi']at e;obtain⟨x,q1,q2⟩:=x5 _ z e;refine⟨x.2,?_,k13 _ _ q2⟩;rw[Yd (by rw[Zq,x4];exact hi'),Zq,x4,Zk,q1];rfl
    have h1':=(k2.trans k3) _ _ h1;have nND:N3≠D:=fun z=>by
     have:=k2 _ _ h1;rw[←z,hN3]at this;cases this
    have hB5:=k13 _ _ (g4 _ _ hB3);refine(aI D _ m (.ref N3) rfl ⟨ ?_,h1',by rw[Zq];exact ml,by rw[Zq,h2];exact Xq (by lia:F.length≤100) (by decide),?_⟩)
    ·exact congrArg (fun z=>[V.int z,V.ref N3]) hm
    have ins:=LsI.insert h1' h2 h3 (fun i' r'' e=>let⟨x,a,b⟩:=h4 i' r'' e;⟨x,a,b.same (k2.trans k3)⟩) hN nND (k:=m) (by lia);have gN:=((g3.trans g4).trans k13).fresh hD (.lst (dH (rr.map V.ref) m (.ref N3)));have tn:∀{b:Addr}{ys:List V},upd (upd (upd H4 B2 (.lst (xs.reverse.map fun x=>V.ref x.2))) l2 (.lst [V.int 1,V.int (-1)])) N3 (.lst (if sg=1 then xs.map (fun x=>V.ref x.2) else (xs.map fun x=>V.ref x.2).reverse)) b=some (.tup ys)→b≠D:=fun hb z=>by rw[z,h1']at hb;cases hb
    have hB6:=(aP (o:=.lst (dH (rr.map V.ref) m (.ref N3))) nBD).trans hB5;have b6:∀(k:Nat) z,(nb S p)[k]?=some z→∃r,br[k]?=some r∧PtA (upd (upd (upd (upd H4 B2 (.lst (xs.reverse.map fun x=>V.ref x.2))) l2 (.lst [V.int 1,V.int (-1)])) N3 (.lst (if sg=1 then xs.map (fun x=>V.ref x.2) else (xs.map fun x=>V.ref x.2).reverse))) D (.lst (dH (rr.map V.ref) m (.ref N3)))) r z:=fun k z e=>let⟨r,a,b⟩:=b4 k z e;⟨r,a,by rw[PtA,aP (tn (k13 _ _ b))];exact k13 _ _ b⟩;have hFN:=hf.put KW hP hEn c hr' (AW.qI F m r');generalize upd (upd (upd (upd H4 B2 (.lst (xs.reverse.map fun x=>V.ref x.2))) l2 (.lst [V.int 1,V.int (-1)])) N3 (.lst (if sg=1 then xs.map (fun x=>V.ref x.2) else (xs.map fun x=>V.ref x.2).reverse))) D (.lst (dH (rr.map V.ref) m (.ref N3)))=H9 at ins gN hB6 b6 ⊢;obtain⟨rr',i1,i2,i3,i4⟩:=id ins;have il:(dH F m r').length=F.length+1:=(AW.qI F m r').length_eq;refine⟨_,rfl,(aJ _ rfl D _ rfl (bN (.inl (SqL.of i1)) v2 _ rfl (by lia) ⟨ ?_,fun v2' _ _=>⟨⟨_,_,_,rfl⟩,gN,(aN hB6 b6 _ _ ins ⟨ hFN,heN,hdN,by rw[il];lia,fun r'' h=>?_⟩)⟩⟩))⟩
    ·rw[Zq,i2,il];lia
    ·rcases Zn.mp ((AW.qI F m r').mem_iff.mp h) with rfl | h
     ·rcases hr' with z | z<;>rw[z]
      ·exact l32
      ·rw[Yt];exact l32
     ·exact lr r'' h
   ·refine⟨⟨_,_,_,rfl⟩,(g3.trans g4).trans k1,(aN (k1 _ _ (g4 _ _ hB3)) (fun k z e=>let⟨r,a,b⟩:=b4 k z e;⟨r,a,k1 _ _ b⟩) F (Dl++[r]) (hF4.same k1) ⟨ hf.skip (by simpa using c),heN,hdN,by lia,lr⟩)⟩
  ·rintro σ H3 ⟨⟨v2,v5,v6,rfl⟩,g3,_,_,F,Dl,hF,hf,he,hd,lF,lr⟩;rw[Zq,b2']at lF hd;refine(aN ⟨_,_,_,_,rfl⟩ g3 F Dl hF ⟨ hf,he,?_,by lia,lr⟩);rw[hd,Yw,List.take_add_one,e1,List.flatMap_append];show _=_++List.flatMap pf [p];simp[pf]
 ·rintro σ H1 ⟨⟨v2,v4,v5,v6,rfl⟩,g1,F,Dl,hF,hf,he,hd,lF,lr⟩;rw[Zq,p2]at lF hd;rw[Yw]at hd;exact⟨_,rfl,q D F _ g1 hF (hf.rows KW hP ⟨he,hd⟩) (by lia) lr⟩
end K75
namespace L2
open PySem PySem.Spec PyProof.Rows GR
theorem FZ:∀a b:List Pt,PyData.eqvAll (a.map dP) (b.map dP)=decide (a=b)
 |[],[]=>rfl
 |[],_::_=>rfl
 |_::_,[]=>rfl
 |x::a,y::b=>by
  show(PyData.eqv (dP x) (dP y)&&PyData.eqvAll (a.map dP) (b.map dP))=_;rw[pM,FZ a b,Xg];simp
theorem F3(a b:List Pt):PyData.eqv (.list (a.map dP)) (.list (b.map dP))=decide (a=b):=FZ a b
theorem zW(a:List Pt):SeqAt.shaped (.list (a.map dP))=true:=by
 have this:PyData.canLayAll0 (a.map dP)=true∧PyData.depthAll (a.map dP)≤4:=jB 4 fun d hd=>by
  obtain⟨z,_,rfl⟩:=Zh.mp hd;exact⟨rfl,by simp[dP,PyData.depth,PyData.depthAll]⟩
 unfold SeqAt.shaped;rw[Xy];refine⟨this.1,decide_eq_true ?_⟩;show PyData.depthAll (a.map dP)+1≤64;have:=this.2
 lia
theorem TsI.bd{K:PySem.W.Frag}{H:Hp}{a:Addr}{r:List Pt}(h:TsI H a r):Bd K H (.ref a) (.list (r.map dP)):=let⟨_,h1,h2,h3⟩:=h;.lst (SqL.of h1) (TsI.bds h2 h3)
theorem TsI.cut{H:Hp}{a D:Addr}{r:List Pt}{xs:List V}(h:TsI H a r)(ha:H a=some (.lst xs))(hD:H D=none)(k:Nat):TsI (upd H D (.lst (fF xs none (some (k:Int))))) D (r.take k):=by
 obtain⟨tr,h1,h2,h3⟩:=h;rw[ha]at h1;cases h1;have g:=aH hD (.lst (fF (tr.map V.ref) none (some (k:Int))));refine⟨tr.take k,by rw[aB,kW,List.map_take],by rw[Yx,Yx,h2],fun i p e=>?_⟩;have hi:i<k:=by have:=(Zj.mp e).1;rw[Yx]at this;lia
 rw[List.getElem?_take_of_lt hi]at e;obtain⟨x,q1,q2⟩:=h3 i p e;exact⟨x,by rw[List.getElem?_take_of_lt hi];exact q1,g _ _ q2⟩
theorem TsI.back{H:Hp}{a D:Addr}{r:List Pt}{xs:List V}(h:TsI H a r)(ha:H a=some (.lst xs))(hD:H D=none):TsI (upd H D (.lst (xs.drop 0).reverse)) D r.reverse:=by
 obtain⟨tr,h1,h2,h3⟩:=h;rw[ha]at h1;cases h1;have g:=aH hD (.lst ((tr.map V.ref).drop 0).reverse);refine⟨tr.reverse,by rw[aB,List.drop_zero,List.map_reverse],by rw[Yt,Yt,h2],fun i p e=>?_⟩;have hi:i<r.length:=by simpa using(Zj.mp e).1
 rw[Yd hi]at e;obtain⟨x,q1,q2⟩:=h3 _ p e;exact⟨x,by rw[Yd (by lia),h2];exact q1,g _ _ q2⟩
def OsN(H:Hp)(a:Addr)(os:AW.Os):Prop:=∃tr:List Addr,H a=some (.lst (tr.map V.ref))∧tr.length=os.length∧a∉tr∧∀(i:Nat) l,os[i]?=some l→∃r,tr[i]?=some r∧H r=some (.lst (l.map V.int))
theorem OsN.same{H H':Hp}{a:Addr}{os:AW.Os}(h:OsN H a os)(g:aO H H'):OsN H' a os:=let⟨tr,h1,h2,h3,h4⟩:=h;⟨tr,g _ _ h1,h2,h3,fun i l e=>let⟨r,a,b⟩:=h4 i l e;⟨r,a,g _ _ b⟩⟩
theorem OsN.push{H:Hp}{a x:Addr}{os:AW.Os}{xs:List V}(h:OsN H a os)(ha:H a=some (.lst xs)){l:List Int}(hx:H x=some (.lst (l.map V.int)))(xa:x≠a):OsN (upd H a (.lst (xs++[.ref x]))) a (os++[l]):=by
 obtain⟨tr,h1,h2,h3,h4⟩:=h;rw[ha]at h1;cases h1;refine⟨tr++[x],by rw[Zt];exact aB,by simp[h2],fun z=>?_,fun i l' e=>?_⟩
 ·rcases Zf.mp z with z | z
  ·exact h3 z
  ·exact xa (Zb.mp z).symm
 ·by_cases c:i<os.length
  ·rw[Zx c]at e;obtain⟨r,q1,q2⟩:=h4 i l' e;exact⟨r,by rw[Zx (by lia)];exact q1,by rw[aP (show r≠a from fun z=>h3 (z▸Zg q1))];exact q2⟩
  ·have hi:=(Zj.mp e).1;simp at hi;have:i=os.length:=by lia
   subst this;rw[Zy (Nat.le_refl _),Nat.sub_self]at e;cases e;exact⟨x,by rw[Zy (by lia),h2,Nat.sub_self];rfl,by rw[aP xa];exact hx⟩
end L2
namespace K75
open PySem L2 PyProof.Rows TX GR
def upTo(F:List (List Pt))(p o:Pt)(m:Nat):List Nat:=(List.range m).filter fun e=>decide ((wy F e).take 2=[p,o])
theorem IQ(F:List (List Pt))(p o:Pt){k:Nat}(hk:k<F.length):upTo F p o (2*(k+1))=upTo F p o (2*k)++(if F[k].take 2=[p,o] then [2*k] else [])++(if F[k].reverse.take 2=[p,o] then [2*k+1] else []):=by
 unfold upTo;rw[show 2*(k+1)=2*k+1+1 by lia,List.range_succ,List.range_succ,List.filter_append,List.filter_append];congr 1
 ·congr 1;rw[List.filter_cons,zP hk,List.filter_nil];by_cases c:F[k].take 2=[p,o]
  ·rw[if_pos (decide_eq_true c),if_pos c]
  ·rw[if_neg (by rw[decide_eq_true_iff];exact c),if_neg c]
 ·rw[List.filter_cons,DQ hk,List.filter_nil];by_cases c:F[k].reverse.take 2=[p,o]
  ·rw[if_pos (decide_eq_true c),if_pos c]
  ·rw[if_neg (by rw[decide_eq_true_iff];exact c),if_neg c]
def vnI(l:List Nat):List V:=(l.map fun e:Nat=>(e:Int)).map V.int
def M7:Sp:=fun vs H Q _=>∃(sa pl ra:Addr) (n:Int) (S:Sts) (Pl:List Pt) (F:List (List Pt)),vs=[.ref sa,.ref pl,.ref ra,.int n]∧SsI H sa S∧TsI H pl Pl∧LsI H ra F∧Pls S Pl∧Rows S Pl F∧Pl.length≤10∧∀(r:Addr) (os:AW.Os) (H':Hp),aO H H'→ET H' r (Pl.length:Int) (tsO Pl F) os→os.length=Pl.length→(∀(i:Nat) p o,Pl[i]?=some p→os[i]?=some o→o.Perm ((og S F p).map fun e:Nat=>(e:Int)))→Q (.ref r) H'
theorem KF(T:Txt K mg t):cU P w K mg base CX0 2 t.zM t.zA ["_law_steps_here","_law_places_here","_law_rows","_law_number_here"] M7:=by
 refine T.yV.F.ok u6 (fun vs H Q E h=>?_) (fun cdv A outer s H vs Q E hr h=>?_)
 ·obtain⟨sa,pl,ra,n,S,Pl,F,rfl,_⟩:=h;rfl
 obtain⟨sa,pl,ra,n,S,Pl,F,rfl,hS,hPl,hF,hP,hR,l10,q⟩:=h;have nd:=u6.nd;have hu64:=hr.units;have nd_l_row_l_places_here:(["_law_row","_law_places_here"]:List Str).Nodup:=by decide
 refine⟨_,(aG (aZ 4 nd (bI aC))
  (aG (cR PassesOwn.never rfl (cD (pv 1)) (aX (i:=5) nd rfl (Or.inl rfl)) (aG (aZ 6 nd (bI aC))
  (aG (cR PassesOwn.never rfl (cD (bP (oG T) hr T.iP bK (aA (pv 0) (aA (pv 5) aC)))) (aX (i:=7) nd rfl (Or.inl rfl)) (aL (cR PassesOwn.never rfl (AD rfl T.lM (aA (pv 2) aC)) (mE rfl (b8 (aX (i:=8) nd rfl (Or.inl rfl)) (b8 (aX (i:=9) nd rfl (Or.inl rfl)) e7))) (aG (cH (aS (mG hr.units) (bC cC (pv 9) bB (bH aE)) (bI (aA (pv 5) (aA (pv 7) aC))) (bA _)) (aL (bQ (dE mAp bR (pv 6) (aA (aM cW aE (pv 8)) aC)))) bG)
  (aL (cH (aS (mG hr.units) (bC cC (yN (pv 9) bB bB (bH (iH e8 aE))) bB (bH aE)) (bI (aA (pv 5) (aA (pv 7) aC))) (bA _)) (aL (bQ (dE mAp bR (pv 6) (aA (aM bM (aM cW aE (pv 8)) aE) aC)))) bG))))))
  (aG (aZ 10 nd (aM cJ (pv 3) (aW aV rfl T.cP PySem.boot_len (aA (pv 6) aC))))
  (aG (aZ 3 nd (aM c8 (pv 3) aE))
  (aL (bQ (dE mAp bR (pv 4) (aA (aM dQ (bC cC (pv 6) (bH (pv 10)) bB) (bC cC (pv 6) bB (bH (pv 10)))) aC)))))))))
  (aL (a8 (cS (aA (aW aV rfl T.cP PySem.boot_len (aA (pv 1) aC)) (aA (eN (N':=["_law_row","_law_places_here"]) (js:=[none,some 1]) rfl (cD (pv 2)) (fun _ _ _ _ _=>(aX (i:=0) nd_l_row_l_places_here rfl (Or.inl rfl))) (fun _ _ _ _ _=>fX) (fun _ _ _ _ _=>(cS (aA (EH (K:=K) rfl PySem.F.plainAttrs_list PySem.F.slot_list_index PySem.F.type_list_index (vZ (K:=K) rfl hu64) (pv 1) (aA (aQ (eP (K:=K) rfl) (pv 0) aE (fun _ _=>rfl)) aC)) (aA (EH (K:=K) rfl PySem.F.plainAttrs_list PySem.F.slot_list_index PySem.F.type_list_index (vZ (K:=K) rfl hu64) (pv 1) (aA (aQ (eP (K:=K) rfl) (pv 0) (iH e8 aE) (fun _ _=>rfl)) aC)) aC))))) (aA (pv 4) aC)))))))),?_⟩
 have fw:=few hP hR;have fl:F.length≤20:=by lia
 refine⟨(by show 0≤ZW;decide),fun Or hOr=>?_⟩;have b1:=aH hOr (.lst []);obtain⟨pr,p1,p2,p3⟩:=id hPl;obtain⟨rr,r1,r2,r3,r4⟩:=id hF;dsimp only[bT];refine t7 (fun σ' H'=>(∃v3 v5 v6 v7 v8 v9 v10,σ'=[some (.ref sa),some (.ref pl),some (.ref ra),some (.int v3),some (.ref Or),v5,v6,v7,v8,v9,v10])∧aO H H'∧∃os,OsN H' Or os∧os.length=Pl.length∧∀(i:Nat) p o,Pl[i]?=some p→os[i]?=some o→o.Perm ((og S F p).map fun e:Nat=>(e:Int))) (fun N n1=>?_) ?_
 ·refine(cL _ rfl pl rfl ⟨_,SqL.of (b1 _ _ p1)⟩ (dR (xs:=pr.map V.ref) (fun i σ H'=>(∃v3 v5 v6 v7 v8 v9 v10,σ=[some (.ref sa),some (.ref pl),some (.ref ra),some (.int v3),some (.ref Or),v5,v6,v7,v8,v9,v10])∧aO H H'∧∃os,OsN H' Or os∧os.length=i∧∀(j:Nat) p o,Pl[j]?=some p→os[j]?=some o→o.Perm ((og S F p).map fun e:Nat=>(e:Int))) (fT (dB _ _ _ _ _ ⟨ _,_,rfl⟩) b1 ([]) ⟨[],aB,rfl,by simp,fun i l e=>by simp at e⟩ rfl (fun j p o _ e=>by simp at e)) (fun _ _ _ _ ⟨_,g,_⟩=>SqL.of (g _ _ p1)) ?_ ?_))
  ·rintro i x σ H1 hx ⟨⟨v3,v5,v6,v7,v8,v9,v10,rfl⟩,g1,os,hO,lO,oO⟩;obtain⟨p,pa,e1,rfl,e2⟩:=TsI.nth (a:=pl) p2 p3 hx;have hi:i<Pl.length:=(Zj.mp e1).1;have hpm:=Zg e1;refine⟨(by show 0≤ZW;decide),fun oa hoa=>?_⟩;have k1:=aH hoa (.lst []);have g2:=g1.trans k1;dsimp only[bT];refine t7 (fun σ' H'=>(∃v7 v8 v9 v10,σ'=[some (.ref sa),some (.ref pl),some (.ref ra),some (.int v3),some (.ref Or),some (.ref pa),some (.ref oa),v7,v8,v9,v10])∧aO H1 H'∧H' oa=some (.lst (vnI (og S F p)))) (fun N n2=>?_) ?_
   ·refine⟨_,rfl,_,rfl,(aI sa pa S p rfl ⟨ hS.same g2,g2 _ _ e2,fun B H2 g3 hB hnb=>?_⟩)⟩;obtain⟨br,c1,c2,c3⟩:=hnb;have oa2:=g3 _ _ (aB (H:=H1) (a:=oa) (o:=.lst []));have nBo:B≠oa:=fun z=>by rw[z,aB]at hB;cases hB
    have g23:=k1.trans g3;refine⟨B,rfl,⟨_,SqL.of c1⟩,dR (xs:=br.map V.ref) (fun j σ H'=>(∃v7 v8 v9 v10,σ=[some (.ref sa),some (.ref pl),some (.ref ra),some (.int v3),some (.ref Or),some (.ref pa),some (.ref oa),v7,v8,v9,v10])∧aO H1 H'∧H' B=some (.lst (br.map V.ref))∧(∀(k:Nat) z,(nb S p)[k]?=some z→∃r,br[k]?=some r∧PtA H' r z)∧H' oa=some (.lst (vnI (((nb S p).take j).flatMap fun o=>upTo F p o (2*F.length))))) ⟨⟨_,_,_,_,rfl⟩,g23,c1,c3,by rw[List.take_zero];exact oa2⟩ (fun _ _ _ _ ⟨_,_,e,_⟩=>SqL.of e) ?_ ?_⟩
    ·rintro j x σ H3 hx ⟨⟨v7,v8,v9,v10,rfl⟩,g4,hB3,hB3',ho3⟩;obtain⟨o,ob,f1,rfl,f2⟩:=TsI.nth (a:=B) c2 hB3' hx;have hj:j<(nb S p).length:=(Zj.mp f1).1;have nl:=vU S p;have tk:(nb S p).take (j+1)=(nb S p).take j++[o]:=by rw[List.take_add_one,f1];rfl
     refine(cL _ rfl ra rfl ⟨_,SqL.of (g4 _ _ (g1 _ _ r1))⟩ (wI (K:=K) (a:=ra) (xs:=rr.map V.ref) (fun k σ H'=>(∃v8 v9 v10,σ=[some (.ref sa),some (.ref pl),some (.ref ra),some (.int v3),some (.ref Or),some (.ref pa),some (.ref oa),some (.ref ob),v8,v9,v10])∧aO H1 H'∧H' B=some (.lst (br.map V.ref))∧(∀(k:Nat) z,(nb S p)[k]?=some z→∃r,br[k]?=some r∧PtA H' r z)∧PtA H' ob o∧H' oa=some (.lst (vnI ((((nb S p).take j).flatMap fun o=>upTo F p o (2*F.length))++upTo F p o (2*k))))) (bF ⟨_,_,_,rfl⟩ g4 hB3 hB3' f2 (by rw[show upTo F p o (2*0)=[] from rfl,List.append_nil];exact ho3)) (fun _ _ _ _ ⟨_,g,_⟩=>SqL.of (g _ _ (g1 _ _ r1))) ?_ ?_))
     ·rintro k x σ H4 Tp hx ⟨⟨v8,v9,v10,rfl⟩,g5,hB4,hB4',f4,ho4⟩ hTp;obtain⟨r,xa,q1,rfl,q2⟩:∃r xa,F[k]?=some r∧x=.ref xa∧TsI H xa r:=by
       rw[Zk]at hx;have hk:k<rr.length:=by
        cases e:rr[k]? with
        |none=>rw[e]at hx;cases hx
        |some z=>exact(Zj.mp e).1
       obtain⟨xa,a,b⟩:=r4 k _ (GR.aK (by lia));rw[a]at hx;exact⟨_,xa,GR.aK (by lia),(Option.some.inj hx).symm,b⟩
      have hk:k<F.length:=(Zj.mp q1).1;have er:F[k]=r:=Option.some.inj ((GR.aK hk).symm.trans q1);have m1:=aH hTp (.tup [vn k,.ref xa]);refine(a9 Tp _ rfl (SqT.of aB) rfl ⟨ _,(aJ _ rfl _ _ rfl ⟨ rfl,?_⟩)⟩);have g6:=g5.trans m1;have hB5:=m1 _ _ hB4;have hB5':∀(k':Nat) z,(nb S p)[k']?=some z→∃r,br[k']?=some r∧PtA (upd H4 Tp (.tup [vn k,.ref xa])) r z:=fun k' z e=>let⟨r,a,b⟩:=hB4' k' z e;⟨r,a,m1 _ _ b⟩;have f5:=m1 _ _ f4;have ho5:=m1 _ _ ho4;generalize upd H4 Tp (.tup [vn k,.ref xa])=H5 at g6 hB5 hB5' f5 ho5 ⊢;have base_len:(((nb S p).take j).flatMap fun o=>upTo F p o (2*F.length)).length≤160:=by
       have key:∀l:List Pt,(l.flatMap fun o=>upTo F p o (2*F.length)).length≤40*l.length:=by
        intro l;induction l with
        |nil=>exact Nat.le_refl _
        |cons a l ih =>
         rw[List.flatMap_cons,Zm,Yq];have:(upTo F p a (2*F.length)).length≤2*F.length:=by
          unfold upTo;refine YQ (List.length_filter_le _ _) ?_;rw[Yj];exact Nat.le_refl _
         lia
       refine YQ (key _) ?_;rw[Yx];lia
      have up_len:(upTo F p o (2*k)).length≤2*k:=by
       unfold upTo;refine YQ (List.length_filter_le _ _) ?_;rw[Yj];exact Nat.le_refl _
      generalize hbase:(((nb S p).take j).flatMap fun o=>upTo F p o (2*F.length))=bs at base_len ho5 ⊢;have szl:∀l:List Nat,l.length≤500→(vnI l).length<ZW:=fun l hl=>by unfold vnI;rw[Zq,Zq];exact Xq hl (by decide)
      let Good:Hp→List Nat→Prop:=fun H' l=>aO H1 H'∧H' B=some (.lst (br.map V.ref))∧(∀(k':Nat) z,(nb S p)[k']?=some z→∃r,br[k']?=some r∧PtA H' r z)∧PtA H' ob o∧H' oa=some (.lst (vnI l))
      have push:∀{H6:Hp}{l:List Nat}(e:Nat),Good H6 l→Good (upd H6 oa (.lst (vnI l++[.int (e:Int)]))) (l++[e]):=fun {H6 l} e ⟨a1,a2,a3,a4,a5⟩=>by
       have tn:∀{b:Addr}{ys:List V},H6 b=some (.tup ys)→b≠oa:=fun hb z=>by rw[z,a5]at hb;cases hb
       refine⟨a1.fresh hoa _,by rw[aP nBo];exact a2,fun k' z ee=>let⟨r,a,b⟩:=a3 k' z ee;⟨r,a,by rw[PtA,aP (tn b)];exact b⟩,by rw[PtA,aP (tn a4)];exact a4,?_⟩;rw[aB];unfold vnI;rw[Zt,Zt];rfl
      have keep:∀{H6 H7:Hp}{l:List Nat},aO H6 H7→Good H6 l→Good H7 l:=fun g ⟨a1,a2,a3,a4,a5⟩=>⟨a1.trans g,g _ _ a2,fun k' z ee=>let⟨r,a,b⟩:=a3 k' z ee;⟨r,a,g _ _ b⟩,g _ _ a4,g _ _ a5⟩
      have G5:Good H5 (bs++upTo F p o (2*k)):=⟨g6,hB5,hB5',f5,ho5⟩
      have rowAt:∀{H6:Hp}{l:List Nat},Good H6 l→TsI H6 xa r:=fun ⟨a1,_⟩=>(q2.same g1).same a1;refine t7 (fun σ' H'=>σ'=[some (.ref sa),some (.ref pl),some (.ref ra),some (.int v3),some (.ref Or),some (.ref pa),some (.ref oa),some (.ref ob),some (vn k),some (.ref xa),v10]∧Good H' (bs++upTo F p o (2*k)++if r.take 2=[p,o] then [2*k] else [])) (fun N n3=>?_) ?_
      ·obtain⟨xs,xe⟩:∃xs,H5 xa=some (.lst xs):=let⟨tr,h,_⟩:=rowAt G5;⟨_,h⟩;refine⟨_,rfl,(aJ _ rfl xa xs rfl ⟨ SqL.of xe,fun t1 ht1=>?_⟩)⟩;have s1:=aH ht1 (.lst (fF xs none (some 2)));have c1':=TsI.cut (rowAt G5) xe ht1 2;refine(cL _ rfl _ rfl (by show 2≤ZW;decide) (fun t2 ht2=>?_));have s2:=aH ht2 (.lst [.ref pa,.ref ob]);have s12:=s1.trans s2;have c2':TsI (upd (upd H5 t1 (.lst (fF xs none (some 2)))) t2 (.lst [.ref pa,.ref ob])) t2 [p,o]:=⟨[pa,ob],aB,rfl,fun i z e=>by
        match i with
        |0=>cases e;exact⟨pa,rfl,s12 _ _ (g6 _ _ (g1 _ _ e2))⟩
        |1=>cases e;exact⟨ob,rfl,s12 _ _ f5⟩
        |i+2=>simp at e⟩
       refine(a9 _ _ ((c1'.same s2).bd) c2'.bd (zW _) ⟨ zW _,_,rfl,?_⟩);rw[F3,Bool.xor_false];refine cO (fun c=>?_) (fun c=>?_)
       ·have c:=of_decide_eq_true c;have G6:=keep s12 G5;refine(bE _ rfl (.inl ⟨rfl,_,SqL.of G6.2.2.2.2⟩) _ rfl (a9 _ _ rfl rfl (.inl ⟨by decide,by decide⟩) (cQ oa _ _ rfl rfl ⟨ G6.2.2.2.2,szl _ (by rw[Zm];lia),n3 _ _ ⟨rfl,?_⟩⟩)));have:=push (2*k) G6;rw[if_pos c];exact this
       ·have c:¬r.take 2=[p,o]:=fun z=>c (decide_eq_true z);refine n3 _ _ ⟨rfl,?_⟩;rw[if_neg c,List.append_nil];exact keep s12 G5
      rintro σ' H6 ⟨rfl,G6⟩;generalize hb2:bs++upTo F p o (2*k)++(if r.take 2=[p,o] then [2*k] else [])=bs2 at G6;have l2:bs2.length≤400:=by
       rw[←hb2,Zm,Zm];have:(if r.take 2=[p,o] then [2*k] else []).length≤1:=by split<;>simp
       lia
      have fin:∀{l:List Nat}{H':Hp},Good H' l→l=bs2++(if r.reverse.take 2=[p,o] then [2*k+1] else [])→aO H1 H'∧H' B=some (.lst (br.map V.ref))∧(∀(k':Nat) z,(nb S p)[k']?=some z→∃r,br[k']?=some r∧PtA H' r z)∧PtA H' ob o∧H' oa=some (.lst (vnI (bs++upTo F p o (2*(k+1))))):=fun {l H'} G e=>by
       have:bs++upTo F p o (2*(k+1))=l:=by
        rw[IQ F p o hk,er,e,←hb2];simp only[Yf]
       rw[this];exact G
      obtain⟨xs,xe⟩:∃xs,H6 xa=some (.lst xs):=let⟨tr,h,_⟩:=rowAt G6;⟨_,h⟩;refine⟨_,(bJ rfl _ rfl _ rfl (cQ xa xs 0 rfl (SqL.of xe) ⟨ rfl,rfl,.inl ⟨rfl,rfl⟩,fun t0 ht0=>?_⟩))⟩;have s0:=aH ht0 (.lst (xs.drop 0).reverse);have c0':=TsI.back (rowAt G6) xe ht0;refine(aJ _ rfl t0 _ rfl ⟨ SqL.of aB,fun t1 ht1=>?_⟩);have s1:=aH ht1 (.lst (fF (xs.drop 0).reverse none (some 2)));have c1':=TsI.cut c0' aB ht1 2;refine(cL _ rfl _ rfl (by show 2≤ZW;decide) (fun t2 ht2=>?_));have s2:=aH ht2 (.lst [.ref pa,.ref ob]);have s12:=s0.trans (s1.trans s2);have c2':TsI (upd (upd (upd H6 t0 (.lst (xs.drop 0).reverse)) t1 (.lst (fF (xs.drop 0).reverse none (some 2)))) t2 (.lst [.ref pa,.ref ob])) t2 [p,o]:=⟨[pa,ob],aB,rfl,fun i z e=>by
       match i with
       |0=>cases e;exact⟨pa,rfl,s12 _ _ (G6.1 _ _ (g1 _ _ e2))⟩
       |1=>cases e;exact⟨ob,rfl,s12 _ _ G6.2.2.2.1⟩
       |i+2=>simp at e⟩
      refine(a9 _ _ ((c1'.same s2).bd) c2'.bd (zW _) ⟨ zW _,_,rfl,?_⟩);rw[F3,Bool.xor_false];have G7:=keep s12 G6;refine cO (fun c=>?_) (fun c=>?_)
      ·have c:=of_decide_eq_true c;refine(bE _ rfl (.inl ⟨rfl,_,SqL.of G7.2.2.2.2⟩) _ rfl (a9 _ _ rfl rfl (.inl ⟨by decide,by decide⟩) ⟨ _,_,rfl,(cF rfl oa _ _ rfl ⟨ rfl,G7.2.2.2.2,szl _ (by omega),⟨_,_,_,rfl⟩,fin (push (2*k+1) G7) (by rw[if_pos c])⟩)⟩))
      ·have c:¬r.reverse.take 2=[p,o]:=fun z=>c (decide_eq_true z);exact⟨⟨_,_,_,rfl⟩,fin G7 (by rw[if_neg c,List.append_nil])⟩
     ·rintro σ H4 ⟨⟨v8,v9,v10,rfl⟩,g5,hB4,hB4',_,ho4⟩;rw[Zq,r2]at ho4;refine⟨⟨_,_,_,_,rfl⟩,g5,hB4,hB4',?_⟩;rw[tk,List.flatMap_append];simpa using ho4
    ·rintro σ H3 ⟨⟨v7,v8,v9,v10,rfl⟩,g4,_,_,ho3⟩;rw[Zq,c2,Yw]at ho3;exact n2 _ _ ⟨⟨_,_,_,_,rfl⟩,g4,ho3⟩
   rintro σ' H2 ⟨⟨v7,v8,v9,v10,rfl⟩,g4,ho⟩;have ogl:=KH hR p;have ogp:0<(og S F p).length:=List.length_pos_iff.mpr (UD hP hR hpm);have vl:(vnI (og S F p)).length=(og S F p).length:=by unfold vnI;rw[Zq,Zq]
   have ps:(0:Int)<(((vnI (og S F p)).length:Nat):Int):=by rw[vl];lia
   obtain⟨m,hm⟩:=Xx (Xv v3 (show(((vnI (og S F p)).length:Nat):Int)≠0 by lia));have hm2:=Xw v3 ps;refine⟨_,rfl,(aJ _ rfl oa _ rfl (bN (.inl (SqL.of ho)) _ _ rfl rfl ⟨ ps,?_⟩))⟩;show bT 10 (V.int (v3%(((vnI (og S F p)).length:Nat):Int))) _ _ _;rw[hm];refine(aJ _ rfl _ _ rfl ⟨ rfl,⟨by decide,by decide⟩,?_⟩);have hO2:=hO.same g4;obtain⟨ox,o1,o2,o3,o4⟩:=id hO2;refine(bE _ rfl (.inl ⟨rfl,_,SqL.of o1⟩) _ rfl ⟨ _,rfl,(aJ _ rfl oa _ rfl ⟨ SqL.of ho,fun t1 ht1=>?_⟩)⟩);have s1:=aH ht1 (.lst (fF (vnI (og S F p)) (some (m:Int)) none));refine⟨_,(bJ rfl _ rfl _ rfl ⟨ oa,_,rfl,SqL.of (s1 _ _ ho),fun t2 ht2=>?_⟩)⟩;have s2:=aH ht2 (.lst (fF (vnI (og S F p)) none (some (m:Int))));rw[gF,kW]at *;refine(aI t1 t2 _ _ rfl ⟨ rfl,s2 _ _ aB,aB,by rw[Ym,Yx,vl];exact YQ (by lia:_≤8) (by decide),fun t3 ht3=>?_⟩);have s3:=aH ht3 (.lst ((vnI (og S F p)).drop m++(vnI (og S F p)).take m));have s13:=s1.trans (s2.trans s3);have el:(vnI (og S F p)).drop m++(vnI (og S F p)).take m=(((og S F p).drop m++(og S F p).take m).map fun e:Nat=>(e:Int)).map V.int:=by
    unfold vnI;rw[←List.map_drop,←List.map_drop,←List.map_take,←List.map_take,←Zt,←Zt]
   have nt3:t3≠Or:=fun z=>by
    have:=(s1.trans s2) _ _ o1;rw[←z,ht3]at this;cases this
   refine(cQ Or _ _ rfl rfl ⟨ s13 _ _ o1,(aU (by rw[Zq,o2,lO];exact Xq (by lia:i≤10) (by decide)) (dB _ _ _ _ _ ⟨ _,_,rfl⟩) (((g1.trans g4).trans s13).fresh hOr _) (os++[_]) ((hO2.same s13).push (s13 _ _ o1) (by rw[aB,el]) nt3) ⟨ by simp[lO],fun j p' o' hp' ho'=>?_⟩)⟩);by_cases c:j<os.length
   ·rw[Zx c]at ho';exact oO j p' o' hp' ho'
   ·have hj:=(Zj.mp ho').1;simp at hj;have ej:j=os.length:=by lia
    subst ej;rw[Zy (Nat.le_refl _),Nat.sub_self]at ho';cases ho';rw[lO,e1]at hp';cases hp';refine List.Perm.map _ ?_;have:=List.perm_append_comm (l₁:=(og S F p).drop m) (l₂:=(og S F p).take m);rw[List.take_append_drop]at this;exact this
  ·rintro σ H1 ⟨h,g1,os,hO,lO,oO⟩;rw[Zq,p2]at lO;exact n1 _ _ (fT h g1 os hO lO oO)
 rintro σ' H1 ⟨⟨v3,v5,v6,v7,v8,v9,v10,rfl⟩,g1,os,hO,lO,oO⟩;have pl1:=g1 _ _ p1;have lpl:(((pr.map V.ref).length:Nat):Int)=(Pl.length:Int):=by rw[Zq,p2]
 refine(aJ _ rfl pl _ rfl ⟨ .inl (SqL.of pl1),?_⟩);rw[lpl];refine(cL _ rfl ra rfl ⟨_,SqL.of (g1 _ _ r1)⟩ (fun D hD=>?_));have idx:∀{H':Hp}{xa:Addr}{p:Pt},aO H1 H'→PtA H' xa p→p∈Pl→∃(xs:List V) (dx:PyData) (ds:List PyData) (j:Nat),H' pl=some (.lst xs)∧Bd K H' (.ref xa) dx∧Bds K H' xs ds∧smD dx∧(∀d∈ds,smD d)∧(∃d,ds[j]?=some d∧PyData.eqv d dx=true)∧(∀m d,m<j→ds[m]?=some d→PyData.eqv d dx=false)∧(vn j)=.int (ixP Pl p):=fun {H' xa p} g hx hp=>by
  have hj:=List.idxOf_lt_length_of_mem hp;have ej:=List.getElem_idxOf hj;refine(aI _ (dP p) (Pl.map dP) (Pl.idxOf p) (g _ _ pl1) (bF (tT hx) (TsI.bds p2 (fun i z e=>let⟨x,a,b⟩:=p3 i z e;⟨x,a,g _ _ (g1 _ _ b)⟩)) (sX _) (fun d hd=>by obtain⟨z,_,rfl⟩:=Zh.mp hd;exact sX z) ⟨dP p,by rw[Zk,GR.aK hj,ej];rfl,by rw[pM];exact decide_eq_true rfl⟩ ⟨ fun m d hm e=>?_,rfl⟩));rw[Zk,GR.aK (by lia:m<Pl.length)]at e;cases e;rw[pM];refine decide_eq_false fun z=>?_;have:=List.nodup_iff_pairwise_ne.mp hP.nd;rw[List.pairwise_iff_getElem]at this;exact this m (Pl.idxOf p) (by lia) hj hm (z.trans ej.symm)
 refine j6 F.length (fun i o=>o=.tup [.int (yX Pl (F.getD i [])).1,.int (yX Pl (F.getD i [])).2]) hD (by lia) (fun i H' hi g=>⟨_,.ref (rr[i]'(by lia)),SqL.of (g _ _ (g1 _ _ r1)),by rw[Zk,Zz (by lia)];rfl⟩) (fun H' g=>⟨_,SqL.of (g _ _ (g1 _ _ r1)),by rw[Zq,r2];exact Nat.le_refl _⟩) ?_ ?_
 ·rintro i H' x H'' k hi g ⟨rfl,hx⟩ hk;have hx:=hx _ (SqL.of (g _ _ (g1 _ _ r1)));obtain⟨xa,a1,a2⟩:=r4 i _ (GR.aK hi);rw[Zk,a1]at hx;cases hx;have gd:F.getD i []=F[i]:=by rw[Zv,GR.aK hi];rfl
  have en:=hR.en _ (Zp hi);have hl:=en.t.len;have gg:=g1.trans g;obtain⟨tr,t1,t2,t3⟩:=(a2.same gg).at;have gf:=GR.aK (l:=F[i]) (i:=0) (by lia);have gl:=GR.aK (l:=F[i]) (i:=F[i].length-1) (by lia);obtain⟨fa,fa1,fa2⟩:=t3 _ _ gf;obtain⟨la,la1,la2⟩:=t3 _ _ gl;have lm:(tr.map V.ref).length=F[i].length:=by rw[Zq,t2]
  have at0':atI (tr.map V.ref) 0=some (.ref fa):=cE (j:=0) fa1;have at1':atI (tr.map V.ref) (-1)=some (.ref la):=xE (k:=1) (by decide) (by lia) (by rw[lm];exact la1);obtain⟨xs,dx,ds,j,i1,i2,i3,i4,i5,i6,i7,i8⟩:=idx g fa2 (en.t.fst _ gf);obtain⟨xs',dx',ds',j',i1',i2',i3',i4',i5',i6',i7',i8'⟩:=idx g la2 (en.lst _ gl);refine⟨(Fills.refl _).set _ rfl,(bE _ rfl (.inl ⟨rfl,_,SqL.of i1⟩) _ rfl (aI xa _ _ _ rfl ⟨ rfl,SqL.of t1,at0',(dB pl xs _ dx ds (lQ j rfl rfl i1 i2 (bF i3 i4 i5 i6 i7 ?_)))⟩))⟩;refine(bE _ rfl (.inl ⟨rfl,_,SqL.of i1⟩) _ rfl ⟨ _,rfl,(aI xa _ _ _ rfl ⟨ rfl,SqL.of t1,at1',(dB pl xs' _ dx' ds' (lQ j' rfl rfl i1' i2' (bF i3' i4' i5' i6' i7' ?_)))⟩)⟩);refine⟨(by show 2≤ZW;decide),fun a ha=>hk a _ _ ?_ ha (aH ha _) aB⟩;rw[i8,i8',gd];show HO.tup [V.int (ixP Pl F[i][0]),V.int (ixP Pl F[i][F[i].length-1])]=HO.tup [V.int (ixP Pl (F[i].getD 0 (0,0))),V.int (ixP Pl (F[i].getD (F[i].length-1) (0,0)))];rw[getD_some gf,getD_some gl]
 intro tr H2 l2 p2' g2 e2';refine⟨_,rfl,(by show 3≤ZW;decide),fun wa hwa=>?_⟩;have g3:=aH hwa (.tup [.int (Pl.length:Int),.ref D,.ref Or]);have g23:=g2.trans g3;obtain⟨ox,o1,o2,o3,o4⟩:=hO.same g23;refine q wa os _ (g1.trans g23) ⟨D,(bE Or aB ⟨tr,g3 _ _ e2',by rw[l2];exact(Zq _).symm,fun i z e=>?_⟩ ox o1 ⟨ o2,o4⟩)⟩ lO oO;unfold tsO at e;rw[Zk]at e;cases ef:F[i]? with
 |none=>rw[ef]at e;cases e
 |some r =>
  rw[ef]at e;cases e;have hi:i<tr.length:=by rw[l2];exact(Zj.mp ef).1
  obtain⟨o,rfl,h⟩:=p2' i _ (GR.aK hi);refine⟨_,GR.aK hi,?_⟩;have:=g3 _ _ h;rw[Zv,ef]at this;exact this
end K75
namespace L2
open PySem PySem.Spec PyProof.Rows GR
inductive PtR(H:Hp):List Addr→List Pt→Prop
 |nil:PtR H [] []
 |cons {a:Addr}{p:Pt}{tr:List Addr}{ps:List Pt}:PtA H a p→PtR H tr ps→PtR H (a::tr) (p::ps)
theorem PtR.same{H H':Hp}(g:aO H H'):∀{tr:List Addr}{ps:List Pt},PtR H tr ps→PtR H' tr ps
 |_,_,.nil=>.nil
 |_,_,.cons h r=>.cons (g _ _ h) (PtR.same g r)
theorem PtR.other{H:Hp}{o:Addr}{xs:List V}(e:H o=some (.lst xs))(u:HO):∀{tr:List Addr}{ps:List Pt},PtR H tr ps→PtR (upd H o u) tr ps
 |_,_,.nil=>.nil
 |_,_,.cons h r=>.cons (by show upd H o u _=_;rw[aP (fun z=>by rw[PtA,z,e]at h;cases h)];exact h) (PtR.other e u r)
theorem PtR.app{H:Hp}{tr':List Addr}{ps':List Pt}(h':PtR H tr' ps'):∀{tr:List Addr}{ps:List Pt},PtR H tr ps→PtR H (tr++tr') (ps++ps')
 |_,_,.nil=>h'
 |_,_,.cons h r=>.cons h (PtR.app h' r)
theorem PtR.len{H:Hp}:∀{tr:List Addr}{ps:List Pt},PtR H tr ps→tr.length=ps.length
 |_,_,.nil=>rfl
 |_,_,.cons _ r=>by rw[Yq,Yq,PtR.len r]
theorem PtR.nth{H:Hp}:∀{tr:List Addr}{ps:List Pt},PtR H tr ps→∀(i:Nat) p,ps[i]?=some p→∃r,tr[i]?=some r∧H r=some (.tup [.int p.1,.int p.2])
 |_,_,.nil,i,p,e=>by simp at e
 |_,_,.cons h r,0,p,e=>by cases e;exact⟨_,rfl,h⟩
 |_,_,.cons h r,i+1,p,e=>PtR.nth r i p (by simpa using e)
theorem PtR.ts{H:Hp}{D:Addr}{tr:List Addr}{ps:List Pt}(h:PtR H tr ps)(e:H D=some (.lst (tr.map V.ref))):TsI H D ps:=⟨tr,e,h.len,h.nth⟩
theorem TsI.pr{H:Hp}{D:Addr}{ps:List Pt}(h:TsI H D ps):∃tr,H D=some (.lst (tr.map V.ref))∧PtR H tr ps:=by
 obtain⟨tr,h1,h2,h3⟩:=h;refine⟨tr,h1,?_⟩;clear h1;induction tr generalizing ps with
 |nil =>
  match ps,h2 with
  |[],_=>exact .nil
 |cons a tr ih =>
  match ps,h2 with
  |p::ps,h2 =>
   obtain⟨r,r1,r2⟩:=h3 0 p rfl;cases r1;exact .cons r2 (ih (by simpa using h2) fun i q e=>h3 (i+1) q (by simpa using e))
def Stp(p q:Pt):Prop:=(p.1=q.1∧p.2≠q.2)∨(p.2=q.2∧p.1≠q.1)
def Rct(l:List Pt):Prop:=∀(i:Nat) (p q:Pt),l[i]?=some p→l[i+1]?=some q→Stp p q
end L2
namespace GR
def g0(r:List Pt)(m:Nat):Pt:=r.getD m (0,0)
theorem eV{r:List Pt}{m:Nat}{p:Pt}(h:r[m]?=some p):g0 r m=p:=by unfold g0;rw[Zv,h];rfl
def Un(p q:Pt):Prop:=(q.1=p.1∧(q.2=p.2+1∨q.2=p.2-1))∨(q.2=p.2∧(q.1=p.1+1∨q.1=p.1-1))
structure Pth(r:List Pt):Prop where
 len:2≤r.length
 adj:∀m,m+1<r.length→Un (g0 r m) (g0 r (m+1))
 trn:∀m,m+2<r.length→g0 r m≠g0 r (m+2)
theorem S3{S:Sts}(hu:Unit S){p q:Pt}(h:Adj S p q):Un p q:=by
 rcases h with h | h
 ·rcases hu p q h with rfl | rfl
  ·exact .inr ⟨by simp[dr,dy],.inl (by simp[dr,dx])⟩
  ·exact .inl ⟨by simp[dr,dx],.inl (by simp[dr,dy])⟩
 ·rcases hu q p h with rfl | rfl
  ·exact .inr ⟨by simp[dr,dy],.inr (by simp[dr,dx])⟩
  ·exact .inl ⟨by simp[dr,dx],.inr (by simp[dr,dy])⟩
theorem Tr.pth{S:Sts}{Pl:List Pt}{r:List Pt}(hu:Unit S)(t:Tr S Pl r):Pth r:=by
 refine⟨t.len,fun m hm=>?_,fun m hm=>?_⟩
 ·rw[eV (aK (by lia:m<r.length)),eV (aK hm)];exact S3 hu (t.adj m _ _ (aK (by lia)) (aK hm))
 ·rw[eV (aK (by lia:m<r.length)),eV (aK hm)];exact t.trn m _ _ (aK (by lia)) (aK hm)
def St(r:List Pt)(j k:Nat):Prop:=∃s:Int,(s=1∨s = -1)∧((∀m:Nat,j≤m→m≤k→(g0 r m).1=(g0 r j).1∧(g0 r m).2=(g0 r j).2+s*((m:Int)-j))∨(∀m:Nat,j≤m→m≤k→(g0 r m).2=(g0 r j).2∧(g0 r m).1=(g0 r j).1+s*((m:Int)-j)))
theorem St.one{r:List Pt}(p:Pth r){j:Nat}(h:j+1<r.length):St r j (j+1):=by
 rcases p.adj j h with⟨h1,h2 | h2⟩ | ⟨h1,h2 | h2⟩
 ·exact⟨1,.inl rfl,.inl fun m m1 m2=>by
   by_cases e:m=j
   ·subst e;exact⟨rfl,by lia⟩
   ·have:m=j+1:=by lia
    subst this;exact⟨h1,by lia⟩⟩
 ·exact⟨-1,.inr rfl,.inl fun m m1 m2=>by
   by_cases e:m=j
   ·subst e;exact⟨rfl,by lia⟩
   ·have:m=j+1:=by lia
    subst this;exact⟨h1,by lia⟩⟩
 ·exact⟨1,.inl rfl,.inr fun m m1 m2=>by
   by_cases e:m=j
   ·subst e;exact⟨rfl,by lia⟩
   ·have:m=j+1:=by lia
    subst this;exact⟨h1,by lia⟩⟩
 ·exact⟨-1,.inr rfl,.inr fun m m1 m2=>by
   by_cases e:m=j
   ·subst e;exact⟨rfl,by lia⟩
   ·have:m=j+1:=by lia
    subst this;exact⟨h1,by lia⟩⟩
theorem UF{p q:Pt}(h:p≠q)(h1:p.1=q.1)(h2:p.2=q.2):False:=h (Prod.ext h1 h2)
theorem St.on{r:List Pt}(p:Pth r){j k:Nat}(hjk:j<k)(h:k+1<r.length)(s:St r j k)(nb:(g0 r (k-1)).1=(g0 r (k+1)).1∨(g0 r (k-1)).2=(g0 r (k+1)).2):St r j (k+1):=by
 have a:=p.adj k h;obtain⟨k',rfl⟩:∃k',k=k'+1:=⟨k-1,by lia⟩
 have t:=fun h1 h2=>UF (p.trn k' (by lia)) h1 h2;rw[show k'+1-1=k' by lia]at nb;rw[show k'+2=k'+1+1 by lia]at t;obtain⟨s,hs,h1 | h1⟩:=s
 ·have e0:=h1 k' (by lia) (by lia);have e1:=h1 (k'+1) (by lia) (Nat.le_refl _);refine⟨s,hs,.inl fun m m1 m2=>?_⟩;by_cases e:m≤k'+1
  ·exact h1 m m1 e
  ·have:m=k'+1+1:=by lia
   subst this;rcases hs with rfl | rfl<;>rcases a with⟨a1,a2 | a2⟩ | ⟨a1,a2 | a2⟩
   all_goals first | exact⟨by lia,by lia⟩ | exact absurd (t (by omega) (by lia)) id | (exfalso;omega)
 ·have e0:=h1 k' (by lia) (by lia);have e1:=h1 (k'+1) (by lia) (Nat.le_refl _);refine⟨s,hs,.inr fun m m1 m2=>?_⟩;by_cases e:m≤k'+1
  ·exact h1 m m1 e
  ·have:m=k'+1+1:=by lia
   subst this;rcases hs with rfl | rfl<;>rcases a with⟨a1,a2 | a2⟩ | ⟨a1,a2 | a2⟩
   all_goals first | exact⟨by lia,by lia⟩ | exact absurd (t (by lia) (by omega)) id | (exfalso;omega)
structure Kpt(r:List Pt)(ix:List Nat):Prop where
 lt:∀i∈ix,i<r.length
 st:∀(i a b:Nat),ix[i]?=some a→ix[i+1]?=some b→a<b∧St r a b
theorem Kpt.snoc{r:List Pt}{ix:List Nat}{j k:Nat}(h:Kpt r (ix++[j]))(hk:k<r.length)(jk:j<k)(s:St r j k):Kpt r (ix++[j]++[k]):=by
 refine⟨fun i hi=>?_,fun i a b e1 e2=>?_⟩
 ·rcases Zf.mp hi with z | z
  ·exact h.lt i z
  ·rw[Zb.mp z];exact hk
 ·have hi:i+1<(ix++[j]++[k]).length:=(Zj.mp e2).1;simp at hi;by_cases hl:i<ix.length
  ·rw[Zx (by simp;lia)]at e1 e2;exact h.st i a b e1 e2
  ·have:i=ix.length:=by lia
   subst this;rw[Zx (by simp),Yy]at e1;rw[show ix.length+1=(ix++[j]).length by simp,Yy]at e2;cases e1;cases e2;exact⟨jk,s⟩
end GR
namespace TX
open PySem PySem.NumText L2 GR
abbrev Bg(n:Int):Prop:=n.natAbs<10 ^ 40
theorem cY{n:Int}(h:Bg n):(∀c∈bS n,(48≤c∧c≤57)∨c=45)∧(bS n).length≤41∧num (bS n)=some n∧n.natAbs.log2<1920∧bS n≠[]:=by
 have key:∀m:Nat,m<10 ^ 40→(bS (m:Int)).length≤40:=fun m hm=>by
  rw[fJ,Zq];exact PyProof.Rows.digits10_le (by decide) hm
 have lg:n.natAbs.log2<1920:=by
  by_cases h0:n.natAbs=0
  ·rw[h0];decide
  ·rw[Nat.log2_lt h0];exact Nat.lt_trans h (by decide)
 refine⟨?_,?_,oK n h,lg,?_⟩
 all_goals rcases Int.eq_nat_or_neg n with⟨m,rfl | rfl⟩
 ·exact fun c hc=>.inl ((cV m).1 c hc)
 ·by_cases h0:m=0
  ·subst h0;exact fun c hc=>.inl ((cV 0).1 c hc)
  ·rw[jN (by lia)];intro c hc;rcases Zn.mp hc with z | z
   ·exact .inr z
   ·exact .inl ((cV m).1 c z)
 ·have:=key m (by simpa using h);lia
 ·by_cases h0:m=0
  ·subst h0;have:=key 0 (by decide);exact YQ this (by decide)
  ·rw[jN (by lia)];have:=key m (by simpa using h);simp;lia
 ·exact(cV m).2
 ·by_cases h0:m=0
  ·subst h0;exact(cV 0).2
  ·rw[jN (by lia)];simp
theorem DD{n:Int}(h:Bg n){c:Nat}(hc:c∈bS n):c≠10∧c≠32∧c<128:=by
 have:=(cY h).1 c hc
 lia
def lnP(p q:Pt):Int:=(if q.1-p.1<0 then -(q.1-p.1) else q.1-p.1)+(if q.2-p.2<0 then -(q.2-p.2) else q.2-p.2)
def hdP(p q:Pt):Int:=if p.2=q.2 then 2*(if q.1<p.1 then 1 else 0) else 1+2*(if q.2<p.2 then 1 else 0)
def ltr(h:Int):Nat:=if h=0 then 101 else if h=1 then 110 else if h=2 then 119 else 115
theorem AS(p q:Pt):hdP p q=0∨hdP p q=1∨hdP p q=2∨hdP p q=3:=by unfold hdP;split<;>split<;>simp
def stW(p q:Pt):List Nat:=ltr (hdP p q)::bS (lnP p q)
theorem LZ:ZT "enws" = sT [101,110,119,115]:=by decide +kernel
theorem RO{h:Int}(hh:h=0∨h=1∨h=2∨h=3):atI (ZT "enws").cps.toList h=some (ltr h):=by
 rw[LZ,eZ];rcases hh with rfl | rfl | rfl | rfl<;>rfl
theorem RN{h:Int}:ltr h≠10∧ltr h≠32∧ltr h<128:=by
 unfold ltr;split
 ·decide
 ·split
  ·decide
  ·split<;>decide
def Sml(p:Pt):Prop:=(-(33*10 ^ 38)≤p.1∧p.1≤33*10 ^ 38)∧-(33*10 ^ 38)≤p.2∧p.2≤33*10 ^ 38
theorem Sml.bg{p:Pt}(h:Sml p):Bg p.1∧Bg p.2:=by
 obtain⟨h1,h2⟩:=h;exact⟨by show p.1.natAbs<10 ^ 40;omega,by show p.2.natAbs<10 ^ 40;omega⟩
theorem UG{p q:Pt}(hp:Sml p)(hq:Sml q)(s:Stp p q):Bg (lnP p q)∧1≤lnP p q:=by
 obtain⟨h1,h2⟩:=hp;obtain⟨h3,h4⟩:=hq;unfold lnP;rcases s with⟨s1,s2⟩ | ⟨s1,s2⟩
 ·constructor
  ·show Int.natAbs _<10 ^ 40;split<;>split<;>omega
  ·split<;>split<;>lia
 ·constructor
  ·show Int.natAbs _<10 ^ 40;split<;>split<;>omega
  ·split<;>split<;>lia
theorem TB{p q:Pt}(hb:Bg (lnP p q)){c:Nat}(hc:c∈stW p q):c≠10∧c≠32∧c<128:=by
 rcases Zn.mp hc with rfl | z
 ·exact RN
 ·exact DD hb z
theorem IX{p q:Pt}(hb:Bg (lnP p q)):(stW p q).length≤42:=by
 have:=(cY hb).2.1;show(bS (lnP p q)).length+1≤42
 lia
def cB:List Nat:=[115,112,111,116]
def dA:List Nat:=[108,105,110,101]
theorem uI:ZT "spot " = sT (cB++[32]):=by decide +kernel
theorem uJ:ZT "line " = sT (dA++[32]):=by decide +kernel
theorem EM:ZT "spot" = sT cB:=by decide +kernel
theorem AY:ZT "line" = sT dA:=by decide +kernel
theorem P5:ZT "\n" = sT [10]:=by decide +kernel
theorem qO:ZT " " = sT [32]:=by decide +kernel
theorem szT{a b:List Nat}(h:a.length+b.length≤100000):(sT a).length+(sT b).length≤ZW:=by
 rw[cG,cG];exact YQ h (by decide)
def rE(l:List Pt)(k:Nat):List (List Nat):=(List.range k).map fun i=>stW (g0 l i) (g0 l (i+1))
theorem BI(l:List Pt)(k:Nat):(rE l k).length=k:=by unfold rE;simp
theorem GN(l:List Pt)(k:Nat):rE l (k+1)=rE l k++[stW (g0 l k) (g0 l (k+1))]:=by unfold rE;rw[List.range_succ,Zt];rfl
def fA(p:Pt):List (List Nat):=[cB,bS p.1,bS p.2]
def iK(l:List Pt)(k:Nat):List (List Nat):=dA::bS (g0 l 0).1::bS (g0 l 0).2::rE l k
def fC(l:List Pt):List (List Nat):=iK l (l.length-1)
def eK(sp:List Pt)(ll:List (List Pt)):List (List (List Nat)):=sp.map fA++ll.map fC
def txD(sp:List Pt)(ll:List (List Pt)):List Nat:=jn 10 ((eK sp ll).map (jn 32))
theorem ED(l:List Pt)(k:Nat):jn 32 (iK l (k+1))=jn 32 (iK l k)++32::stW (g0 l k) (g0 l (k+1)):=by
 unfold iK;rw[GN];exact FO 32 (ps:=dA::bS (g0 l 0).1::bS (g0 l 0).2::rE l k) (by simp) _
structure Wr(l:List Pt):Prop where
 two:2≤l.length
 most:l.length≤36
 rct:Rct l
 sml:∀p∈l,Sml p
theorem Wr.at{l:List Pt}(h:Wr l){i:Nat}(hi:i<l.length):Sml (g0 l i):=by rw[eV (aK hi)];exact h.sml _ (Zp hi)
theorem Wr.st{l:List Pt}(h:Wr l){i:Nat}(hi:i+1<l.length):Stp (g0 l i) (g0 l (i+1)):=h.rct i _ _ (by rw[aK (by lia),eV (aK (by lia:i<l.length))]) (by rw[aK hi,eV (aK hi)])
theorem Wr.ln{l:List Pt}(h:Wr l){i:Nat}(hi:i+1<l.length):Bg (lnP (g0 l i) (g0 l (i+1)))∧1≤lnP (g0 l i) (g0 l (i+1)):=UG (h.at (by lia)) (h.at hi) (h.st hi)
theorem Wr.word{l:List Pt}(h:Wr l){k:Nat}(hk:k+1≤l.length):∀w∈iK l k,w.length≤42∧∀c∈w,c≠10∧c≠32∧c<128:=fun w hw=>by
 have b0:=(h.at (show 0<l.length by have:=h.two;lia)).bg;rcases Zn.mp hw with rfl | hw
 ·exact⟨by decide,by decide⟩
 rcases Zn.mp hw with rfl | hw
 ·exact⟨by have:=(cY b0.1).2.1;lia,fun c hc=>DD b0.1 hc⟩
 rcases Zn.mp hw with rfl | hw
 ·exact⟨by have:=(cY b0.2).2.1;lia,fun c hc=>DD b0.2 hc⟩
 obtain⟨i,hi,rfl⟩:=Zh.mp hw;have hi:=Zs.mp hi;have b:=(h.ln (show i+1<l.length by lia)).1;exact⟨IX b,fun c hc=>TB b hc⟩
theorem sE(l:List Pt)(k:Nat):(iK l k).length=k+3:=by unfold iK;simp[BI]
theorem QC{ws:List (List Nat)}(h:∀w∈ws,w.length≤42):(ws.map List.length).sum+ws.length≤43*ws.length:=by
 have:=lS (f:=List.length) (B:=42) (l:=ws) h
 lia
theorem PY(c:Nat){ws:List (List Nat)}(h:∀w∈ws,w.length≤42):(jn c ws).length≤43*ws.length:=by
 by_cases e:ws=[]
 ·subst e;simp[jn]
 ·have:=jG c e;have:=QC h
  lia
theorem GQ{p:Pt}(h:Sml p):∀w∈fA p,w.length≤42∧∀c∈w,c≠10∧c≠32∧c<128:=fun w hw=>by
 have b0:=h.bg;simp only[fA,Zn,List.not_mem_nil,or_false]at hw;rcases hw with rfl | rfl | rfl
 ·exact⟨by decide,by decide⟩
 ·exact⟨by have:=(cY b0.1).2.1;lia,fun c hc=>DD b0.1 hc⟩
 ·exact⟨by have:=(cY b0.2).2.1;lia,fun c hc=>DD b0.2 hc⟩
structure Wdr(sp:List Pt)(ll:List (List Pt)):Prop where
 s1:1≤sp.length
 s10:sp.length≤10
 l1:1≤ll.length
 l20:ll.length≤20
 g:∀l∈ll,Wr l
 s:∀p∈sp,Sml p
theorem Wdr.row{sp:List Pt}{ll:List (List Pt)}(h:Wdr sp ll):∀ws∈eK sp ll,ws≠[]∧ws.length≤38∧∀w∈ws,w.length≤42∧∀c∈w,c≠10∧c≠32∧c<128:=fun ws hw=>by
 rcases Zf.mp hw with z | z
 ·obtain⟨p,hp,rfl⟩:=Zh.mp z;exact⟨by simp[fA],by simp[fA],GQ (h.s p hp)⟩
 ·obtain⟨l,hl,rfl⟩:=Zh.mp z;have g:=h.g l hl;have:=g.two;have:=g.most;exact⟨by simp[fC,iK],by unfold fC;rw[sE];lia,g.word (by lia)⟩
theorem K8(c:Nat):∀{ps:List (List Nat)}{x:Nat},x∈jn c ps→x=c∨∃p∈ps,x∈p
 |[],x,h=>by simp[jn]at h
 |[p],x,h=>.inr ⟨p,Zd,h⟩
 |p::q::r,x,h=>by
  rw[fM c p (by simp)]at h;rcases Zf.mp h with z | z
  ·exact .inr ⟨p,Zd,z⟩
  ·rcases Zn.mp z with z | z
   ·exact .inl z
   ·rcases K8 c z with y | ⟨p',hp',y⟩
    ·exact .inl y
    ·exact .inr ⟨p',Zw _ hp',y⟩
theorem Wdr.rows{sp:List Pt}{ll:List (List Pt)}(h:Wdr sp ll):TX.rows (txD sp ll)=eK sp ll:=by
 have hr:=h.row;unfold TX.rows txD;have e:TX.sp 10 (jn 10 ((eK sp ll).map (jn 32)))=(eK sp ll).map (jn 32):=by
  refine x6 (fun z=>?_) fun p hp=>?_
  ·have:=congrArg List.length z;rw[Zq,eK,Zm,Zq,List.length_nil]at this;have:=h.s1
   lia
  ·obtain⟨ws,hw,rfl⟩:=Zh.mp hp;intro z;rcases K8 32 z with y | ⟨w,hw',y⟩
   ·exact absurd y (by decide)
   ·exact(((hr ws hw).2.2 w hw').2 10 y).1 rfl
 rw[e,Yb];refine(Yp fun ws hw=>?_).trans (List.map_id _);show TX.sp 32 (jn 32 ws)=ws;exact x6 (hr ws hw).1 fun w hw' z=>(((hr ws hw).2.2 w hw').2 32 z).2.1 rfl
theorem Wdr.rl{sp:List Pt}{ll:List (List Pt)}(h:Wdr sp ll):(∀p∈(eK sp ll).map (jn 32),p.length≤1634)∧((eK sp ll).map (jn 32)).length≤30:=by
 refine⟨fun p hp=>?_,by simp[eK];have:=h.s10;have:=h.l20;lia⟩;obtain⟨ws,hw,rfl⟩:=Zh.mp hp;have hr:=h.row ws hw;have:=PY 32 (ws:=ws) fun w hw'=>(hr.2.2 w hw').1;omega
theorem Wdr.sum{sp:List Pt}{ll:List (List Pt)}(h:Wdr sp ll):(((eK sp ll).map (jn 32)).map List.length).sum+((eK sp ll).map (jn 32)).length≤60000:=by
 obtain⟨h1,h2⟩:=h.rl;have s:=lS (f:=List.length) (B:=1634) (l:=(eK sp ll).map (jn 32)) h1;have:((eK sp ll).map (jn 32)).length*1634≤30*1634:=Nat.mul_le_mul_right _ h2
 lia
end TX
namespace L2
open PySem PySem.Spec PyProof.Rows
theorem Fun.okX{P:Program}{w:World}{K:PySem.W.Frag}{mg:Str→Option Value}{base:Heap}{C:Addr}{x qual:Str}{st:Stmt}{f:Addr}{fd:FuncData}{N ps:List Str}{k:Nat}{sp:Sp}(F:Fun K x qual st f fd)(S:bD N ps (aR st))(len:∀vs H Q E,sp vs H Q E→vs.length=ps.length)
  (hbody:∀(cdv:Value) (A:Around) (outer:List Env) (s:Shared) (H:Hp) (vs:List V) (Q:VK) (E:XK),kD k (A.deeper (envOfC qual (aR st) s.heap.objs.size f cdv))→sp vs H Q E →
   ∃t,PSs (uD (CXr P w C) P w K mg base N qual (aR st) f cdv A outer s H E) (gZ st) t∧t { nx:=fun _ H'=>Q .non H',rt:=Q } (start N vs) H):cU P w K mg base (CXr P w C) (k+1) f fd ps sp:=by
 obtain⟨oc,od,kV,doc,pm,an,cdv,ct,osl,rfl,lk,hcd⟩:=F.ex;exact P4 lk hcd S len fun A outer s H vs Q E hr hsp=>hbody cdv A outer s H vs Q E hr hsp
end L2
namespace K75
open PySem L2 PyProof.Rows TX
theorem VY{σ:L2.St}{H:Hp}{Q:VK}{a c x:Int}{tb:TE}(hb:∀R:VK,R (.int x) H→tb σ H R)(q:Q (.bl (decide (a≤x)&&decide (x≤c))) H) :
  IV (rI0 fun i j=>V.bl (decide (i≤j))) (rI0 fun i j=>V.bl (decide (i≤j))) (tC (V.int a)) tb (tC (V.int c)) σ H Q:=by
 refine hb _ ⟨_,_,rfl,rfl,_,rfl,?_⟩;by_cases h:a≤x
 ·rw[if_pos (decide_eq_true h)];rw[decide_eq_true h,Bool.true_and]at q;exact⟨_,_,rfl,rfl,q⟩
 ·rw[if_neg (by simpa using h)];rw[decide_eq_false h,Bool.false_and]at q;exact q
def Asc(l:List Nat):Prop:=∀c∈l,c<128
theorem Asc.figs{l:List Nat}(h:Asc l):Asc (figs l):=fun c hc=>by
 unfold TX.figs at hc;split at hc
 ·exact h c ((List.drop_sublist _ _).subset hc)
 ·exact h c hc
def VC:Sp:=fun vs H Q E=>∃(z:Str) (w:List Nat),vs=[.str z]∧z=sT w∧Asc w∧w.length≤20000∧(∀n,num w=some n→∀H',aO H H'→Q (.int n) H')∧(num w=none→∀x H',aO H H'→E (.ref x) none H')
theorem PU(T:Txt K mg t):cU P w K mg base (CXr P w t.a7) 1 t.pA t.o8 ["word"] VC:=by
 refine T.jH.F.okX lV (fun vs H Q E h=>?_) (fun cdv A outer s H vs Q E hr h=>?_)
 ·obtain⟨z,w,rfl,_⟩:=h;rfl
 obtain⟨z,wd,rfl,rfl,ha,hl,q,qe⟩:=h;have nd:=lV.nd;have nd_sign:(["sign"]:List Str).Nodup:=by decide
 refine⟨_,(aG (aZ 1 nd (JW (gL (lI PySem.F.plainAttrs_str PySem.F.slot_str_startswith PySem.F.type_str_startswith HE (pv 0) (aA aY aC)) (fun _=>rfl)) (bC iA (pv 0) (bH aE) bB) (pv 0)))
  (aG (cH (PW.pt (iY (rS (JO PR PR aE (aW eU rfl T.cP PySem.boot_len (aA (pv 1) aC)) (dF (v:=.int 40) rfl T.eQ ⟨_,rfl⟩))) (jF (rS (gL (aW (IA rfl) rfl T.SX boot_all (aA (eN (N':=["sign"]) (js:=[none]) rfl (JU (pv 1)) (fun _ _ _ _ _=>(aX (i:=0) nd_sign rfl (Or.inl rfl))) (fun _ _ _ _ _=>fX) (fun _ _ _ _ _=>(cZ G4 (pv 0) (dF (v:=.str (ZT "0123456789")) rfl T.jX ⟨_,rfl⟩) rfl))) aC)) (fun _=>rfl)))))) (aL (vJ T.DP PySem.F.excBase_ValueError T.gP)) bG)
  (aG (cH (aS oX (b9 dJ rfl T.sS boot_str (aA (b9 j8 rfl T.oP boot_int (aA (pv 0) aC)) aC)) (pv 0) (bA _)) (aL (vJ T.DP PySem.F.excBase_ValueError T.gP)) bG)
  (aL (a8 (b9 j8 rfl T.oP boot_int (aA (pv 0) aC))))))),?_⟩
 refine via (fun σ' H'=>σ'=[some (vx wd),some (vx (figs wd))]∧H'=H) (fun r1=>?_) ?_
 ·refine⟨_,(aN rfl rfl _ _ rfl ⟨ rfl,_,rfl,?_⟩)⟩;rw[BJ];refine cO (fun c=>?_) (fun c=>?_)
  ·have c:=of_decide_eq_true c;refine⟨_,rfl,(aJ 1 rfl _ wd rfl ⟨ rfl,YQ hl (by decide),r1 _ _ ⟨?_,rfl⟩⟩)⟩;rw[show figs wd=wd.drop 1 from if_pos c,←fO];rfl
  ·refine⟨_,rfl,r1 _ _ ⟨?_,rfl⟩⟩;rw[show figs wd=wd from if_neg fun z=>c (decide_eq_true z)];rfl
 rintro σ' H' ⟨rfl,rfl⟩;have fl:(figs wd).length≤wd.length:=by
  unfold figs;split
  ·rw[Ym];lia
  ·exact Nat.le_refl _
 have sz:(sT (figs wd)).length≤ZW:=by rw[cG];exact YQ (by lia:_≤20000) (by decide)
 refine via (fun σ' H2=>σ'=[some (vx wd),some (vx (figs wd))]∧aO H' H2∧Fig wd) (fun r1=>?_) ?_
 ·refine VY (fun R h=>(cL _ rfl _ rfl sz h)) ⟨_,rfl,?_⟩;rw[cG];refine cO (fun c=>fR fun x=>?_) (fun c=>?_)
  ·refine qe (mH fun z=>?_) x H' (aO.refl _);have:=z.1.1;simp at c
   lia
  have c1:1≤(figs wd).length∧(figs wd).length≤40:=by
   simp at c
   lia
  refine(aJ _ rfl _ (figs wd) rfl ⟨ rfl,ha.figs,fun D hD=>?_⟩);refine oM (figs wd).length (fun i=>V.bl (decide (48≤(figs wd).getD i 0∧(figs wd).getD i 0≤57))) hD (by lia) (fun i H2 hi g2=>hi) (fun H2 g2=>Nat.le_refl _) ?_ ?_
  ·rintro i H2 x H3 k hi g2 ⟨rfl,c,hc,rfl⟩ hk;refine⟨(Fills.refl _).set _ rfl,(aJ _ rfl _ _ rfl ⟨ rfl,?_⟩)⟩;rw[FT];have e:(figs wd).getD i 0=c:=by rw[Zv,hc];rfl
   rw[←e];exact hk _ (aO.refl _)
  ·intro H2 g2 e2;have eb:((List.range (figs wd).length).map fun i=>V.bl (decide (48≤(figs wd).getD i 0∧(figs wd).getD i 0≤57)))=((figs wd).map fun c=>decide (48≤c∧c≤57)).map V.bl:=by
    rw[Yb];refine Ys (by simp) fun i h1 h2=>?_;simp only[Zq,Yj]at h1;simp[Zv,h1]
   rw[eb]at e2;refine⟨D,(bE _ rfl (SqL.of e2) _ rfl (cO (fun c=>fun x=>?_) (fun c=>r1 _ _ ⟨rfl,g2,c1,fun d hd=>?_⟩)))⟩
   ·refine qe (mH fun z=>?_) x H2 g2;simp only[Bool.not_eq_true',List.all_map,List.all_eq_false]at c;obtain⟨d,hd,e⟩:=c;exact e (decide_eq_true (z.1.2 d hd))
   ·simp only[Bool.not_eq_true',Bool.not_eq_false,List.all_map,List.all_eq_true]at c;exact of_decide_eq_true (c d hd)
 rintro σ' H2 ⟨rfl,g2,hf⟩;obtain⟨i1,i2⟩:=int_text hf;have big:=OC hf;refine(aJ _ rfl _ _ rfl (fT i1 i2 _ rfl big (bE _ rfl rfl _ rfl (cO (fun c=>fun x=>qe (mH fun z=>?_) x H2 g2) (fun c=>?_)))))
 ·have:=(uV hf).mpr z.2;rw[cT,this]at c;simp at c
 ·have hc:Can wd:=(uV hf).mp (by
   rw[cT]at c;simp only[Bool.not_eq_true',decide_eq_false_iff_not,Bool.not_eq_false,decide_eq_true_eq,Classical.not_not]at c;exact fW (V.str.inj c))
  exact(aJ _ rfl _ _ rfl ⟨ i1,i2,q _ (vR hf hc) H2 g2⟩)
def TJ(K:PySem.W.Frag):Sp:=fun vs H Q E=>∃(p:Addr) (ws:List (List Nat)),vs=[.ref p]∧SqL K H p (vxs ws)∧(∀w∈ws,Asc w∧w.length≤20000)∧ws.length≤20000 ∧
 (∀ns:List Int,ws.map num=ns.map some→∀D H',H D=none→aO H H'→H' D=some (.lst (ns.map V.int))→Q (.ref D) H')∧((¬∃ns:List Int,ws.map num=ns.map some)→∀x H',aO H H'→E (.ref x) none H')
theorem JJ{f:List Nat→Option Int}{ws:List (List Nat)}{vs:List V}(hl:vs.length=ws.length)(h:∀(i:Nat) v,vs[i]?=some v→∃n,v=.int n∧f (ws.getD i [])=some n):∃ns:List Int,vs=ns.map V.int∧ws.map f=ns.map some:=by
 obtain⟨ns,rfl,e⟩:=BS fun i v hv=>let⟨n,a,_⟩:=h i v hv;⟨n,a⟩;refine⟨ns,rfl,Yr fun i=>?_⟩;rw[Zq]at hl;by_cases hi:i<ws.length
 ·obtain⟨n,h1,h2⟩:=h i (.int ns[i]) (by rw[Zk,Zz (by lia)];rfl);rw[Zv,Zz hi]at h2;have h2:f ws[i]=some n:=h2;rw[Zk,Zk,Zz hi,Zz (by lia),Option.map_some,Option.map_some,h2,V.int.inj h1]
 ·rw[Zr (by simp;lia),Zr (by simp;lia)]
theorem OD{f:List Nat→Option Int}{ws:List (List Nat)}{w:List Nat}(hw:w∈ws)(h:f w=none):¬∃ns:List Int,ws.map f=ns.map some:=fun ⟨ns,e⟩=>by
 have:(none:Option Int)∈ns.map some:=e▸h▸Yn hw;obtain⟨n,_,z⟩:=Zh.mp this;cases z
theorem KD(T:Txt K mg t):cU P w K mg base (CXr P w t.a7) 2 t.nH t.mY ["words"] (TJ K):=by
 refine T.iO.F.okX lD (fun vs H Q E h=>?_) (fun cdv A outer s H vs Q E hr h=>?_)
 ·obtain⟨p,ws,rfl,_⟩:=h;rfl
 obtain⟨p,ws,rfl,hp,hw,hl,q,qe⟩:=h;have nd:=lD.nd;have nd_word:(["word"]:List Str).Nodup:=by decide
 refine⟨_,(aL (a8 (vM IG (N':=["word"]) (js:=[none]) rfl (cD (pv 0)) (fun _ _ _ _ _=>(aX (i:=0) nd_word rfl (Or.inl rfl))) (fun _ _ _ _ _=>fX) (fun _ _ _ _ _=>(bP (PU T) hr T.jH JX (aA (pv 0) aC)))))),?_⟩;refine(cL _ rfl p rfl ⟨_,hp⟩ (fun D hD=>?_));refine wZ ws.length (fun i v=>∃n,v=.int n∧num (ws.getD i [])=some n) hD (by lia) (fun i H' hi g1=>⟨_,vx ws[i],g1.seq hp,by rw[Zk,Zz hi];rfl⟩) (fun H' g1=>⟨_,g1.seq hp,by rw[Zq];exact Nat.le_refl _⟩) ?_ ?_
 ·rintro i H' x H'' k hi g1 ⟨rfl,hx⟩ hk;have hx:=hx _ (g1.seq hp);rw[Zk,Zz hi]at hx;cases hx;have hm:ws[i]∈ws:=Zp hi;have e:ws.getD i []=ws[i]:=by rw[Zv,Zz hi];rfl
  exact⟨(Fills.refl _).set _ rfl,(aJ _ rfl _ (ws[i]) rfl ⟨ rfl,(hw _ hm).1,(hw _ hm).2,fun n hn H4 g4=>hk _ H4 ⟨n,rfl,by rw[e];exact hn⟩ g4,fun hn y H4 g4=>qe (OD hm hn) y H4 (g1.trans g4)⟩)⟩
 ·intro vs H' hlv hP g1 eD;obtain⟨ns,rfl,e⟩:=JJ hlv hP;exact q ns e D H' hD g1 eD
def TH(K:PySem.W.Frag):Sp:=fun vs H Q E=>∃(v:V) (b:Bool),vs=[v]∧MN K v H b∧(b=true→Q .non H)∧(b=false→∀x,E (.ref x) none H)
theorem fB(T:Txt K mg t):cU P w K mg base (CXr P w t.a7) 1 t.lK t.lJ ["told"] (TH K):=by
 refine T.cK.F.okX jP (fun vs H Q E h=>?_) (fun cdv A outer s H vs Q E hr h=>?_)
 ·obtain⟨v,b,rfl,_⟩:=h;rfl
 obtain⟨v,b,rfl,hv,q,qe⟩:=h;have nd:=jP.nd;refine⟨_,(aL (cH (rS (gL (pv 0) (fun _=>rfl))) (aL (vJ T.DP PySem.F.excBase_ValueError T.gP)) bG)),?_⟩;refine⟨_,rfl,b,hv,?_⟩;cases b with
 |false=>exact fR fun x=>qe rfl x
 |true=>exact iU (q rfl)
def QU(K:PySem.W.Frag):Sp:=fun vs H Q E=>∃(p:Addr) (ws:List (List Nat)) (c:Int),vs=[.ref p,.int c]∧SqL K H p (vxs ws)∧(∀w∈ws,Asc w∧w.length≤20000)∧ws.length≤20000 ∧
 (∀ns:List Int,ws.map num=ns.map some→(ns.length:Int)=c→∀D H',H D=none→aO H H'→H' D=some (.lst (ns.map V.int))→Q (.ref D) H')∧((¬∃ns:List Int,ws.map num=ns.map some∧(ns.length:Int)=c)→∀x H',aO H H'→E (.ref x) none H')
theorem N6(T:Txt K mg t):cU P w K mg base (CXr P w t.a7) 3 t.nG t.mX ["words","count"] (QU K):=by
 refine T.mR.F.okX lB (fun vs H Q E h=>?_) (fun cdv A outer s H vs Q E hr h=>?_)
 ·obtain⟨p,ws,c,rfl,_⟩:=h;rfl
 obtain⟨p,ws,c,rfl,hp,hw,hl,q,qe⟩:=h;have nd:=lB.nd;refine⟨_,(aG (bQ (bP (fB T) hr T.cK iI (aA (cZ dO (aW aV rfl T.cP PySem.boot_len (aA (pv 0) aC)) (pv 1) (bA _)) aC)))
  (aL (a8 (bP (KD T) hr T.iO iI (aA (pv 0) aC))))),?_⟩
 have len:∀{ns:List Int},ws.map num=ns.map some→ns.length=ws.length:=fun e=>by have:=congrArg List.length e;simpa using this.symm
 refine(aJ _ rfl p _ rfl ⟨ .inl hp,_,(aN rfl rfl _ _ rfl ⟨ rfl,fun cb=>?_,fun cb x=>?_⟩)⟩)
 ·have cb:((vxs ws).length:Int)=c:=V.int.inj (of_decide_eq_true cb);rw[Zq]at cb;refine(aJ _ rfl p ws rfl ⟨ hp,hw,hl,fun ns e D H' hD g1 eD=>q ns e (by rw[len e];exact cb) D H' hD g1 eD,fun hn x H' g1=>qe (fun ⟨ns,e,_⟩=>hn ⟨ns,e⟩) x H' g1⟩)
 ·refine qe (fun ⟨ns,e,e2⟩=>?_) x H (aO.refl _);have:=of_decide_eq_false cb;apply this;rw[Zq,←len e,e2]
def QS(K:PySem.W.Frag):Sp:=fun vs H Q E=>∃(p:Addr) (ws:List (List Nat)),vs=[.ref p]∧SqL K H p (vxs ws)∧(∀w∈ws,Asc w∧w.length≤20000)∧ws.length≤20000 ∧
 (∀a b,ws.map num=[some a,some b]→∀D H',H D=none→aO H H'→H' D=some (.tup [.int a,.int b])→Q (.ref D) H')∧((¬∃a b:Int,ws.map num=[some a,some b])→∀x H',aO H H'→E (.ref x) none H')
theorem FA(T:Txt K mg t):cU P w K mg base (CXr P w t.a7) 4 t.tX t.tP ["words"] (QS K):=by
 refine T.mS.F.okX pW (fun vs H Q E h=>?_) (fun cdv A outer s H vs Q E hr h=>?_)
 ·obtain⟨p,ws,rfl,_⟩:=h;rfl
 obtain⟨p,ws,rfl,hp,hw,hl,q,qe⟩:=h;have nd:=pW.nd;refine⟨_,(aG (aZ 1 nd (bP (N6 T) hr T.mR iI (aA (pv 0) (aA aE aC))))
  (aL (a8 (cS (aA (aQ aT (pv 1) aE (fun _ _=>rfl)) (aA (aQ aT (pv 1) aE (fun _ _=>rfl)) aC)))))),?_⟩
 refine⟨_,(cF rfl p ws 2 rfl ⟨ hp,hw,hl,fun ns e e2 D H' hD g1 eD=>?_,fun hn x H' g1=>qe (fun ⟨a,b,e⟩=>hn ⟨[a,b],e,rfl⟩) x H' g1⟩)⟩
 match ns,e,e2 with
 |[a,b],e,_ =>
  refine⟨_,rfl,(aI D _ _ (.int a) rfl (aU rfl (SqL.of eD) rfl _ rfl (aI D _ _ (.int b) rfl ⟨ rfl,SqL.of eD,rfl,(by show 2≤ZW;decide),fun r hr'=>?_⟩)))⟩;exact q a b e r _ (g1.free hr') (g1.trans (aH hr' _)) aB
 |[],_,e2=>exact absurd e2 (by decide)
 |[_],_,e2=>exact absurd e2 (by simp)
 |_::_::_::l,_,e2=>exact absurd e2 (by simp;lia)
theorem MG{c:Nat}{l p:List Nat}(h:Asc l)(hp:p∈sp c l):Asc p:=fun d hd=>by
 have e:=wB c l;have key:∀(ps:List (List Nat)),p∈ps→d∈jn c ps:=by
  intro ps;induction ps with
  |nil=>intro z;cases z
  |cons q r ih =>
   intro z;cases r with
   |nil=>rw[Zb.mp z]at hd;exact hd
   |cons q' r' =>
    rw[fM c q (by simp)];rcases Zn.mp z with rfl | z
    ·exact List.mem_append_left _ hd
    ·exact List.mem_append_right _ (Zw _ (ih z))
 exact h d (e▸key _ hp)
def QR:Sp:=fun vs H Q _=>∃(z:Str) (l:List Nat),vs=[.str z]∧z=sT l∧l.length≤20000∧∀D H',H D=none→aO H H'→zO H' D (rows l)→Q (.ref D) H'
theorem LX:ZT "\n" = sT [10]:=by decide +kernel
theorem LV:ZT " " = sT [32]:=by decide +kernel
theorem E9(T:Txt K mg t):cU P w K mg base CX0 1 t.zH t.yY ["text"] QR:=by
 refine T.sH.F.ok uY (fun vs H Q E h=>?_) (fun cdv A outer s H vs Q E hr h=>?_)
 ·obtain⟨z,l,rfl,_⟩:=h;rfl
 obtain⟨z,l,rfl,rfl,hl,q⟩:=h;have nd:=uY.nd;have nd_row:(["row"]:List Str).Nodup:=by decide
 refine⟨_,(aL (a8 (eN (N':=["row"]) (js:=[none]) rfl (cD (dE mSp gM (pv 0) (aA aY aC))) (fun _ _ _ _ _=>(aX (i:=0) nd_row rfl (Or.inl rfl))) (fun _ _ _ _ _=>fX) (fun _ _ _ _ _=>(EH (K:=K) rfl PySem.F.plainAttrs_str PySem.F.slot_str_split PySem.F.type_str_split gM (pv 0) (aA aY aC)))))),?_⟩;refine⟨_,rfl,rfl,(aI _ _ l 10 rfl ⟨ rfl,rfl,LX,YQ hl (by decide),fun D1 hD1=>?_⟩)⟩;have g1:=aH hD1 (.lst (vxs (sp 10 l)));refine⟨D1,rfl,⟨_,SqL.of aB⟩,fun D hD=>?_⟩;have sl:(sp 10 l).length≤20001:=by
  rw[hZ];have:l.count 10≤l.length:=List.count_le_length
  lia
 refine j6 (sp 10 l).length (fun i o=>o=.lst (vxs (sp 32 ((sp 10 l).getD i [])))) hD (by lia) (fun i H' hi g2=>⟨_,vx (sp 10 l)[i],SqL.of (g2 _ _ aB),by rw[Zk,Zz hi];rfl⟩) (fun H' g2=>⟨_,SqL.of (g2 _ _ aB),by rw[Zq];exact Nat.le_refl _⟩) ?_ ?_
 ·rintro i H' x H'' k hi g2 ⟨rfl,hx⟩ hk;have hx:=hx _ (SqL.of (g2 _ _ aB));rw[Zk,Zz hi]at hx;cases hx;have hm:(sp 10 l)[i]∈sp 10 l:=Zp hi;have e:(sp 10 l).getD i []=(sp 10 l)[i]:=by rw[Zv,Zz hi];rfl
  have hs:=lU 10 l hm;exact⟨(Fills.refl _).set _ rfl,_,rfl,rfl,(aI _ _ ((sp 10 l)[i]) 32 rfl ⟨ rfl,rfl,LV,YQ (by lia:_≤20000) (by decide),fun D2 hD2=>hk D2 _ _ (by rw[e]) hD2 (aH hD2 _) aB⟩)⟩
 ·intro rr H' hlr hP g2 eD;refine q D H' (g1.free hD) (g1.trans g2) ⟨rr,eD,by rw[hlr];unfold rows;rw[Zq],fun i r hr=>?_⟩;unfold rows at hr;rw[Zk]at hr;obtain⟨p,hp,rfl⟩:=Xk.mp hr;have hi:i<(sp 10 l).length:=(Zj.mp hp).1;obtain⟨o,rfl,ho⟩:=hP i rr[i] (Zz (by lia));refine⟨_,Zz (by omega),?_⟩;rw[ho,Zv,hp];rfl
def QY:Sp:=fun vs H Q _=>∃(a:Addr) (W:List Rw) (k:Nat) (z:Str) (wd:List Nat),vs=[.ref a,.int (k:Int),.str z]∧z=sT wd∧zO H a W∧(∀r∈W,r≠[])∧W.length≤30000∧∀D H',H D=none→aO H H'→zO H' D (run wd (W.drop k))→Q (.ref D) H'
theorem FC(T:Txt K mg t):cU P w K mg base CX0 1 t.tV t.tN ["rows","place","word"] QY:=by
 refine T.mQ.F.ok pU (fun vs H Q E h=>?_) (fun cdv A outer s H vs Q E hr h=>?_)
 ·obtain⟨a,W,k,z,wd,rfl,_⟩:=h;rfl
 obtain⟨a,W,k,z,wd,rfl,rfl,hW,hne,hl,q⟩:=h;have nd:=pU.nd;refine⟨_,(aG (aZ 3 nd (bI aC))
  (aG (cR PassesOwn.never rfl (cD (bC cC (pv 0) (bH (pv 1)) bB)) (aX (i:=4) nd rfl (Or.inl rfl)) (aG (cH (aS oX (aQ aT (pv 4) aE (fun _ _=>rfl)) (pv 2) (bA _)) (aL (a8 (pv 3))) bG)
  (aL (bQ (dE mAp bR (pv 3) (aA (bC cC (pv 4) (bH aE) bB) aC))))))
  (aL (a8 (pv 3))))),?_⟩
 obtain⟨rr,e1,e2,e3⟩:=id hW;refine⟨(by show 0≤ZW;decide),fun tl htl=>?_⟩;have g1:=aH htl (.lst []);refine⟨_,(bJ rfl _ rfl _ rfl ⟨ a,_,rfl,SqL.of (g1 _ _ e1),fun sl hsl=>?_⟩)⟩;rw[gF];have g2:=aH hsl (.lst ((rr.map V.ref).drop k));have slt:sl≠tl:=fun z=>by rw[z,aB]at hsl;cases hsl
 let Pv1:Nat→L2.St→L2.Hp→Prop:=fun i σ H'=>(∃v4,σ=[some (.ref a),some (.int k),some (vx wd),some (.ref tl),v4])∧aO H H'∧H' sl=some (.lst ((rr.map V.ref).drop k)) ∧
  ((W.drop k).take i).all (fun r=>r.head?==some wd)=true∧∃tr:List Addr,H' tl=some (.lst (tr.map V.ref))∧tr.length=min i (W.drop k).length∧tl∉tr∧sl∉tr∧∀(j:Nat) r,((W.drop k).take i)[j]?=some r→∃x,tr[j]?=some x∧H' x=some (.lst (vxs (r.drop 1)))
 refine⟨sl,rfl,⟨_,SqL.of aB⟩,dR (K:=K) (a:=sl) (xs:=(rr.map V.ref).drop k) Pv1 ?_ ?_ ?_ ?_⟩
 ·refine⟨⟨_,rfl⟩,(aU (g1.trans g2) aB rfl ([]) (by rw[aP slt.symm];exact aB) ⟨ by simp,by simp,by simp,fun j r h=>by simp at h⟩)⟩
 ·rintro i σ H' _ ⟨_,_,h,_⟩;exact SqL.of h
 ·rintro i x σ H' hx ⟨⟨v4,rfl⟩,g3,es,ha,tr,t1,t2,t3,t4,t5⟩;rw[List.getElem?_drop]at hx;obtain⟨r,xa,er,rfl,exa⟩:=NF e2 e3 hx;have exa:=g3 _ _ exa;have er':(W.drop k)[i]?=some r:=by rw[List.getElem?_drop];exact er
  have hi:i<(W.drop k).length:=(Zj.mp er').1;have hr0:=hne r (Zg er);have tk:(W.drop k).take (i+1)=(W.drop k).take i++[r]:=by rw[List.take_add_one,er'];rfl
  obtain⟨w0,rt,rfl⟩:∃w0 rt,r=w0::rt:=by cases r with
   |nil=>exact absurd rfl hr0
   |cons w0 rt=>exact⟨w0,rt,rfl⟩
  refine⟨_,rfl,(aI xa _ _ (vx w0) rfl (aU rfl (SqL.of exa) (cE (j:=0) rfl) _ rfl ⟨ rfl,_,rfl,cO (fun c=>?_) (fun c=>?_)⟩))⟩
  ·have c:w0≠wd:=fun z=>by rw[z]at c;simp at c
   have er2:run wd (W.drop k)=((W.drop k).take i).map (·.drop 1):=by
    unfold TX.run;have e:W.drop k=(W.drop k).take i++(W.drop k).drop i:=(List.take_append_drop _ _).symm;rw[e,rD]
    ·rw[←e]
    ·intro y hy;exact List.all_eq_true.mp ha y hy
    ·intro y hy;rw[List.head?_drop,er']at hy;cases hy;exact beq_eq_false_iff_ne.mpr fun z=>c (Option.some.inj z)
   refine⟨_,rfl,q tl H' htl g3 ?_⟩;rw[er2];refine⟨tr,t1,by rw[Zq,Yx];exact t2,fun j r hr=>?_⟩;rw[Zk]at hr;obtain⟨r',h1,rfl⟩:=Xk.mp hr;exact t5 j r' h1
  ·have c:w0=wd:=by
    have c:V.str (sT w0)=V.str (sT wd):=by simpa using c
    exact fW (V.str.inj c)
   subst c;refine(bE _ rfl (.inl ⟨rfl,_,SqL.of t1⟩) _ rfl (aJ 1 rfl xa _ rfl ⟨ SqL.of exa,fun pn hpn=>?_⟩));have e1d:fF (vxs (w0::rt)) (some 1) none=vxs rt:=(gF _ 1).trans rfl;rw[e1d];have g4:=aH hpn (.lst (vxs rt));have pt:pn≠tl:=(cM t1 hpn).symm;have ps:pn≠sl:=(cM es hpn).symm;refine(cQ tl _ _ rfl rfl (bF (g4 _ _ t1) ?_ ⟨_,rfl⟩ ((g3.trans g4).fresh htl _) (by rw[aP slt];exact g4 _ _ es) (uQ ?_ (tr++[pn]) ?_ ?_ ?_ ⟨ ?_,fun j r hj=>?_⟩)))
   ·rw[Zq,t2];exact Xq (by rw[Ym];omega:_≤30000) (by decide)
   ·rw[tk,List.all_append,ha];simp
   ·rw[Zt];exact aB
   ·rw[Zm,t2,ZQ];lia
   ·intro z;rcases Zf.mp z with z | z
    ·exact t3 z
    ·exact pt (Zb.mp z).symm
   ·intro z;rcases Zf.mp z with z | z
    ·exact t4 z
    ·exact ps (Zb.mp z).symm
   ·have tl2:tr.length=i:=by rw[t2];lia
    have ll:((W.drop k).take i).length=i:=by rw[Yx];lia
    rw[tk]at hj;by_cases h:j<i
    ·rw[Zx (by lia)]at hj;obtain⟨y,y1,y2⟩:=t5 j r hj;refine⟨y,by rw[Zx (by lia)];exact y1,?_⟩;rw[aP (show y≠tl from fun z=>t3 (z▸Zg y1))];exact g4 _ _ y2
    ·have hj2:j=i:=by
      have:=(Zj.mp hj).1;rw[Zm,ll]at this;simp at this;lia
     subst hj2;rw[Zy (by lia),ll,Nat.sub_self]at hj;cases hj;exact⟨pn,by rw[←tl2,Yy],by rw[aP pt];exact aB⟩
 ·rintro σ H' ⟨⟨v4,rfl⟩,g3,es,ha,tr,t1,t2,t3,t4,t5⟩;have ef:((rr.map V.ref).drop k).length=(W.drop k).length:=by rw[Ym,Zq,e2,Ym]
  rw[ef]at ha t2 t5;rw[List.take_of_length_le (Nat.le_refl _)]at ha t5;have er2:run wd (W.drop k)=(W.drop k).map (·.drop 1):=by
   unfold TX.run;have:=rD (p:=fun r:Rw=>r.head?==some wd) (a:=W.drop k) (b:=[]) (fun y hy=>List.all_eq_true.mp ha y hy) (fun x hx=>by cases hx);rw[List.append_nil]at this;rw[this]
  refine⟨_,rfl,q tl H' htl g3 ?_⟩;rw[er2];refine⟨tr,t1,by rw[Zq,t2];lia,fun j r hr=>?_⟩;rw[Zk]at hr;obtain⟨r',h1,rfl⟩:=Xk.mp hr;exact t5 j r' h1
end K75
namespace TX
open L2 GR
def rdT(w:List Nat):Option (Int×Int):=if w=[45] then some (0,0) else if w≠[]∧w.count 108+w.count 114=w.length then some ((w.count 108:Int),(w.count 114:Int)) else none
theorem sJ:ZT "-" = sT [45]:=by decide +kernel
theorem e_l:ZT "l" = sT [108]:=by decide +kernel
theorem e_r:ZT "r" = sT [114]:=by decide +kernel
end TX
namespace K75
open PySem L2 PyProof.Rows TX GR
def VA:Sp:=fun vs H Q E=>∃(z:Str) (w:List Nat),vs=[.str z]∧z=sT w∧w.length≤20000∧(∀a b,rdT w=some (a,b)→∀D H',H D=none→aO H H'→H' D=some (.lst [.int a,.int b])→Q (.ref D) H')∧(rdT w=none→∀x H',aO H H'→E (.ref x) none H')
theorem T5(T:Txt K mg t):cU P w K mg base (CXr P w t.a7) 2 t.qX t.qP ["word"] VA:=by
 refine T.qL.F.okX oS (fun vs H Q E h=>?_) (fun cdv A outer s H vs Q E hr h=>?_)
 ·obtain⟨z,w,rfl,_⟩:=h;rfl
 obtain⟨z,wd,rfl,rfl,hl,q,qe⟩:=h;have nd:=oS.nd;refine⟨_,(aG (cH (aS dO (pv 0) aY (bA _)) (aL (a8 (bI (aA aE (aA aE aC))))) bG)
  (aG (bQ (bP (fB T) hr T.cK iI (aA (AF (pv 0) (rX (cZ dO (aM bM (dE mCo hJ (pv 0) (aA aY aC)) (dE mCo hJ (pv 0) (aA aY aC))) (aW eU rfl T.cP PySem.boot_len (aA (pv 0) aC)) (bA _)))) aC)))
  (aL (a8 (bI (aA (dE mCo hJ (pv 0) (aA aY aC)) (aA (dE mCo hJ (pv 0) (aA aY aC)) aC))))))),?_⟩
 have sz:(sT wd).length≤ZW:=by rw[cG];exact YQ (by lia:_≤20000) (by decide)
 by_cases h0:wd=[45]
 ·subst h0;have e:rdT [45]=some (0,0):=if_pos rfl;refine(bE _ rfl rfl _ rfl (oZ (by rw[sJ];simp) ⟨(by show 2≤ZW;decide),fun D hD=>q 0 0 e D _ hD (aH hD _) aB⟩))
 ·refine(bE _ rfl rfl _ rfl (jC (by rw[sJ];simp;exact fun z=>h0 (fW z)) ?_));by_cases he:wd=[]
  ·have e:rdT wd=none:=by unfold rdT;rw[if_neg h0,if_neg (fun z=>z.1 he)]
   subst he;exact⟨_,rfl,false,⟨sz,rfl⟩,iU (a9 _ false rfl ⟨sz,rfl⟩ (fun z=>Bool.noConfusion z) (fun _ x=>qe e x _ (aO.refl _)))⟩
  ·have wl:1≤wd.length:=List.length_pos_iff.mpr he;refine⟨_,rfl,true,⟨sz,by rw[cG];symm;rw[bne_iff_ne];lia⟩,fR ⟨_,rfl,rfl,(aI _ _ wd 108 rfl (aU rfl rfl e_l _ rfl ⟨ rfl,(aI _ _ wd 114 rfl ⟨ rfl,(aN rfl e_r _ _ rfl (bJ rfl _ rfl _ rfl (aN sz rfl _ _ rfl ⟨ rfl,fun cb=>?_,fun cb x=>?_⟩)))⟩)⟩))⟩⟩
   ·have cb:((wd.count 108:Nat):Int)+((wd.count 114:Nat):Int)=((sT wd).length:Int):=V.int.inj (of_decide_eq_true cb);rw[cG]at cb;have e:rdT wd=some ((wd.count 108:Int),(wd.count 114:Int)):=by unfold rdT;rw[if_neg h0,if_pos ⟨he,by lia⟩]
    exact⟨_,rfl,rfl,(aI _ _ wd 108 rfl (aU rfl rfl e_l _ rfl ⟨ rfl,(aI _ _ wd 114 rfl ⟨ rfl,rfl,e_r,(by show 2≤ZW;decide),fun D hD=>q _ _ e D _ hD (aH hD _) aB⟩)⟩))⟩
   ·have cb:=of_decide_eq_false cb;refine qe ?_ x _ (aO.refl _);unfold rdT;rw[if_neg h0,if_neg];rintro⟨_,z⟩;apply cb;rw[cG];exact congrArg V.int (by lia)
end K75
namespace TX
open L2 GR
def jV:List Nat:=[116,117,114,110,115]
theorem F4:ZT "turns" = sT jV:=by decide +kernel
theorem e_1:ZT "1" = sT [49]:=by decide +kernel
theorem e_2:ZT "2" = sT [50]:=by decide +kernel
theorem e_3:ZT "3" = sT [51]:=by decide +kernel
theorem e_4:ZT "4" = sT [52]:=by decide +kernel
def Cn(w:List Nat):Bool:=w==[49]||w==[50]||w==[51]||w==[52]
def cv(w:List Nat):Int:=(w.headD 0:Int)-48
theorem Cn.is{w:List Nat}(h:Cn w=true):w=[49]∨w=[50]∨w=[51]∨w=[52]:=by
 unfold Cn at h;simp only[Bool.or_eq_true,beq_iff_eq]at h;rcases h with((h | h) | h) | h<;>simp[h]
theorem Cn.num{w:List Nat}(h:Cn w=true):num w=some (cv w):=by
 rcases Cn.is h with rfl | rfl | rfl | rfl
 ·exact oK 1 (by decide)
 ·exact oK 2 (by decide)
 ·exact oK 3 (by decide)
 ·exact oK 4 (by decide)
def rd1(ws:Rw):Option (List Int×List Int):=if ws.length=4∧ws.getD 0 []=jV∧Cn (ws.getD 1 [])=true∧Cn (ws.getD 3 [])=true then (rdT (ws.getD 2 [])).map fun p=>([cv (ws.getD 1 []),cv (ws.getD 3 [])],[p.1,p.2]) else none
def fK:List Rw→Option (List Int×List Int)
 |[]=>some ([],[])
 |r::W=>(rd1 r).bind fun x=>(fK W).map fun y=>(x.1++y.1,x.2++y.2)
theorem kN(r:Rw):∀W:List Rw,fK (W++[r])=(fK W).bind fun x=>(rd1 r).map fun y=>(x.1++y.1,x.2++y.2)
 |[]=>by
  show(rd1 r).bind (fun x=>(some ([],[])).map fun y=>(x.1++y.1,x.2++y.2))=(rd1 r).map fun y=>([]++y.1,[]++y.2)
  cases rd1 r<;>simp
 |s::W=>by
  show(rd1 s).bind (fun x=>(fK (W++[r])).map fun y=>(x.1++y.1,x.2++y.2))=((rd1 s).bind fun x=>(fK W).map fun y=>(x.1++y.1,x.2++y.2)).bind fun x=>(rd1 r).map fun y=>(x.1++y.1,x.2++y.2)
  rw[kN r W];cases rd1 s<;>cases fK W<;>cases rd1 r<;>simp
theorem pI{r:Rw}(h:rd1 r=none):∀{W:List Rw},r∈W→fK W=none
 |s::W,hm=>by
  show(rd1 s).bind (fun x=>(fK W).map fun y=>(x.1++y.1,x.2++y.2))=none;rcases Zn.mp hm with rfl | hm
  ·rw[h];rfl
  ·rw[pI h hm];cases rd1 s<;>rfl
end TX
namespace L2
open PySem PySem.Spec PyProof.Rows GR TX
theorem B6:1000000≤ZW:=by decide
def wY:List V:=[.str (ZT "1"),.str (ZT "2"),.str (ZT "3"),.str (ZT "4")]
theorem nE(w:List Nat):inV (vx w) wY=Cn w:=by
 have e:∀(x y:List Nat),eqV (.str (sT x)) (vx y)=(y==x):=fun x y=>by
  rw[Xg,beq_iff_eq];show(sT x==sT y)=true↔_;rw[beq_iff_eq];exact⟨fun z=>(fW z).symm,fun z=>by rw[z]⟩
 unfold inV wY;rw[e_1,e_2,e_3,e_4];simp only[List.any_cons,List.any_nil,e,Bool.or_false];unfold Cn;rw[Bool.or_assoc,Bool.or_assoc]
end L2
namespace K75
open PySem L2 PyProof.Rows TX GR
theorem AA{l:List Nat}:∀r∈rows l,r≠[]:=fun r hr=>by
 unfold rows at hr;obtain⟨p,_,rfl⟩:=Zh.mp hr;exact sV 32 p
theorem GY{l:List Nat}(h:l.length≤20000):(rows l).length≤20001:=by
 unfold rows;rw[Zq,hZ];have:l.count 10≤l.length:=List.count_le_length
 lia
theorem kL{l:List Nat}(ha:Asc l)(hn:l.length≤20000):∀r∈rows l,r.length≤20001∧∀x∈r,Asc x∧x.length≤20000:=fun r hr=>by
 unfold rows at hr;obtain⟨p,hp,rfl⟩:=Zh.mp hr;have h1:=lU 10 l hp;refine⟨?_,fun x hx=>⟨MG (MG ha hp) hx,?_⟩⟩
 ·rw[hZ];have:p.count 32≤p.length:=List.count_le_length
  lia
 ·have:=lU 32 p hx
  lia
theorem EV{ws:List (List Nat)}(h:some (HO.lst [])=some (HO.lst (vxs ws))):ws=[]:=by
 have:=HO.lst.inj (Option.some.inj h);exact List.map_eq_nil_iff.mp this.symm
theorem L9(T:Txt K mg t)(H:Hp):SqT K H t.dU wY:=.inr ⟨_,_,_,T.jQ,rfl,rfl,(by show 4≤ZW;decide),.cons ⟨_,rfl⟩ (.cons ⟨_,rfl⟩ (.cons ⟨_,rfl⟩ (.cons ⟨_,rfl⟩ .nil)))⟩
def SmB(H H':Hp)(C L:Addr):Prop:=∀b o,b≠C→b≠L→H b=some o→H' b=some o
def VB:Sp:=fun vs H Q E=>∃(z:Str) (l:List Nat),vs=[.str z]∧z=sT l∧Asc l∧l.length≤20000 ∧
 (∀cs ls,fK (rows l)=some (cs,ls)→∀r C L H',aO H H'→H' r=some (.tup [.ref C,.ref L])→H' C=some (.lst (cs.map V.int))→H' L=some (.lst (ls.map V.int))→Q (.ref r) H')∧(fK (rows l)=none→∀x H',aO H H'→E (.ref x) none H')
theorem T6(T:Txt K mg t):cU P w K mg base (CXr P w t.a7) 3 t.qY t.qQ ["text"] VB:=by
 refine T.gY.F.okX oU (fun vs H Q E h=>?_) (fun cdv A outer s H vs Q E hr h=>?_)
 ·obtain⟨z,l,rfl,_⟩:=h;rfl
 obtain⟨z,l,rfl,rfl,hasc,hl,q,qe⟩:=h;have nd:=oU.nd;refine⟨_,(aG (aZ 1 nd (bI aC))
  (aG (aZ 2 nd (bI aC))
  (aG (cR PassesOwn.leaving rfl (cD (bP (E9 T) hr T.sH bK (aA (pv 0) aC))) (aX (i:=3) nd rfl (Or.inl rfl)) (aG (bQ (bP (fB T) hr T.cK iI (aA (vN (cZ dO (aW aV rfl T.cP PySem.boot_len (aA (pv 3) aC)) aE (bA _)) (rX (cZ dO (aQ aT (pv 3) aE (fun _ _=>rfl)) aY (bA _)))) aC)))
  (aG (bQ (bP (fB T) hr T.cK iI (aA (vN (cZ oE (aQ aT (pv 3) aE (fun _ _=>rfl)) (dF (v:=.ref t.dU) rfl T.hV rfl) rfl) (rX (cZ oE (aQ aT (pv 3) aE (fun _ _=>rfl)) (dF (v:=.ref t.dU) rfl T.hV rfl) rfl))) aC)))
  (aG (bQ (lI PySem.F.plainAttrs_list PySem.F.slot_list_extend PySem.F.type_list_extend yR (pv 1) (aA (bP (KD T) hr T.iO iI (aA (bI (aA (aQ aT (pv 3) aE (fun _ _=>rfl)) (aA (aQ aT (pv 3) aE (fun _ _=>rfl)) aC))) aC)) aC)))
  (aL (bQ (lI PySem.F.plainAttrs_list PySem.F.slot_list_extend PySem.F.type_list_extend yR (pv 2) (aA (bP (T5 T) hr T.qL iI (aA (aQ aT (pv 3) aE (fun _ _=>rfl)) aC)) aC))))))))
  (aL (a8 (cS (aA (pv 1) (aA (pv 2) aC)))))))),?_⟩
 refine⟨(by show 0≤ZW;decide),fun C hC=>?_⟩;have b1:=aH hC (.lst []);refine⟨(by show 0≤ZW;decide),fun L hL=>?_⟩;have b2:=aH hL (.lst []);have CL:C≠L:=fun z=>by rw[←z,aB]at hL;cases hL
 have hL0:=b1.free hL;refine(aJ _ rfl _ l rfl ⟨ rfl,hl,fun RD H1 nR g1 hR=>?_⟩);obtain⟨rr,r1,r2,r3⟩:=hR;have RC:RD≠C:=fun z=>by rw[z,b2 _ _ aB]at nR;cases nR
 have RL:RD≠L:=fun z=>by rw[z,aB]at nR;cases nR
 have b12:=b1.trans b2;have rok:=kL hasc hl;have rlen:=GY hl;have rne:=AA (l:=l)
 let Pv1:Nat→L2.St→L2.Hp→Prop:=fun i σ H'=>∃cs ls,(∃v3,σ=[some (vx l),some (.ref C),some (.ref L),v3])∧aO H H'∧SmB H1 H' C L∧H' C=some (.lst (cs.map V.int))∧H' L=some (.lst (ls.map V.int))∧fK ((rows l).take i)=some (cs,ls)∧cs.length≤2*i∧ls.length≤2*i
 refine⟨RD,rfl,⟨_,SqL.of r1⟩,dR (xs:=rr.map V.ref) Pv1 (a9 ([]) ([]) ⟨_,rfl⟩ (b12.trans g1) (fun _ _ _ _ e=>e) ⟨ g1 _ _ (b2 _ _ aB),g1 _ _ aB,rfl,Nat.le_refl _,Nat.le_refl _⟩) (fun _ _ _ _ ⟨_,_,_,_,g,_⟩=>SqL.of (g _ _ RC RL r1)) ?_ ?_⟩
 ·rintro i x σ H2 hx ⟨cs,ls,⟨v3,rfl⟩,g2,sb,hC2,hL2,hrd,cl,ll⟩;have hi:i<(rows l).length:=by have:=(Zj.mp hx).1;rw[Zq,r2]at this;exact this
  obtain⟨y,y1,y2⟩:=r3 i _ (GR.aK hi);rw[Zk,y1]at hx;cases hx;have tk:(rows l).take (i+1)=(rows l).take i++[(rows l)[i]]:=by rw[List.take_add_one,GR.aK hi];rfl
  have hok:=rok _ (Zp hi);have hne:=rne _ (Zp hi);have hno:rd1 (rows l)[i]=none→fK (rows l)=none:=fun h=>pI h (Zp hi);generalize (rows l)[i]=ws at y2 tk hok hno hne;have yC:y≠C:=fun z=>by rw[z,g1 _ _ (b2 _ _ aB)]at y2;exact hne (EV y2)
  have yL:y≠L:=fun z=>by rw[z,g1 _ _ aB]at y2;exact hne (EV y2)
  have y3:=sb _ _ yC yL y2;have wl:((vxs ws).length:Int)=(ws.length:Int):=by unfold vxs;rw[Zq]
  refine(aJ _ rfl y _ rfl ⟨ .inl (SqL.of y3),rfl,_,rfl,cO (fun c=>?_) (fun c=>?_)⟩);rotate_left
  ·have c:¬ws.length=4:=fun z=>c (by rw[wl,z];rfl);exact(a9 _ _ rfl rfl (fun z=>absurd z (by decide)) (fun _ x=>qe (hno (by unfold rd1;rw[if_neg (fun z=>c z.1)])) x _ g2))
  have c:ws.length=4:=by have:=V.int.inj (of_decide_eq_true c);rw[wl]at this;lia
  obtain⟨w0,w1,w2,w3,rfl⟩:∃w0 w1 w2 w3,ws=[w0,w1,w2,w3]:=by
   match ws,c with
   |[w0,w1,w2,w3],_=>exact⟨w0,w1,w2,w3,rfl⟩
  refine⟨_,rfl,(aI y _ 0 _ rfl ⟨ rfl,SqL.of y3,(aN rfl rfl _ _ rfl ⟨ rfl,fun hb=>?_,fun hb x=>?_⟩)⟩)⟩;rotate_left
  ·have hb:=of_decide_eq_false hb;exact qe (hno (by unfold rd1;rw[if_neg (fun z=>hb (by have:w0=jV:=z.2.1;rw[this,F4]))])) x _ g2
  have h0:w0=jV:=by have:=of_decide_eq_true hb;rw[F4]at this;exact fW (V.str.inj this)
  refine⟨_,rfl,(aI y _ 1 _ rfl ⟨ rfl,(aN (SqL.of y3) rfl t.dU wY rfl (aU (.inr (L9 T _)) rfl rfl _ rfl (cO (fun c1=>?_) (fun c1=>?_))))⟩)⟩;rotate_left
  ·have c1:¬Cn w1=true:=fun z=>c1 (by rw[←nE]at z;exact z);exact(a9 _ _ rfl rfl (fun z=>absurd z (by decide)) (fun _ x=>qe (hno (by unfold rd1;rw[if_neg (fun z=>c1 z.2.2.1)])) x _ g2))
  have c1:Cn w1=true:=by rw[←nE];exact c1
  refine⟨_,rfl,(aI y _ 3 _ rfl ⟨ rfl,(aN (SqL.of y3) rfl t.dU wY rfl ⟨ .inr (L9 T _),(aN rfl rfl _ _ rfl ⟨ rfl,fun hb3=>?_,fun hb3 x=>?_⟩)⟩)⟩)⟩;rotate_left
  ·have c3:¬Cn w3=true:=fun z=>by rw[←nE]at z;exact absurd (z.symm.trans hb3) (by decide)
   exact qe (hno (by unfold rd1;rw[if_neg (fun z=>c3 z.2.2.2)])) x _ g2
  have c3:Cn w3=true:=by rw[←nE];exact hb3
  have er:rd1 [w0,w1,w2,w3]=(rdT w2).map fun p=>([cv w1,cv w3],[p.1,p.2]):=by unfold rd1;rw[if_pos ⟨rfl,h0,c1,c3⟩];rfl
  refine(bE _ rfl (.inl ⟨rfl,_,SqL.of hC2⟩) _ rfl (aI y _ 1 _ rfl (aU rfl (SqL.of y3) rfl _ rfl (aI y _ 3 _ rfl ⟨ rfl,SqL.of y3,rfl,(by show 2≤ZW;decide),fun z hz=>?_⟩))));have k1:=aH hz (.lst (vxs [w1,w3]));have em:[w1,w3].map num=[cv w1,cv w3].map some:=by rw[List.map_cons,List.map_cons,Cn.num c1,Cn.num c3];rfl
  refine(a9 z ([w1,w3]) rfl (SqL.of aB) (fun w' hw'=>?_) ⟨ by simp,fun ns hns D H3 nD g3 eD=>?_,fun hn=>absurd ⟨_,em⟩ hn⟩)
  ·refine hok.2 w' ?_;simp only[Zn,List.not_mem_nil,or_false]at hw' ⊢;rcases hw' with rfl | rfl<;>simp
  obtain rfl:ns=[cv w1,cv w3]:=(List.map_inj_right fun a b h=>Option.some.inj h).mp (hns.symm.trans em);have g13:=k1.trans g3;refine(aI C D _ _ rfl ⟨ rfl,g13 _ _ hC2,eD,YQ (by rw[Zq];show _+2≤1000000;lia) B6,?_⟩);have eC:upd H3 C (.lst (cs.map V.int++[cv w1,cv w3].map V.int)) C=some (.lst ((cs++[cv w1,cv w3]).map V.int)):=by rw[aB,Zt]
  have eL:upd H3 C (.lst (cs.map V.int++[cv w1,cv w3].map V.int)) L=some (.lst (ls.map V.int)):=by rw[aP (Ne.symm CL)];exact g13 _ _ hL2
  have y5:upd H3 C (.lst (cs.map V.int++[cv w1,cv w3].map V.int)) y=some (.lst (vxs [w0,w1,w2,w3])):=by rw[aP yC];exact g13 _ _ y3
  have g5:aO H (upd H3 C (.lst (cs.map V.int++[cv w1,cv w3].map V.int))):=(g2.trans g13).fresh hC _;have sb5:SmB H1 (upd H3 C (.lst (cs.map V.int++[cv w1,cv w3].map V.int))) C L:=fun b o n1 n2 e=>by rw[aP n1];exact g13 _ _ (sb b o n1 n2 e)
  generalize upd H3 C (.lst (cs.map V.int++[cv w1,cv w3].map V.int))=H5 at eC eL y5 g5 sb5 ⊢;refine(bE _ rfl (.inl ⟨rfl,_,SqL.of eL⟩) _ rfl (aI y _ 2 _ rfl ⟨ rfl,(aN (SqL.of y5) rfl _ w2 rfl ⟨ rfl,(hok.2 w2 (by simp)).2,fun a b hab D6 H6 nD6 g6 eD6=>?_,fun hn x H6 g6=>qe (hno (by rw[er,hn];rfl)) x _ (g5.trans g6)⟩)⟩));refine(aI L D6 _ _ rfl ⟨ rfl,g6 _ _ eL,(aN eD6 (YQ (by rw[Zq];show _+2≤1000000;lia) B6) (cs++[cv w1,cv w3]) (ls++[a,b]) ⟨_,rfl⟩ (bF ((g5.trans g6).fresh hL0 _) (fun b o n1 n2 e=>by rw[aP n2];exact g6 _ _ (sb5 b o n1 n2 e)) (by rw[aP CL];exact g6 _ _ eC) (by rw[aB,Zt];rfl) ?_ ⟨ by rw[Zm];show _+2≤_;lia,by rw[Zm];show _+2≤_;lia⟩))⟩);rw[tk,kN,hrd,er,hab];rfl
 ·rintro σ H2 ⟨cs,ls,⟨v3,rfl⟩,g2,sb,hC2,hL2,hrd,cl,ll⟩;rw[Zq,r2,Yw]at hrd;exact(cL _ rfl _ rfl (by show 2≤ZW;decide) (fun r hr=>q cs ls hrd r C L _ (g2.trans (aH hr _)) aB (aH hr _ _ _ hC2) (aH hr _ _ _ hL2)))
end K75
namespace TX
open PySem L2 GR
def acr(h:Int):Int:=if h=0 then 1 else if h=2 then -1 else 0
def upw(h:Int):Int:=if h=1 then 1 else if h=3 then -1 else 0
theorem SG{h:Int}(hh:h=0∨h=1∨h=2∨h=3):atI [V.int 1,V.int 0,V.int (-1),V.int 0] h=some (.int (acr h)):=by
 rcases hh with rfl | rfl | rfl | rfl<;>rfl
theorem QE{h:Int}(hh:h=0∨h=1∨h=2∨h=3):atI [V.int 0,V.int 1,V.int 0,V.int (-1)] h=some (.int (upw h)):=by
 rcases hh with rfl | rfl | rfl | rfl<;>rfl
theorem UV(h:Int) : -1≤acr h∧acr h≤1:=by unfold acr;split<;>(try split)<;>lia
theorem SZ(h:Int) : -1≤upw h∧upw h≤1:=by unfold upw;split<;>(try split)<;>lia
def hdL(c:Nat):Int:=if c=101 then 0 else if c=110 then 1 else if c=119 then 2 else if c=115 then 3 else -1
theorem hd4{c:Nat}(h:0≤hdL c):hdL c=0∨hdL c=1∨hdL c=2∨hdL c=3:=by
 unfold hdL at h ⊢;split at h<;>(try split at h)<;>(try split at h)<;>(try split at h)<;>simp_all
theorem OT:Txt.find (ZT "enws") (sT [])=0:=by decide +kernel
theorem yS(c:Nat):Txt.find (ZT "enws") (sT [c])=hdL c:=by
 unfold hdL;by_cases h1:c=101
 ·subst h1;decide +kernel
 by_cases h2:c=110
 ·subst h2;decide +kernel
 by_cases h3:c=119
 ·subst h3;decide +kernel
 by_cases h4:c=115
 ·subst h4;decide +kernel
 rw[if_neg h1,if_neg h2,if_neg h3,if_neg h4];have h:=StrLaws.found_one (ZT "enws") c;have e:(ZT "enws").cps.toList=[101,110,119,115]:=by decide +kernel
 rw[e]at h;have:decide (c∈([101,110,119,115]:List Nat))=false:=decide_eq_false (by simp[h1,h2,h3,h4]);rw[this]at h;unfold Txt.find;rw[show sT [c]=(⟨#[c]⟩:Str) from rfl];cases ho:Builtin.Str.occurrences (ZT "enws") ⟨#[c]⟩ 0 (ZT "enws").length 1 with
 |nil=>rfl
 |cons i r=>rw[ho]at h;cases h
noncomputable def e9(p:Pt):List Nat→Option Pt
 |[]=>none
 |c::r=>if 0≤hdL c then (num r).bind fun n=>if 1≤n then some (p.1+n*acr (hdL c),p.2+n*upw (hdL c)) else none else none
theorem KJ:num []=none:=mH fun h=>absurd h.1.1.1 (by decide)
end TX
namespace K75
open PySem L2 PyProof.Rows TX GR
theorem VZ(T:Txt K mg t)(H:Hp):SqT K H t.fQ [V.int 1,V.int 0,V.int (-1),V.int 0]:=.inr ⟨_,_,_,T.mB,rfl,rfl,(by show 4≤ZW;decide),.cons ⟨_,rfl⟩ (.cons ⟨_,rfl⟩ (.cons ⟨_,rfl⟩ (.cons ⟨_,rfl⟩ .nil)))⟩
theorem U2(T:Txt K mg t)(H:Hp):SqT K H t.fP [V.int 0,V.int 1,V.int 0,V.int (-1)]:=.inr ⟨_,_,_,T.l9,rfl,rfl,(by show 4≤ZW;decide),.cons ⟨_,rfl⟩ (.cons ⟨_,rfl⟩ (.cons ⟨_,rfl⟩ (.cons ⟨_,rfl⟩ .nil)))⟩
def VF:Sp:=fun vs H Q _=>∃(a:Addr) (p:Pt) (h n:Int),vs=[.ref a,.int h,.int n]∧PtA H a p∧(h=0∨h=1∨h=2∨h=3)∧∀D,H D=none→Q (.ref D) (upd H D (.tup [.int (p.1+n*acr h),.int (p.2+n*upw h)]))
theorem T9(T:Txt K mg t):cU P w K mg base CX0 1 t.nJ t.m8 ["point","head","by"] VF:=by
 refine T.mT.F.ok uA (fun vs H Q E h=>?_) (fun cdv A outer s H vs Q E hr h=>?_)
 ·obtain⟨a,p,h,n,rfl,_⟩:=h;rfl
 obtain⟨a,p,h,n,rfl,ha,h4,q⟩:=h;refine⟨_,(aL (a8 (cS (aA (aM bM (aQ bW (pv 0) aE (fun _ _=>rfl)) (aM cW (pv 2) (aQ bW (dF (v:=.ref t.fQ) rfl T.mP rfl) (pv 1) (fun _ _=>rfl)))) (aA (aM bM (aQ bW (pv 0) aE (fun _ _=>rfl)) (aM cW (pv 2) (aQ bW (dF (v:=.ref t.fP) rfl T.mO rfl) (pv 1) (fun _ _=>rfl)))) aC))))),?_⟩;have b1:=UV h;have b2:=SZ h;exact⟨_,rfl,(aI a _ 0 _ rfl (aU rfl (SqT.of ha) rfl _ rfl ⟨ _,rfl,(aI t.fQ _ _ _ rfl ⟨ rfl,(aN (VZ T _) (SG h4) _ _ rfl (aN rfl (.inr ⟨by lia,by omega⟩) _ _ rfl ⟨ rfl,_,rfl,(aI a _ 1 _ rfl (aU rfl (SqT.of ha) rfl _ rfl ⟨ _,rfl,(aI t.fP _ _ _ rfl ⟨ rfl,(aN (U2 T _) (QE h4) _ _ rfl (aN rfl (.inr ⟨by lia,by omega⟩) _ _ rfl ⟨ rfl,(by show 2≤ZW;decide),fun D hD=>q D hD⟩))⟩)⟩))⟩))⟩)⟩))⟩
def M5:Sp:=fun vs H Q E=>∃(a:Addr) (z:Str) (p:Pt) (w:List Nat),vs=[.ref a,.str z]∧z=sT w∧PtA H a p∧Asc w∧w.length≤20000∧(∀r,e9 p w=some r→∀D H',H D=none→aO H H'→PtA H' D r→Q (.ref D) H')∧(e9 p w=none→∀x H',aO H H'→E (.ref x) none H')
theorem KC(T:Txt K mg t):cU P w K mg base (CXr P w t.a7) 2 t.tW t.tO ["point","word"] M5:=by
 refine T.tL.F.okX pV (fun vs H Q E h=>?_) (fun cdv A outer s H vs Q E hr h=>?_)
 ·obtain⟨a,z,p,w,rfl,_⟩:=h;rfl
 obtain⟨a,z,p,w,rfl,rfl,ha,hasc,hl,q,qe⟩:=h;have nd:=pV.nd;refine⟨_,(aG (aZ 2 nd (lI PySem.F.plainAttrs_str PySem.F.slot_str_find PySem.F.type_str_find OF (dF (v:=.str (ZT "enws")) rfl T.dI ⟨_,rfl⟩) (aA (bC iA (pv 1) bB (bH aE)) aC)))
  (aG (bQ (bP (fB T) hr T.cK iI (aA (cZ J3 (pv 2) aE (bA _)) aC)))
  (aG (aZ 3 nd (bP (PU T) hr T.jH iI (aA (bC iA (pv 1) (bH aE) bB) aC)))
  (aG (bQ (bP (fB T) hr T.cK iI (aA (cZ J3 (pv 3) aE (bA _)) aC)))
  (aL (a8 (bP (T9 T) hr T.mT bK (aA (pv 0) (aA (pv 2) (aA (pv 3) aC)))))))))),?_⟩
 refine(bJ rfl _ rfl 1 rfl (a9 _ w rfl rfl (by lia) ⟨ _,_,rfl,rfl,?_⟩));rw[show(some (1:Int))=some ((1:Nat):Int) from rfl,kX];cases w with
 |nil =>
  show bT 2 (V.int (Txt.find (ZT "enws") (sT []))) _ _ _;rw[OT];refine(aJ _ rfl _ _ rfl (bN rfl _ _ rfl rfl ⟨ fun _=>?_,fun hb=>absurd hb (by decide)⟩));exact⟨_,rfl,(aJ 1 rfl _ ([]) rfl (aN rfl (by lia) _ ([]) rfl ⟨ rfl,hasc,by decide,fun n hn=>absurd (hn.symm.trans KJ) (by simp),fun _ x H1 g1=>qe rfl x H1 g1⟩))⟩
 |cons c r =>
  show bT 2 (V.int (Txt.find (ZT "enws") (sT [c]))) _ _ _;rw[yS];refine(aJ _ rfl _ _ rfl (bN rfl _ _ rfl rfl ⟨ fun hb=>?_,fun hb x=>?_⟩));rotate_left
  ·have hb:=of_decide_eq_false hb;exact qe (if_neg hb) x _ (aO.refl _)
  have hb:0≤hdL c:=of_decide_eq_true hb;have er:e9 p (c::r)=(num r).bind fun n=>if 1≤n then some (p.1+n*acr (hdL c),p.2+n*upw (hdL c)) else none:=if_pos hb
  refine⟨_,rfl,(aJ 1 rfl _ (c::r) rfl (aN rfl (by lia) _ r rfl ⟨ ?_,fun d hd=>hasc d (Zw _ hd),by rw[Yq]at hl;lia,fun n hn H1 g1=>?_,fun hn x H1 g1=>qe (by rw[er,hn];rfl) x H1 g1⟩))⟩
  ·rw[show(some (1:Int))=some ((1:Nat):Int) from rfl,fO];rfl
  refine(aJ _ rfl _ _ rfl (bN rfl _ _ rfl rfl ⟨ fun hb2=>?_,fun hb2 x=>?_⟩));rotate_left
  ·have hb2:¬1≤n:=of_decide_eq_false hb2;exact qe (by rw[er,hn];exact if_neg hb2) x _ g1
  have hb2:1≤n:=of_decide_eq_true hb2;exact⟨_,(bJ rfl _ rfl _ rfl (aI a p _ n rfl ⟨ g1 _ _ ha,hd4 hb,fun D hD=>q _ (by rw[er,hn];exact if_pos hb2) D _ (g1.free hD) (g1.trans (aH hD _)) aB⟩))⟩
end K75
namespace TX
open PySem L2 GR
noncomputable def fE:Pt→List (List Nat)→Option (List Pt)
 |_,[]=>some []
 |p,w::W=>(e9 p w).bind fun r=>(fE r W).map fun l=>r::l
noncomputable def bU(ws:Rw):Option (List Pt):=if 2<ws.length then (num (ws.getD 0 [])).bind fun a=>(num (ws.getD 1 [])).bind fun b=>(fE (a,b) (ws.drop 2)).map fun l=>(a,b)::l else none
theorem P3{p r:Pt}{w:List Nat}{W all:List (List Nat)}{p0:Pt}{l:List Pt}(h:fE p0 all=(fE p (w::W)).map fun l'=>l++l')(hs:e9 p w=some r):fE p0 all=(fE r W).map fun l'=>(l++[r])++l':=by
 rw[h];show((e9 p w).bind fun r=>(fE r W).map fun l=>r::l).map _=_;rw[hs];show((fE r W).map fun l=>r::l).map _=_;cases fE r W<;>simp
theorem FV{p:Pt}{w:List Nat}{W all:List (List Nat)}{p0:Pt}{l:List Pt}(h:fE p0 all=(fE p (w::W)).map fun l'=>l++l')(hs:e9 p w=none):fE p0 all=none:=by
 rw[h];show((e9 p w).bind fun r=>(fE r W).map fun l=>r::l).map _=_;rw[hs];rfl
end TX
namespace K75
open PySem L2 PyProof.Rows TX GR
def VD:Sp:=fun vs H Q E=>∃(p:Addr) (ws:Rw),vs=[.ref p]∧H p=some (.lst (vxs ws))∧(∀w∈ws,Asc w∧w.length≤20000)∧ws.length≤20000∧(∀l,bU ws=some l→∀D H',H D=none→aO H H'→TsI H' D l→Q (.ref D) H')∧(bU ws=none→∀x H',aO H H'→E (.ref x) none H')
theorem T7(T:Txt K mg t):cU P w K mg base (CXr P w t.a7) 5 t.tY t.tQ ["words"] VD:=by
 refine T.tM.F.okX pX (fun vs H Q E h=>?_) (fun cdv A outer s H vs Q E hr h=>?_)
 ·obtain⟨p,ws,rfl,_⟩:=h;rfl
 obtain⟨p,ws,rfl,hp,hw,hl,q,qe⟩:=h;have nd:=pX.nd;refine⟨_,(aG (aZ 1 nd (bP (FA T) hr T.mS iI (aA (bC cC (pv 0) bB (bH aE)) aC)))
  (aG (bQ (bP (fB T) hr T.cK iI (aA (cZ B0 (aW aV rfl T.cP PySem.boot_len (aA (pv 0) aC)) aE (bA _)) aC)))
  (aG (aZ 2 nd (bI (aA (pv 1) aC)))
  (aG (cR PassesOwn.leaving rfl (cD (bC cC (pv 0) (bH aE) bB)) (aX (i:=3) nd rfl (Or.inl rfl)) (aG (aZ 1 nd (bP (KC T) hr T.tL iI (aA (pv 1) (aA (pv 3) aC))))
  (aL (bQ (dE mAp bR (pv 2) (aA (pv 1) aC))))))
  (aL (a8 (pv 2))))))),?_⟩
 have wl:((vxs ws).length:Int)=(ws.length:Int):=by unfold vxs;rw[Zq]
 have c2:fF (vxs ws) none (some 2)=vxs (ws.take 2):=by rw[show(some (2:Int))=some ((2:Nat):Int) from rfl,kW];exact List.map_take.symm
 have c3:fF (vxs ws) (some 2) none=vxs (ws.drop 2):=by rw[show(some (2:Int))=some ((2:Nat):Int) from rfl,gF];exact List.map_drop.symm
 refine⟨_,rfl,(aJ _ rfl p _ rfl ⟨ SqL.of hp,fun z hz=>?_⟩)⟩;rw[c2];have k1:=aH hz (.lst (vxs (ws.take 2)));refine(a9 z (ws.take 2) rfl (SqL.of aB) (fun w hw'=>hw w (List.mem_of_mem_take hw')) ⟨ by rw[Yx];lia,fun a b hab D H1 nD g1 eD=>?_,fun hno x H1 g1=>qe ?_ x H1 (k1.trans g1)⟩);rotate_left
 ·unfold bU;by_cases c:2<ws.length
  ·rw[if_pos c]
   match ws,c with
   |x::y::W,_ =>
    show(num x).bind (fun a=>(num y).bind fun b=>_)=none;cases hx:num x with
    |none=>rfl
    |some a =>
     cases hy:num y with
     |none=>rfl
     |some b=>exact absurd ⟨a,b,by show[num x,num y]=_;rw[hx,hy]⟩ hno
  ·exact if_neg c
 have g01:=k1.trans g1;have hp1:=g01 _ _ hp;dsimp only[bT];refine(aJ _ rfl p _ rfl (bN (.inl (SqL.of hp1)) _ _ rfl rfl (a9 _ _ rfl rfl (fun cb=>?_) (fun cb x=>?_))));rotate_left
 ·have cb:¬(2:Int)<((vxs ws).length:Int):=of_decide_eq_false cb;rw[wl]at cb;exact qe (by unfold bU;exact if_neg (by lia)) x _ g01
 have cb:(2:Int)<((vxs ws).length:Int):=of_decide_eq_true cb;rw[wl]at cb;have er:bU ws=(fE (a,b) (ws.drop 2)).map fun l=>(a,b)::l:=by
  unfold bU;rw[if_pos (by lia)]
  match ws,cb,hab with
  |x::y::W,_,hab =>
   have hx:num x=some a:=by injection hab
   have hy:num y=some b:=by injection hab with _ h;injection h
   show(num x).bind (fun a=>(num y).bind fun b=>(fE (a,b) W).map fun l=>(a,b)::l)=_;rw[hx,hy];rfl
 refine⟨_,rfl,(by show 1≤ZW;decide),fun Ln hLn=>?_⟩;have k2:=aH hLn (.lst [V.ref D]);dsimp only[bT];refine⟨_,rfl,(aJ _ rfl p _ rfl ⟨ SqL.of (k2 _ _ hp1),fun R hR=>?_⟩)⟩;rw[c3];have k3:=aH hR (.lst (vxs (ws.drop 2)));have nLR:R≠Ln:=fun e=>by rw[e,aB]at hR;cases hR
 have g03:=g01.trans (k2.trans k3);have hLn0:H Ln=none:=g01.free hLn
 let Pv1:Nat→L2.St→L2.Hp→Prop:=fun k σ H'=>∃(pk:Pt) (pa:Addr) (l:List Pt) (tr:List Addr),(∃v3,σ=[some (.ref p),some (.ref pa),some (.ref Ln),v3])∧aO H H'∧H' R=some (.lst (vxs (ws.drop 2)))∧PtA H' pa pk∧H' Ln=some (.lst (tr.map V.ref))∧PtR H' tr ((a,b)::l)∧l.length=k∧fE (a,b) (ws.drop 2)=(fE pk ((ws.drop 2).drop k)).map fun l'=>l++l'
 refine⟨R,rfl,⟨_,SqL.of aB⟩,dR (xs:=vxs (ws.drop 2)) Pv1 (aI (a,b) D ([]) ([D]) ⟨_,rfl⟩ (bF g03 aB (k3 _ _ (k2 _ _ eD)) (k3 _ _ aB) (.cons (k3 _ _ (k2 _ _ eD)) .nil) ⟨ rfl,by rw[List.drop_zero];cases fE (a,b) (ws.drop 2)<;>simp⟩)) (fun _ _ _ _ ⟨_,_,_,_,_,_,h,_⟩=>SqL.of h) ?_ ?_⟩
 ·rintro k x σ H2 hx ⟨pk,pa,l,tr,⟨v3,rfl⟩,g2,r2,pk2,ln2,tr2,lk,hgo⟩;have hk:k<(ws.drop 2).length:=by have:=(Zj.mp hx).1;unfold vxs at this;rw[Zq]at this;exact this
  unfold vxs at hx;rw[Zk,GR.aK hk]at hx;cases hx;have ed:(ws.drop 2).drop k=(ws.drop 2)[k]::(ws.drop 2).drop (k+1):=List.drop_eq_getElem_cons hk;rw[ed]at hgo;have hwk:=hw _ (List.mem_of_mem_drop (Zp hk));have hkl:k≤20000:=by rw[Ym]at hk;lia
  generalize (ws.drop 2)[k]=wk at hgo hwk;refine⟨_,rfl,_,rfl,(aI pa _ pk wk rfl (bF rfl pk2 hwk.1 hwk.2 (fun r hr D3 H3 nD3 g3 e3=>?_) (fun hn x H3 g3=>qe (by rw[er,FV hgo hn];rfl) x _ (g2.trans g3))))⟩;have trl:=tr2.len;dsimp only[bT];refine(bE _ rfl (.inl ⟨rfl,_,SqL.of (g3 _ _ ln2)⟩) _ rfl (cQ Ln _ _ rfl rfl ⟨ g3 _ _ ln2,Xz (by rw[Zq,trl,Yq];lia:_<1000000) B6,(aI r D3 (l++[r]) (tr++[D3]) ⟨_,rfl⟩ (bF ((g2.trans g3).fresh hLn0 _) ((aP nLR).trans (g3 _ _ r2)) ?_ (by rw[aB,Zt];rfl) ?_ ⟨ by rw[Zm,lk];rfl,P3 hgo hr⟩))⟩))
  ·exact(aP (fun z=>by rw[PtA,z,g3 _ _ ln2]at e3;cases e3)).trans e3
  ·exact(PtR.app (.cons e3 .nil) (tr2.same g3)).other (g3 _ _ ln2) _
 ·rintro σ H2 ⟨pk,pa,l,tr,⟨v3,rfl⟩,g2,r2,pk2,ln2,tr2,lk,hgo⟩;have e:(ws.drop 2).drop (vxs (ws.drop 2)).length=[]:=by unfold vxs;rw[Zq];exact List.drop_length
  rw[e]at hgo;refine⟨_,rfl,q ((a,b)::l) (by rw[er,hgo];simp[fE]) Ln H2 hLn0 g2 (tr2.ts ln2)⟩
end K75
namespace L2
open PySem PySem.Spec PyProof.Rows
theorem w6{J:It}{js:List (Option Nat)}{σ:St}{H1:Hp}{R:Hp→Prop}{D:Addr}{g:TG}{te:TE}(n:Nat)(Pe:Nat→Hp→Addr→Prop)(mono:∀i H H' a,aO H H'→Pe i H a→Pe i H' a)(stab:∀i H ys o a,H D=some (.lst ys)→a≠D→Pe i H a→Pe i (upd H D o) a)(hD:H1 D=none)(hn:n≤100000)
  (go:∀i H',i<n→aO H1 H'→J.go i H') (stop:∀H',aO H1 H'→J.stop n H')
  (hs:∀i H' x H'' (k:V→Hp→Prop),i<n→aO H1 H'→J.yld i H' x H''→(∀a H4,Pe i H4 a→H' a=none→aO H' H4→k (.ref a) H4)→g x (inner js σ) H'' fun σ2 H2=>Fills (inner js σ) σ2∧te σ2 H2 k)
  (hd:∀(rr:List Addr) H',rr.length=n→(∀a∈rr,H1 a=none∧a≠D)→(∀(i:Nat) a,rr[i]?=some a→Pe i H' a)→aO H1 H'→H' D=some (.lst (rr.map V.ref))→R H') :
  ∃W:Nat→Nat→List V→Hp→Prop,(∃m,W 0 m [] (upd H1 D (.lst []))) ∧
   ∀i m ys H,W i m ys H→(J.stop i H∧R H)∨(J.go i H∧∃N:List V→Hp→Prop,(∀ys' H',N ys' H'→∃m',m' < m∧W (i+1) m' ys' H')∧∀x H',J.yld i H x H'→g x (inner js σ) H' fun σ2 H2=>Fills (inner js σ) σ2∧sU σ2 H2 fun b H3 =>
    if b=true then te σ2 H3 fun y H4=>H4 D=some (.lst ys)∧ys.length<ZW∧N (ys++[y]) (upd H4 D (.lst (ys++[y]))) else N ys H3):=by
 refine comp_map n (fun i ys H'=>∃rr:List Addr,ys=rr.map V.ref∧rr.length=i∧(∀a∈rr,H1 a=none)∧(∀(j:Nat) a,rr[j]?=some a→Pe j H' a)∧D∉rr∧aO H1 H'∧H' D=some (.lst (rr.map V.ref))) ⟨[],rfl,rfl,fun a h=>by simp at h,fun j a h=>by simp at h,by simp,aH hD _,aB⟩ ?_ ?_
 ·rintro i ys H' hi ⟨rr,rfl,hl,hN,hp,nD,g1,eD⟩;refine⟨go i H' hi g1,fun x H'' hy=>hs i H' x H'' _ hi g1 hy fun a H4 hP ha g4=>⟨g4 _ _ eD,?_,rr++[a],?_,?_,?_,?_,?_,?_,?_⟩⟩
  ·rw[Zq,hl];exact Xz hi (YQ hn (by decide))
  ·rw[Zt];rfl
  ·simp[hl]
  ·intro b hb;rcases Zf.mp hb with z | z
   ·exact hN b z
   ·rw[Zb.mp z];exact g1.free ha
  ·have aD:a≠D:=fun z=>by rw[z,eD]at ha;cases ha
   intro j b hb;by_cases hj:j<i
   ·rw[Zx (by lia)]at hb;exact stab j H4 _ _ b (g4 _ _ eD) (fun z=>nD (z▸Zg hb)) (mono j _ _ b g4 (hp j b hb))
   ·have hj2:j=i:=by
     have:=(Zj.mp hb).1;simp at this;lia
    subst hj2;rw[←hl,Yy]at hb;cases hb;exact stab _ H4 _ _ _ (g4 _ _ eD) aD (hl▸hP)
  ·intro z;rcases Zf.mp z with z | z
   ·exact nD z
   ·have:=Zb.mp z;rw[←this,eD]at ha;cases ha
  ·exact(g1.trans g4).fresh hD _
  ·rw[Zt];exact aB
 ·rintro ys H' ⟨rr,rfl,hl,hN,hp,nD,g1,eD⟩;exact⟨stop H' g1,hd rr H' hl (fun a ha=>⟨hN a ha,fun z=>nD (z▸ha)⟩) hp g1 eD⟩
theorem mL{α:Type}(R:Nat→α→Prop):∀n:Nat,(∀i,i<n→∃x,R i x)→∃xs:List α,xs.length=n∧∀(i:Nat) x,xs[i]?=some x→R i x
 |0,_=>⟨[],rfl,fun i x h=>by simp at h⟩
 |n+1,h=>by
  obtain⟨xs,h1,h2⟩:=mL R n fun i hi=>h i (by lia);obtain⟨x,hx⟩:=h n (by lia);refine⟨xs++[x],by simp[h1],fun i y e=>?_⟩;by_cases hi:i<n
  ·rw[Zx (by lia)]at e;exact h2 i y e
  ·have:=(Zj.mp e).1;rw[Zm,h1,ZQ]at this;have hi2:i=n:=by lia
   subst hi2;rw[←h1,Yy]at e;cases e;exact hx
end L2
namespace TX
open PySem L2 GR
def fS{α:Type}:List (Option α)→Option (List α)
 |[]=>some []
 |x::l=>x.bind fun a=>(fS l).map fun r=>a::r
theorem sM{α:Type}:∀l:List α,fS (l.map some)=some l
 |[]=>rfl
 |x::l=>by show(fS (l.map some)).map (fun r=>x::r)=_;rw[sM l];rfl
theorem oN{α:Type}:∀{l:List (Option α)},none∈l→fS l=none
 |x::l,h=>by
  show x.bind (fun a=>(fS l).map fun r=>a::r)=none;rcases Zn.mp h with rfl | h
  ·rfl
  ·rw[oN h];cases x<;>rfl
noncomputable def dN(ws:Rw):Option Pt:=if ws.length=2 then (num (ws.getD 0 [])).bind fun a=>(num (ws.getD 1 [])).map fun b=>(a,b) else none
theorem BU{ws:Rw}{a b:Int}(h:ws.map num=[some a,some b]):dN ws=some (a,b):=by
 have hl:ws.length=2:=by have:=congrArg List.length h;simpa using this
 match ws,hl,h with
 |[x,y],_,h =>
  have hx:num x=some a:=by injection h
  have hy:num y=some b:=by injection h with _ h;injection h
  show(if 2=2 then (num x).bind fun a=>(num y).map fun b=>(a,b) else none)=_;rw[if_pos rfl,hx,hy];rfl
theorem G0{ws:Rw}(h:¬∃a b:Int,ws.map num=[some a,some b]):dN ws=none:=by
 unfold dN;by_cases c:ws.length=2
 ·rw[if_pos c]
  match ws,c with
  |[x,y],_ =>
   show(num x).bind (fun a=>(num y).map fun b=>(a,b))=none;cases hx:num x with
   |none=>rfl
   |some a =>
    cases hy:num y with
    |none=>rfl
    |some b=>exact absurd ⟨a,b,by show[num x,num y]=_;rw[hx,hy]⟩ h
 ·exact if_neg c
def DrS(W:List Rw):Prop:=run cB W≠[]∧run dA (W.drop (run cB W).length)≠[]∧(run cB W).length+(run dA (W.drop (run cB W).length)).length=W.length
noncomputable def rdD(W:List Rw):Option (List Pt×List (List Pt)):=open Classical in if DrS W then (fS ((run cB W).map dN)).bind fun sp=>(fS ((run dA (W.drop (run cB W).length)).map bU)).map fun ll=>(sp,ll) else none
end TX
namespace K75
open PySem L2 PyProof.Rows TX GR
theorem IS{H:Hp}{a D:Addr}{l:List Pt}{ys:List V}(h:TsI H a l)(hD:H D=some (.lst ys))(ne:a≠D)(o:HO):TsI (upd H D o) a l:=let⟨_,e,r⟩:=h.pr;(r.other hD o).ts ((aP ne).trans e)
theorem BN{k:Wd}{W:List Rw}{r:Rw}(h:r∈TX.run k W):∃r'∈W,r=r'.drop 1:=by
 unfold TX.run at h;obtain⟨r',h1,rfl⟩:=Zh.mp h;exact⟨r',(List.takeWhile_sublist _).subset h1,rfl⟩
theorem yH{k:Wd}{W:List Rw}(hW:∀r∈W,r.length≤20001∧∀x∈r,Asc x∧x.length≤20000){r:Rw}(h:r∈TX.run k W):∀x∈r,Asc x∧x.length≤20000:=by
 obtain⟨r',h1,rfl⟩:=BN h;exact fun x hx=>(hW r' h1).2 x (List.mem_of_mem_drop hx)
theorem BO{k:Wd}{W:List Rw}(hW:∀r∈W,r.length≤20001∧∀x∈r,Asc x∧x.length≤20000){r:Rw}(h:r∈TX.run k W):r.length≤20000:=by
 obtain⟨r',h1,rfl⟩:=BN h;have:=(hW r' h1).1;rw[Ym];omega
def VE:Sp:=fun vs H Q E=>∃(z:Str) (l:List Nat),vs=[.str z]∧z=sT l∧Asc l∧l.length≤19000 ∧
 (∀sp ll,rdD (rows l)=some (sp,ll)→∀r pa la H',aO H H'→H' r=some (.tup [.ref pa,.ref la])→TsI H' pa sp→(∃rr:List Addr,H' la=some (.lst (rr.map V.ref))∧rr.length=ll.length∧∀(i:Nat) r,ll[i]?=some r→∃x,rr[i]?=some x∧TsI H' x r)→Q (.ref r) H')∧(rdD (rows l)=none→∀x H',aO H H'→E (.ref x) none H')
theorem T8(T:Txt K mg t):cU P w K mg base (CXr P w t.a7) 6 t.nI t.mZ ["text"] VE:=by
 refine T.fN.F.okX lE (fun vs H Q E h=>?_) (fun cdv A outer s H vs Q E hr h=>?_)
 ·obtain⟨z,l,rfl,_⟩:=h;rfl
 obtain⟨z,l,rfl,rfl,hasc,hl,q,qe⟩:=h;have nd:=lE.nd;have nd_words:(["words"]:List Str).Nodup:=by decide
 refine⟨_,(aG (aZ 1 nd (bP (E9 T) hr T.sH bK (aA (pv 0) aC)))
  (aG (aZ 2 nd (bP (FC T) hr T.mQ bK (aA (pv 1) (aA aE (aA aY aC)))))
  (aG (aZ 3 nd (bP (FC T) hr T.mQ bK (aA (pv 1) (aA (aW aV rfl T.cP PySem.boot_len (aA (pv 2) aC)) (aA aY aC)))))
  (aG (bQ (bP (fB T) hr T.cK iI (aA (AF (pv 2) (AF (pv 3) (rX (cZ dO (aM bM (aW aV rfl T.cP PySem.boot_len (aA (pv 2) aC)) (aW aV rfl T.cP PySem.boot_len (aA (pv 3) aC))) (aW aV rfl T.cP PySem.boot_len (aA (pv 1) aC)) (bA _))))) aC)))
  (aL (a8 (cS (aA (vM IG (N':=["words"]) (js:=[none]) rfl (cD (pv 2)) (fun _ _ _ _ _=>(aX (i:=0) nd_words rfl (Or.inl rfl))) (fun _ _ _ _ _=>fX) (fun _ _ _ _ _=>(bP (FA T) hr T.mS JX (aA (pv 0) aC)))) (aA (vM IG (N':=["words"]) (js:=[none]) rfl (cD (pv 3)) (fun _ _ _ _ _=>(aX (i:=0) nd_words rfl (Or.inl rfl))) (fun _ _ _ _ _=>fX) (fun _ _ _ _ _=>(bP (T7 T) hr T.tM JX (aA (pv 0) aC)))) aC))))))))),?_⟩
 have rok:=kL hasc (by lia);have rlen:(rows l).length≤19001:=by
  unfold rows;rw[Zq,hZ];have:l.count 10≤l.length:=List.count_le_length
  lia
 have rne:=AA (l:=l);refine(aJ _ rfl _ l rfl ⟨ rfl,by lia,fun RD H1 nR g1 hR=>?_⟩);generalize rows l=W at *;refine⟨_,rfl,(dB RD W 0 _ cB (bF rfl EM hR rne (by lia) (fun SD H2 nS g2 hS=>?_)))⟩;rw[List.drop_zero]at hS;obtain⟨sr,a1,a2,a3⟩:=hS;have sl:(((sr.map V.ref).length:Nat):Int)=((run cB W).length:Int):=by rw[Zq,a2]
 refine⟨_,rfl,(aJ _ rfl SD _ rfl ⟨ .inl (SqL.of a1),(dB RD W ((run cB W).length) _ dA (bF (congrArg (fun z=>[V.ref RD,V.int z,V.str (ZT "line")]) sl) AY (hR.same g2) rne (by lia) (fun LD H3 nL g3 hL=>?_)))⟩)⟩;obtain⟨lr,b1,b2,b3⟩:=hL;obtain⟨rr,r1,r2,r3⟩:=hR.same (g2.trans g3);have a1':=g3 _ _ a1;have g03:=g1.trans (g2.trans g3);dsimp only[bT];by_cases hD:DrS W;rotate_left
 ·have en:rdD W=none:=by unfold rdD;exact if_neg hD
  have fin:∀{x:Addr},E (.ref x) none H3:=fun {x}=>qe en x _ g03;cases hs:(sr.map V.ref).isEmpty with
  |true=>exact⟨_,rfl,false,.inl ⟨_,SqL.of a1',by rw[hs];rfl⟩,iU (a9 _ false rfl (.inl ⟨_,SqL.of a1',by rw[hs];rfl⟩) (fun z=>Bool.noConfusion z) (fun _ x=>fin))⟩
  |false =>
   cases hs2:(lr.map V.ref).isEmpty with
   |true=>exact⟨_,rfl,true,.inl ⟨_,SqL.of a1',by rw[hs];rfl⟩,fR ⟨_,rfl,false,.inl ⟨_,SqL.of b1,by rw[hs2];rfl⟩,iU (a9 _ false rfl (.inl ⟨_,SqL.of b1,by rw[hs2];rfl⟩) (fun z=>Bool.noConfusion z) (fun _ x=>fin))⟩⟩
   |false =>
    refine⟨_,rfl,true,.inl ⟨_,SqL.of a1',by rw[hs];rfl⟩,fR ⟨_,rfl,true,.inl ⟨_,SqL.of b1,by rw[hs2];rfl⟩,fR (aJ _ rfl SD _ rfl ⟨ .inl (SqL.of a1'),(aJ _ rfl LD _ rfl (bN (.inl (SqL.of b1)) _ _ rfl rfl (aJ _ rfl RD _ rfl (aN (.inl (SqL.of r1)) rfl _ false rfl ⟨ ?_,fun z=>Bool.noConfusion z,fun _ x=>fin⟩))))⟩)⟩⟩;show false=decide (V.int (((sr.map V.ref).length:Int)+((lr.map V.ref).length:Int))=V.int ((rr.map V.ref).length:Int));symm;refine decide_eq_false fun z=>hD ⟨fun e=>?_,fun e=>?_,?_⟩
    ·rw[e]at a2;rw[Yh.mp a2]at hs;cases hs
    ·rw[e]at b2;rw[Yh.mp b2]at hs2;cases hs2
    ·have z:=V.int.inj z;rw[Zq,Zq,Zq,a2,b2,r2]at z
     lia
 obtain⟨d1,d2,d3⟩:=id hD;have ne1:true=!(sr.map V.ref).isEmpty:=by
  cases sr with
  |nil=>exact absurd (Yh.mp (by rw[←a2];rfl)) d1
  |cons x r=>rfl
 have ne2:true=!(lr.map V.ref).isEmpty:=by
  cases lr with
  |nil=>exact absurd (Yh.mp (by rw[←b2];rfl)) d2
  |cons x r=>rfl
 have es:(((sr.map V.ref).length:Nat):Int)+(((lr.map V.ref).length:Nat):Int)=(((rr.map V.ref).length:Nat):Int):=by rw[Zq,Zq,Zq,a2,b2,r2];lia
 refine⟨_,rfl,true,.inl ⟨_,SqL.of a1',ne1⟩,fR ⟨_,rfl,true,.inl ⟨_,SqL.of b1,ne2⟩,fR (aJ _ rfl SD _ rfl ⟨ .inl (SqL.of a1'),(aJ _ rfl LD _ rfl (bN (.inl (SqL.of b1)) _ _ rfl rfl (aJ _ rfl RD _ rfl (aN (.inl (SqL.of r1)) rfl _ true rfl ⟨ (decide_eq_true (congrArg V.int es)).symm,fun _=>?_,fun z=>Bool.noConfusion z⟩))))⟩)⟩⟩;have er:rdD W=(fS ((run cB W).map dN)).bind fun sp=>(fS ((run dA (W.drop (run cB W).length)).map bU)).map fun ll=>(sp,ll):=by unfold rdD;exact if_pos hD
 have wS:∀r∈run cB W,∀x∈r,Asc x∧x.length≤20000:=fun r hr=>yH rok hr;have wL:∀r∈run dA (W.drop (run cB W).length),∀x∈r,Asc x∧x.length≤20000:=fun r hr=>yH (fun r hr=>rok r (List.mem_of_mem_drop hr)) hr;have nS':∀r∈run cB W,r.length≤20000:=fun r hr=>BO rok hr;have nL':∀r∈run dA (W.drop (run cB W).length),r.length≤20000:=fun r hr=>BO (fun r hr=>rok r (List.mem_of_mem_drop hr)) hr;have n19:(run cB W).length≤19001∧(run dA (W.drop (run cB W).length)).length≤19001:=by lia
 generalize run dA (W.drop (run cB W).length)=LW at *;generalize run cB W=SW at *;refine(cL _ rfl SD rfl ⟨_,SqL.of a1'⟩ (fun PD hPD=>?_));refine j6 SW.length (fun i o=>∃p:Pt,o=HO.tup [.int p.1,.int p.2]∧dN (SW.getD i [])=some p) hPD (by lia) (fun i H' hi g=>⟨_,.ref (sr[i]'(by lia)),SqL.of (g _ _ a1'),by rw[Zk,Zz (by lia)];rfl⟩) (fun H' g=>⟨_,SqL.of (g _ _ a1'),by rw[Zq,a2];exact Nat.le_refl _⟩) ?_ ?_
 ·rintro i H' x H'' k hi g ⟨rfl,hx⟩ hk;have hx:=hx _ (SqL.of (g _ _ a1'));obtain⟨sx,c1,c2⟩:=a3 i _ (GR.aK hi);rw[Zk,c1]at hx;cases hx;have gd:SW.getD i []=SW[i]:=by rw[Zv,GR.aK hi];rfl
  have hm:=Zp hi;refine⟨(Fills.refl _).set _ rfl,(aJ _ rfl sx (SW[i]) rfl ⟨ SqL.of (g _ _ (g3 _ _ c2)),wS _ hm,nS' _ hm,fun a b hab D H4 nD g4 hD'=>hk D _ H4 ⟨(a,b),rfl,by rw[gd];exact BU hab⟩ nD g4 hD',fun hno x H4 g4=>qe ?_ x H4 (g03.trans (g.trans g4))⟩)⟩;rw[er,oN (Zh.mpr ⟨_,hm,G0 hno⟩)];rfl
 intro pr H4 p1 p2 g4 e4;obtain⟨sp,sp1,sp2⟩:=mL (fun i (p:Pt)=>∃a,pr[i]?=some a∧H4 a=some (.tup [.int p.1,.int p.2])∧dN (SW.getD i [])=some p) SW.length fun i hi=>by
  obtain⟨o,⟨p,rfl,hp⟩,ho⟩:=p2 i _ (GR.aK (show i<pr.length by lia));exact⟨p,_,GR.aK (show i<pr.length by lia),ho,hp⟩
 have hP4:TsI H4 PD sp:=⟨pr,e4,by lia,fun i p e=>let⟨a,h1,h2,_⟩:=sp2 i p e;⟨a,h1,h2⟩⟩
 have eS:fS (SW.map dN)=some sp:=by
  have:SW.map dN=sp.map some:=by
   refine Ys (by rw[Zq,Zq,sp1]) fun i h1 h2=>?_;have hi:i<SW.length:=by simpa using h1
   obtain⟨_,_,_,h3⟩:=sp2 i _ (GR.aK (show i<sp.length by lia));rw[Zv,GR.aK hi]at h3;rw[List.getElem_map,List.getElem_map];exact h3
  rw[this,sM]
 rw[eS]at er;have b1':=g4 _ _ b1;refine(cL _ rfl LD rfl ⟨_,SqL.of b1'⟩ (fun FD hFD=>?_));refine w6 LW.length (fun i H' a=>∃l:List Pt,TsI H' a l∧bU (LW.getD i [])=some l) (fun i H H' a g ⟨l,h,h2⟩=>⟨l,h.same g,h2⟩) (fun i H ys o a h ne ⟨l,z,h2⟩=>⟨l,IS z h ne o,h2⟩) hFD (by lia) (fun i H' hi g=>⟨_,.ref (lr[i]'(by lia)),SqL.of (g _ _ b1'),by rw[Zk,Zz (by lia)];rfl⟩) (fun H' g=>⟨_,SqL.of (g _ _ b1'),by rw[Zq,b2];exact Nat.le_refl _⟩) ?_ ?_
 ·rintro i H' x H'' k hi g ⟨rfl,hx⟩ hk;have hx:=hx _ (SqL.of (g _ _ b1'));obtain⟨sx,c1,c2⟩:=b3 i _ (GR.aK hi);rw[Zk,c1]at hx;cases hx;have gd:LW.getD i []=LW[i]:=by rw[Zv,GR.aK hi];rfl
  have hm:=Zp hi;refine⟨(Fills.refl _).set _ rfl,(aJ _ rfl sx (LW[i]) rfl ⟨ g _ _ (g4 _ _ c2),wL _ hm,nL' _ hm,fun l hl D H5 nD g5 hD'=>hk D H5 ⟨l,hD',by rw[gd];exact hl⟩ nD g5,fun hno x H5 g5=>qe ?_ x H5 (g03.trans (g4.trans (g.trans g5)))⟩)⟩;rw[er];show(fS (LW.map bU)).map _=none;rw[oN (Zh.mpr ⟨_,hm,hno⟩)];rfl
 intro fr H5 f1 f2 f3 g5 e5;obtain⟨ll,ll1,ll2⟩:=mL (fun i (l:List Pt)=>∃a,fr[i]?=some a∧TsI H5 a l∧bU (LW.getD i [])=some l) LW.length fun i hi=>by
  obtain⟨l,h1,h2⟩:=f3 i _ (GR.aK (show i<fr.length by lia));exact⟨l,_,GR.aK (show i<fr.length by lia),h1,h2⟩
 have eL:fS (LW.map bU)=some ll:=by
  have:LW.map bU=ll.map some:=by
   refine Ys (by rw[Zq,Zq,ll1]) fun i h1 h2=>?_;have hi:i<LW.length:=by simpa using h1
   obtain⟨_,_,_,h3⟩:=ll2 i _ (GR.aK (show i<ll.length by lia));rw[Zv,GR.aK hi]at h3;rw[List.getElem_map,List.getElem_map];exact h3
  rw[this,sM]
 refine⟨(by show 2≤ZW;decide),fun r hr=>?_⟩;have k6:=aH hr (.tup [.ref PD,.ref FD]);exact q sp ll (by rw[er];show(fS (LW.map bU)).map _=_;rw[eL];rfl) r PD FD _ (g03.trans (g4.trans (g5.trans k6))) aB ((hP4.same g5).same k6) ⟨fr,k6 _ _ e5,by lia,fun i l e=>let⟨a,h1,h2,_⟩:=ll2 i l e;⟨a,h1,h2.same k6⟩⟩
end K75
namespace K75
open PySem L2 PyProof.Rows TX
theorem F5:ZT "" = sT []:=by decide +kernel
theorem AV:ZT "0" = sT [48]:=by decide +kernel
theorem BE{a b:List Nat}:(V.str (sT a)=V.str (sT b))↔a=b:=⟨fun h=>fW (V.str.inj h),fun h=>by rw[h]⟩
theorem take1(w:List Nat)(c:Nat):w.take 1=[c]↔w.head?=some c:=by
 cases w with
 |nil=>simp
 |cons a l=>simp
def TK:Sp:=fun vs H Q _=>∃(z:Str) (w:List Nat),vs=[.str z]∧z=sT w∧Asc w∧w.length≤20000∧∀H',aO H H'→Q (vo (num w)) H'
theorem vP(T:Txt K mg t):cU P w K mg base CX0 1 t.xM t.wW ["_law_word_here"] TK:=by
 refine T.gE.F.ok tE (fun vs H Q E h=>?_) (fun cdv A outer s H vs Q E hr h=>?_)
 ·obtain⟨z,w,rfl,_⟩:=h;rfl
 obtain⟨z,wd,rfl,rfl,ha,hl,q⟩:=h;have nd:=tE.nd;have nd_l_sign:(["_law_sign"]:List Str).Nodup:=by decide
 refine⟨_,(aG (aZ 1 nd (bC iA (pv 0) (bH (b9 j9 rfl T.oP boot_int (aA (cZ dO (bC iA (pv 0) bB (bH aE)) aY (bA _)) aC))) bB))
  (aG (cH (PW.pt (iY (aS dO (pv 1) aY (bA _)) (iY (aS B0 (aW eU rfl T.cP PySem.boot_len (aA (pv 1) aC)) aE (bA _)) (jF (aS B0 (aW aV rfl T.cP PySem.boot_len (aA (eN (N':=["_law_sign"]) (js:=[none]) rfl (JU (pv 1)) (fun _ _ _ _ _=>(aX (i:=0) nd_l_sign rfl (Or.inl rfl))) (fun _ _ _ _ _=>(rW (aS p7 (pv 0) aY rfl))) (fun _ _ _ _ _=>(pv 0))) aC)) aE (bA _)))))) (aL (a8 eE)) bG)
  (aG (cH (PW.pt (kS (aS dO (aQ wC (pv 1) aE (fun _ _=>rfl)) aY (bA _)) (iZ (aS oX (pv 0) aY (bA _))))) (aL (a8 eE)) bG)
  (aL (a8 (b9 j8 rfl T.oP boot_int (aA (pv 0) aC))))))),?_⟩
 have bl:wd.length≤1000000:=YQ hl (by decide);have no:¬(Fig wd∧Can wd)→∀H',aO H H'→Q .non H':=fun h H' g=>by
  have:=q H' g;rw[mH h]at this;exact this
 refine via (fun σ' H'=>σ'=[some (vx wd),some (vx (figs wd))]∧H'=H) (fun r1=>?_) ?_
 ·refine⟨_,(bJ rfl _ rfl 1 rfl (a9 _ wd rfl rfl bl ⟨ rfl,.inr ⟨_,rfl,(aJ _ rfl _ wd rfl ⟨ rfl,bl,r1 _ _ ⟨?_,rfl⟩⟩)⟩⟩))⟩;have e1:(decide (vx (kY wd none (some 1))=V.str (ZT "-")))=decide (wd.head?=some 45):=by
   rw[sJ,show kY wd none (some 1)=wd.take 1 from kX wd 1];congr 1;rw[eq_iff_iff,BE,take1]
  rw[e1];by_cases c:wd.head?=some 45
  ·rw[decide_eq_true c,if_pos rfl,show figs wd=wd.drop 1 from if_pos c,←fO];rfl
  ·rw[decide_eq_false c,if_neg (by decide),show figs wd=wd from if_neg c];have:kY wd (some 0) none=wd:=(fO wd 0).trans (List.drop_zero);rw[this];rfl
 rintro σ' H' ⟨rfl,rfl⟩;have fl:(figs wd).length≤wd.length:=by
  unfold figs;split
  ·rw[Ym];lia
  ·exact Nat.le_refl _
 have sz:(sT (figs wd)).length≤ZW:=by rw[cG];exact YQ (by lia:_≤20000) (by decide)
 refine via (fun σ' H2=>σ'=[some (vx wd),some (vx (figs wd))]∧aO H' H2∧Fig wd) (fun r1=>?_) ?_
 ·refine(bE _ rfl rfl _ rfl (cO (fun c=>fR (no (fun z=>?_) H' (aO.refl _))) (fun c=>?_)))
  ·have c:=of_decide_eq_true c;rw[F5,BE]at c;have:=z.1.1.1;rw[c]at this;exact absurd this (by decide)
  have c0:figs wd≠[]:=fun z=>c (decide_eq_true (by rw[F5,BE];exact z));refine(cL _ rfl _ rfl sz ⟨ _,(bE _ rfl rfl _ rfl ?_)⟩);rw[cG];refine cO (fun c=>fR (no (fun z=>?_) H' (aO.refl _))) (fun c=>?_)
  ·have c:(40:Int)<((figs wd).length:Nat):=of_decide_eq_true c;have:=z.1.1.2
   lia
  have c1:1≤(figs wd).length∧(figs wd).length≤40:=by
   have c:¬(40:Int)<((figs wd).length:Nat):=fun z=>c (decide_eq_true z);have:(figs wd).length≠0:=fun z=>c0 (Yh.mp z)
   lia
  refine(aJ _ rfl _ (figs wd) rfl ⟨ rfl,ha.figs,fun D hD=>?_⟩);refine qT (figs wd).length (fun i=>vx [(figs wd).getD i 0]) (fun i=>!decide (48≤(figs wd).getD i 0∧(figs wd).getD i 0≤57)) hD (by lia) (fun i H2 hi g2=>hi) (fun H2 g2=>Nat.le_refl _) ?_ ?_
  ·rintro i H2 x H3 kt kf hi g2 ⟨rfl,c,hc,rfl⟩ ht hf;have e:(figs wd).getD i 0=c:=by rw[Zv,hc];rfl
   rw[e]at ht hf;refine⟨(Fills.refl _).set _ rfl,(aJ _ rfl _ _ rfl ⟨ rfl,_,rfl,?_⟩)⟩;rw[FT];cases hb:!decide (48≤c∧c≤57) with
   |true=>exact fR ⟨_,rfl,ht hb _ (aO.refl _)⟩
   |false=>exact iU (hf hb _ (aO.refl _))
  ·intro H2 g2 e2;refine⟨D,_,(aN rfl (.inl (SqL.of e2)) _ _ rfl ⟨ rfl,_,rfl,?_⟩)⟩;rw[Zq];refine cO (fun c=>no (fun z=>?_) H2 g2) (fun c=>r1 _ _ ⟨rfl,g2,c1,fun d hd=>?_⟩)
   ·have c:(0:Int)<_:=of_decide_eq_true c;have c:0<((List.range (figs wd).length).filter fun i=>!decide (48≤(figs wd).getD i 0∧(figs wd).getD i 0≤57)).length:=by omega
    obtain⟨i,hi⟩:=List.exists_mem_of_length_pos c;obtain⟨h1,h2⟩:=Yz.mp hi;have hi:=Zs.mp h1;have e:(figs wd).getD i 0=(figs wd)[i]:=by rw[Zv,Zz hi];rfl
    rw[e]at h2;simp only[Bool.not_eq_true',decide_eq_false_iff_not]at h2;exact h2 (z.1.2 _ (Zp hi))
   ·apply ZS;intro z;apply c;refine decide_eq_true ?_;obtain⟨i,hi,rfl⟩:=Yg.mp hd;have:i∈(List.range (figs wd).length).filter fun i=>!decide (48≤(figs wd).getD i 0∧(figs wd).getD i 0≤57):=Yz.mpr ⟨Zs.mpr hi,by
     have e:(figs wd).getD i 0=(figs wd)[i]:=by rw[Zv,Zz hi];rfl
     rw[e,Bool.not_eq_true'];exact decide_eq_false z⟩
    have:=List.length_pos_of_mem this
    lia
 rintro σ' H2 ⟨rfl,g2,hf⟩;obtain⟨i1,i2⟩:=int_text hf;have ne:figs wd≠[]:=fun z=>by have:=hf.1.1;rw[z]at this;exact absurd this (by decide)
 obtain⟨d0,dr,ed⟩:=List.exists_cons_of_ne_nil ne;refine via (fun σ' H3=>σ'=[some (vx wd),some (vx (figs wd))]∧H3=H2∧Can wd) (fun r1=>?_) ?_
 ·refine⟨_,(cF rfl _ _ d0 rfl ⟨ rfl,(aU sz (by rw[eZ,ed];exact cE (j:=0) rfl) rfl _ rfl (cO (fun c=>?_) (fun c=>iU (r1 _ _ ⟨rfl,rfl,fun z=>?_⟩))))⟩)⟩
  ·have c:=of_decide_eq_true c;rw[AV]at c;have c:=BE.mp c;refine(bE _ rfl rfl _ rfl (cO (fun c2=>no (fun z=>?_) H2 g2) (fun c2=>r1 _ _ ⟨rfl,rfl,fun z=>?_⟩)))
   ·apply z.2;refine⟨by rw[ed];injection c with c;rw[c];rfl,fun y=>?_⟩;rw[AV,y]at c2;simp at c2
   ·apply c2;have:V.str (sT wd)≠V.str (ZT "0"):=by rw[AV];exact fun y=>z.2 (BE.mp y)
    simp[this]
  ·apply c;refine decide_eq_true ?_;have:=z.1;rw[ed]at this;injection this with this;rw[AV,this];rfl
 rintro σ' H3 ⟨rfl,rfl,hc⟩;refine(aJ _ rfl _ _ rfl ⟨ i1,i2,?_⟩);have:=q H3 g2;rw[vR hf hc]at this;exact this
end K75
namespace TX
open PySem PySem.NumText L2 GR
theorem Cn.fig{w:List Nat}(h:Cn w=true):Fig w∧mI w=cv w:=by
 have d:∀c:Nat,48≤c→c≤57→AllDigits [c]:=fun c h1 h2 x hx=>by rw[Zb.mp hx];exact⟨h1,h2⟩
 rcases Cn.is h with rfl | rfl | rfl | rfl
 ·exact⟨⟨⟨by decide,by decide⟩,d 49 (by decide) (by decide)⟩,by decide +kernel⟩
 ·exact⟨⟨⟨by decide,by decide⟩,d 50 (by decide) (by decide)⟩,by decide +kernel⟩
 ·exact⟨⟨⟨by decide,by decide⟩,d 51 (by decide) (by decide)⟩,by decide +kernel⟩
 ·exact⟨⟨⟨by decide,by decide⟩,d 52 (by decide) (by decide)⟩,by decide +kernel⟩
theorem xZ:∀w:List Nat,w.count 108+w.count 114≤w.length
 |[]=>by simp
 |c::w=>by
  have:=xZ w;rw[List.count_cons,List.count_cons,Yq];by_cases h:c=108
  ·subst h;simp;lia
  ·by_cases h2:c=114
   ·subst h2;simp;lia
   ·simp[h,h2];lia
end TX
namespace K75
open PySem L2 PyProof.Rows TX GR
def PJ:Sp:=fun vs H Q _=>∃(z:Str) (l:List Nat),vs=[.str z]∧z=sT l∧Asc l∧l.length≤19000 ∧
 (∀cs ls,fK (rows l)=some (cs,ls)→∀r C L H',aO H H'→H' r=some (.tup [.ref C,.ref L])→H' C=some (.lst (cs.map V.int))→H' L=some (.lst (ls.map V.int))→Q (.ref r) H')∧(fK (rows l)=none→∀H',aO H H'→Q .non H')
theorem RI(T:Txt K mg t):cU P w K mg base CX0 1 t.nM t.nA ["_law_text"] PJ:=by
 refine T.mV.F.ok lH (fun vs H Q E h=>?_) (fun cdv A outer s H vs Q E hr h=>?_)
 ·obtain⟨z,l,rfl,_⟩:=h;rfl
 obtain⟨z,l,rfl,rfl,hasc,hl,q,qn⟩:=h;have nd:=lH.nd;refine⟨_,(aG (aZ 1 nd (bI aC))
  (aG (aZ 2 nd (bI aC))
  (aG (cR PassesOwn.never rfl (cD (dE mSp gM (pv 0) (aA aY aC))) (aX (i:=3) nd rfl (Or.inl rfl)) (aG (aZ 4 nd (dE mSp gM (pv 3) (aA aY aC)))
  (aG (cH (PW.pt (iY (aS oX (aW aV rfl T.cP PySem.boot_len (aA (pv 4) aC)) aE (bA _)) (jF (aS oX (aQ aT (pv 4) aE (fun _ _=>rfl)) aY (bA _))))) (aL (a8 eE)) bG)
  (aG (cH (PW.pt (iY (aS p8 (aQ aT (pv 4) aE (fun _ _=>rfl)) (bI (aA aY (aA aY (aA aY (aA aY aC))))) rfl) (jF (aS p8 (aQ aT (pv 4) aE (fun _ _=>rfl)) (bI (aA aY (aA aY (aA aY (aA aY aC))))) rfl)))) (aL (a8 eE)) bG)
  (aG (aZ 5 nd (bI (aA (dE mCo hJ (aQ aT (pv 4) aE (fun _ _=>rfl)) (aA aY aC)) (aA (dE mCo hJ (aQ aT (pv 4) aE (fun _ _=>rfl)) (aA aY aC)) aC))))
  (aG (cH (PW.pt (kS (aS oX (aQ aT (pv 4) aE (fun _ _=>rfl)) aY (bA _)) (iZ (PW.pt (iY (aS p9 (aW (HX rfl) rfl T.SU boot_sum (aA (pv 5) aC)) (aW eU rfl T.cP PySem.boot_len (aA (aQ aT (pv 4) aE (fun _ _=>rfl)) aC)) (bA _)) (jF (aS dO (aQ aT (pv 4) aE (fun _ _=>rfl)) aY (bA _)))))))) (aL (a8 eE)) bG)
  (aG (aZ 1 nd (aM dQ (pv 1) (bI (aA (b9 j8 rfl T.oP boot_int (aA (aQ aT (pv 4) aE (fun _ _=>rfl)) aC)) (aA (b9 j8 rfl T.oP boot_int (aA (aQ aT (pv 4) aE (fun _ _=>rfl)) aC)) aC)))))
  (aL (aZ 2 nd (aM dQ (pv 2) (pv 5)))))))))))
  (aL (a8 (cS (aA (pv 1) (aA (pv 2) aC)))))))),?_⟩
 refine⟨(by show 0≤ZW;decide),fun C0 hC0=>?_⟩;have b1:=aH hC0 (.lst []);refine⟨(by show 0≤ZW;decide),fun L0 hL0=>?_⟩;have b2:=aH hL0 (.lst []);refine⟨_,rfl,rfl,(aI _ _ l 10 rfl ⟨ rfl,rfl,LX,YQ hl (by decide),fun R hR=>?_⟩)⟩;have b3:=aH hR (.lst (vxs (sp 10 l)));have rok:=kL hasc (by lia);have sl:(sp 10 l).length≤19001:=by
  rw[hZ];have:l.count 10≤l.length:=List.count_le_length
  lia
 let Pv1:Nat→L2.St→L2.Hp→Prop:=fun i σ H'=>∃C L cs ls,(∃v3 v4 v5,σ=[some (vx l),some (.ref C),some (.ref L),v3,v4,v5])∧aO H H'∧H' R=some (.lst (vxs (sp 10 l)))∧H' C=some (.lst (cs.map V.int))∧H' L=some (.lst (ls.map V.int))∧fK ((rows l).take i)=some (cs,ls)∧cs.length≤2*i∧ls.length≤2*i
 refine⟨R,rfl,⟨_,SqL.of aB⟩,dR (xs:=vxs (sp 10 l)) Pv1 (aI C0 L0 ([]) ([]) ⟨_,_,_,rfl⟩ (bF (b1.trans (b2.trans b3)) aB (b3 _ _ (b2 _ _ aB)) (b3 _ _ aB) rfl ⟨ Nat.le_refl _,Nat.le_refl _⟩)) (fun _ _ _ _ ⟨_,_,_,_,_,_,h,_⟩=>SqL.of h) ?_ ?_⟩
 ·rintro i x σ H2 hx ⟨C,L,cs,ls,⟨v3,v4,v5,rfl⟩,g2,r2,hC2,hL2,hrd,cl,ll⟩;have hi:i<(sp 10 l).length:=by have:=(Zj.mp hx).1;unfold vxs at this;rw[Zq]at this;exact this
  unfold vxs at hx;rw[Zk,GR.aK hi]at hx;cases hx;have hm:(sp 10 l)[i]∈sp 10 l:=Zp hi;have hs:=lU 10 l hm;have er:(rows l)[i]?=some (sp 32 (sp 10 l)[i]):=by unfold rows;rw[Zk,GR.aK hi];rfl
  have tk:(rows l).take (i+1)=(rows l).take i++[sp 32 (sp 10 l)[i]]:=by rw[List.take_add_one,er];rfl
  have hrm:=Zg er;have hno:rd1 (sp 32 (sp 10 l)[i])=none→fK (rows l)=none:=fun h=>pI h hrm;refine⟨_,rfl,rfl,(aI _ _ ((sp 10 l)[i]) 32 rfl ⟨ rfl,rfl,LV,YQ (by lia:_≤20000) (by decide),fun y hy=>?_⟩)⟩;have k3:=aH hy (.lst (vxs (sp 32 (sp 10 l)[i])));have g3:=g2.trans k3;have y3:upd H2 y (.lst (vxs (sp 32 (sp 10 l)[i]))) y=some (.lst (vxs (sp 32 (sp 10 l)[i]))):=aB;have hok:=rok _ hrm;generalize sp 32 (sp 10 l)[i]=ws at tk hno k3 g3 y3 hok;have r3:=k3 _ _ r2;have hC3:=k3 _ _ hC2;have hL3:=k3 _ _ hL2;generalize upd H2 y (.lst (vxs ws))=H3 at k3 g3 y3 r3 hC3 hL3;dsimp only[bT];have wl:((vxs ws).length:Int)=(ws.length:Int):=by unfold vxs;rw[Zq]
  refine(aJ _ rfl y _ rfl ⟨ .inl (SqL.of y3),rfl,_,rfl,cO (fun c=>?_) (fun c=>?_)⟩)
  ·have c:¬ws.length=4:=fun z=>by rw[wl,z]at c;revert c;decide
   exact fR (qn (hno (by unfold rd1;rw[if_neg (fun z=>c z.1)])) _ g3)
  have c:ws.length=4:=by
   apply ZS;intro z;apply c;rw[wl,Bool.not_eq_true'];exact decide_eq_false fun y=>z (by have:=V.int.inj y;lia)
  obtain⟨w0,w1,w2,w3,rfl⟩:∃w0 w1 w2 w3,ws=[w0,w1,w2,w3]:=by
   match ws,c with
   |[w0,w1,w2,w3],_=>exact⟨w0,w1,w2,w3,rfl⟩
  refine⟨_,rfl,(aI y _ 0 _ rfl ⟨ rfl,(aU (SqL.of y3) rfl rfl _ rfl (cO (fun c0=>?_) (fun c0=>?_)))⟩)⟩
  ·have c0:¬w0=jV:=fun z=>by rw[z,F4]at c0;simp at c0
   exact qn (hno (by unfold rd1;rw[if_neg (fun z=>c0 z.2.1)])) _ g3
  have h0:w0=jV:=by
   apply ZS;intro z;apply c0;rw[F4,Bool.not_eq_true'];exact decide_eq_false fun y=>z (fW (V.str.inj y))
  refine⟨_,rfl,(aI y _ 1 _ rfl ⟨ rfl,SqL.of y3,rfl,(by show 4≤ZW;decide),fun X1 hX1=>?_⟩)⟩;have k4:=aH hX1 (.lst [V.str (ZT "1"),V.str (ZT "2"),V.str (ZT "3"),V.str (ZT "4")]);refine(a9 X1 wY rfl (.inl (SqL.of aB)) rfl ⟨ rfl,_,rfl,cO (fun c1=>?_) (fun c1=>?_)⟩)
  ·have c1:¬Cn w1=true:=fun z=>by
    have:(!inV (vx w1) wY)=true:=c1;rw[nE,z]at this;cases this
   exact fR (qn (hno (by unfold rd1;rw[if_neg (fun z=>c1 z.2.2.1)])) _ (g3.trans k4))
  have c1:Cn w1=true:=by
   cases hc:Cn w1 with
   |true=>rfl
   |false=>exact absurd (by show(!inV (vx w1) wY)=true;rw[nE,hc];rfl) c1
  have y4:=k4 _ _ y3;refine⟨_,rfl,(aI y _ 3 _ rfl ⟨ rfl,SqL.of y4,rfl,(by show 4≤ZW;decide),fun X2 hX2=>?_⟩)⟩;have k5:=k4.trans (aH hX2 (.lst [V.str (ZT "1"),V.str (ZT "2"),V.str (ZT "3"),V.str (ZT "4")]));refine(a9 X2 wY rfl (.inl (SqL.of aB)) rfl ⟨ rfl,_,rfl,cO (fun c3=>?_) (fun c3=>?_)⟩)
  ·have c3:¬Cn w3=true:=fun z=>by
    have:(!inV (vx w3) wY)=true:=c3;rw[nE,z]at this;cases this
   exact qn (hno (by unfold rd1;rw[if_neg (fun z=>c3 z.2.2.2)])) _ (g3.trans k5)
  have c3:Cn w3=true:=by
   cases hc:Cn w3 with
   |true=>rfl
   |false=>exact absurd (by show(!inV (vx w3) wY)=true;rw[nE,hc];rfl) c3
  have er1:rd1 [w0,w1,w2,w3]=(rdT w2).map fun p=>([cv w1,cv w3],[p.1,p.2]):=by unfold rd1;rw[if_pos ⟨rfl,h0,c1,c3⟩];rfl
  have y5:=k5 _ _ y3;have g5:=g3.trans k5;have r5:=k5 _ _ r3;have hC5:=k5 _ _ hC3;have hL5:=k5 _ _ hL3;generalize upd (upd H3 X1 (.lst [V.str (ZT "1"),V.str (ZT "2"),V.str (ZT "3"),V.str (ZT "4")])) X2 (.lst [V.str (ZT "1"),V.str (ZT "2"),V.str (ZT "3"),V.str (ZT "4")])=H5 at y5 g5 r5 hC5 hL5;refine⟨_,rfl,(aI y _ 2 _ rfl ⟨ rfl,SqL.of y5,rfl,rfl,(aI _ _ w2 108 rfl (aU rfl rfl e_l _ rfl (aI y _ 2 _ rfl ⟨ rfl,SqL.of y5,rfl,rfl,(aI _ _ w2 114 rfl ⟨ rfl,rfl,e_r,(by show 2≤ZW;decide),fun M hM=>?_⟩)⟩)))⟩)⟩;have k6:=aH hM (.lst [V.int (w2.count 108:Nat),V.int (w2.count 114:Nat)]);have m6:upd H5 M (.lst [V.int (w2.count 108:Nat),V.int (w2.count 114:Nat)]) M=some (.lst ([((w2.count 108:Nat):Int),((w2.count 114:Nat):Int)].map V.int)):=aB;have y6:=k6 _ _ y5;have g6:=g5.trans k6;have r6:=k6 _ _ r5;have hC6:=k6 _ _ hC5;have hL6:=k6 _ _ hL5;generalize upd H5 M (.lst [V.int (w2.count 108:Nat),V.int (w2.count 114:Nat)])=H6 at m6 y6 g6 r6 hC6 hL6;dsimp only[bT];have hw2:=(hok.2 w2 (by simp)).2;have sz:(sT w2).length≤ZW:=by rw[cG];exact YQ (by lia:_≤20000) (by decide)
  have cle:w2.count 108+w2.count 114≤w2.length:=xZ w2;refine t7 (fun σ' H'=>H6=H'∧rdT w2=some ((w2.count 108:Int),(w2.count 114:Int))∧σ'=[some (vx l),some (.ref C),some (.ref L),some (vx (sp 10 l)[i]),some (.ref y),some (.ref M)]) (fun N n1=>?_) ?_
  ·refine⟨_,rfl,(aI y _ 2 _ rfl ⟨ rfl,(aU (SqL.of y6) rfl rfl _ rfl (cO (fun d1=>?_) (fun d1=>?_)))⟩)⟩
   ·have d1:¬w2=[45]:=fun z=>by rw[z,sJ]at d1;simp at d1
    refine(aJ _ rfl M _ rfl ⟨ SqL.of m6,_,rfl,(aI y _ 2 _ rfl (aU rfl (SqL.of y6) rfl _ rfl (bN sz _ _ rfl rfl ⟨ _,rfl,cO (fun d2=>fR ?_) (fun d2=>⟨_,rfl,(aI y _ 2 _ rfl ⟨ rfl,(aU (SqL.of y6) rfl rfl _ rfl (cO (fun d3=>?_) (fun d3=>?_)))⟩)⟩)⟩)))⟩)
    ·have d2:[((w2.count 108:Nat):Int),((w2.count 114:Nat):Int)].sum<((sT w2).length:Int):=of_decide_eq_true d2;rw[cG]at d2;simp at d2;exact qn (hno (by rw[er1];unfold rdT;rw[if_neg d1,if_neg (fun z=>by lia)];rfl)) _ g6
    ·have d3:=of_decide_eq_true d3;rw[F5]at d3;have d3:w2=[]:=fW (V.str.inj d3);exact qn (hno (by rw[er1];unfold rdT;rw[if_neg d1,if_neg (fun z=>z.1 d3)];rfl)) _ g6
    ·have d2:¬[((w2.count 108:Nat):Int),((w2.count 114:Nat):Int)].sum<((sT w2).length:Int):=fun z=>d2 (decide_eq_true z);rw[cG]at d2;simp at d2;have d3:¬w2=[]:=fun z=>d3 (decide_eq_true (by rw[F5,z]));exact n1 _ _ ⟨rfl,by unfold rdT;rw[if_neg d1,if_pos ⟨d3,by lia⟩],rfl⟩
   ·have d1:w2=[45]:=by
     apply ZS;intro z;apply d1;rw[sJ,Bool.not_eq_true'];exact decide_eq_false fun y=>z (fW (V.str.inj y))
    exact iU (n1 _ _ ⟨rfl,by rw[d1];exact if_pos rfl,rfl⟩)
  rintro σ' _ ⟨rfl,hT,rfl⟩;obtain⟨f1,v1⟩:=Cn.fig c1;obtain⟨f3,v3'⟩:=Cn.fig c3;obtain⟨i1,i2⟩:=int_text f1;obtain⟨j1,j2⟩:=int_text f3;rw[v1]at i2;rw[v3']at j2;refine⟨_,rfl,_,rfl,(aI y _ 1 _ rfl ⟨ rfl,(aN (SqL.of y6) rfl _ _ rfl ⟨ i1,i2,_,rfl,(aI y _ 3 _ rfl ⟨ rfl,(aN (SqL.of y6) rfl _ _ rfl ⟨ j1,j2,(by show 2≤ZW;decide),fun X hX=>?_⟩)⟩)⟩)⟩)⟩;have k7:=aH hX (.lst [V.int (cv w1),V.int (cv w3)]);refine(aI C X _ _ rfl ⟨ rfl,k7 _ _ hC6,aB,YQ (by rw[Zq];show _+2≤1000000;lia) B6,fun C' hC'=>?_⟩);have k8:=k7.trans (aH hC' (.lst (cs.map V.int++[V.int (cv w1),V.int (cv w3)])));dsimp only[bT];refine⟨_,rfl,_,rfl,(aI L M _ _ rfl ⟨ rfl,k8 _ _ hL6,k8 _ _ m6,YQ (by rw[Zq];show _+2≤1000000;lia) B6,fun L' hL'=>?_⟩)⟩;have k9:=aH hL' (.lst (ls.map V.int++[((w2.count 108:Nat):Int),((w2.count 114:Nat):Int)].map V.int));refine(aI C' L' (cs++[cv w1,cv w3]) (ls++[((w2.count 108:Nat):Int),((w2.count 114:Nat):Int)]) ⟨_,_,_,rfl⟩ (bF (g6.trans (k8.trans k9)) (k9 _ _ (k8 _ _ r6)) (k9 _ _ (by rw[aB,Zt];rfl)) (by rw[aB,Zt]) ?_ ⟨ by rw[Zm];show _+2≤_;lia,by rw[Zm];show _+2≤_;lia⟩));rw[tk,kN,hrd,er1,hT];rfl
 ·rintro σ H2 ⟨C,L,cs,ls,⟨v3,v4,v5,rfl⟩,g2,r2,hC2,hL2,hrd,cl,ll⟩;have e:(rows l).take (vxs (sp 10 l)).length=rows l:=List.take_of_length_le (by unfold rows vxs;rw[Zq,Zq];exact Nat.le_refl _);rw[e]at hrd;exact(cL _ rfl _ rfl (by show 2≤ZW;decide) (fun r hr=>q cs ls hrd r C L _ (g2.trans (aH hr _)) aB (aH hr _ _ _ hC2) (aH hr _ _ _ hL2)))
end K75
namespace TX
open PySem L2 GR
theorem OP(c:Nat):(!(Builtin.Str.occurrences (ZT "enws") (sT [c]) 0 (ZT "enws").length 1).isEmpty)=decide (0≤hdL c):=by
 have h:=StrLaws.found_one (ZT "enws") c;have e:(ZT "enws").cps.toList=[101,110,119,115]:=by decide +kernel
 rw[e]at h;rw[show(sT [c])=(⟨#[c]⟩:Str) from rfl,h];congr 1;simp only[Zn,List.not_mem_nil,or_false,eq_iff_iff];unfold hdL;by_cases h1:c=101
 ·simp[h1]
 by_cases h2:c=110
 ·simp[h2]
 by_cases h3:c=119
 ·simp[h3]
 by_cases h4:c=115
 ·simp[h4]
 simp[h1,h2,h3,h4]
theorem TZ{h n:Int}(hh:h=0∨h=1∨h=2∨h=3):atI [V.int n,V.int 0,V.int (-n),V.int 0] h=some (.int (n*acr h)):=by
 rcases hh with rfl | rfl | rfl | rfl<;>simp[acr,atI]<;>rfl
theorem TY{h n:Int}(hh:h=0∨h=1∨h=2∨h=3):atI [V.int 0,V.int n,V.int 0,V.int (-n)] h=some (.int (n*upw h)):=by
 rcases hh with rfl | rfl | rfl | rfl<;>simp[upw,atI]<;>rfl
end TX
namespace K75
open PySem L2 PyProof.Rows TX GR
def VG:Sp:=fun vs H Q _=>∃(p:Addr) (ws:Rw),vs=[.ref p]∧H p=some (.lst (vxs ws))∧(∀w∈ws,Asc w∧w.length≤20000)∧3≤ws.length∧ws.length≤20000∧(∀l,bU ws=some l→∀D H',H D=none→aO H H'→TsI H' D l→Q (.ref D) H')∧(bU ws=none→∀H',aO H H'→Q .non H')
theorem UA(T:Txt K mg t):cU P w K mg base CX0 2 t.xJ t.wU ["_law_words"] VG:=by
 refine T.wM.F.ok sZ (fun vs H Q E h=>?_) (fun cdv A outer s H vs Q E hr h=>?_)
 ·obtain⟨p,ws,rfl,_⟩:=h;rfl
 obtain⟨p,ws,rfl,hp,hw,h3,hl,q,qn⟩:=h;have nd:=sZ.nd;refine⟨_,(aG (aZ 1 nd (cS (aA (bP (vP T) hr T.gE bK (aA (aQ aT (pv 0) aE (fun _ _=>rfl)) aC)) (aA (bP (vP T) hr T.gE bK (aA (aQ aT (pv 0) aE (fun _ _=>rfl)) aC)) aC))))
  (aG (cH (aS oE eE (pv 1) rfl) (aL (a8 eE)) bG)
  (aG (aZ 2 nd (bI (aA (pv 1) aC)))
  (aG (cR PassesOwn.never rfl (cD (bC cC (pv 0) (bH aE) bB)) (aX (i:=3) nd rfl (Or.inl rfl)) (aG (aZ 4 nd (bP (vP T) hr T.gE bK (aA (bC iA (pv 3) (bH aE) bB) aC)))
  (aG (cH (PW.pt (iY (aS AG (pv 4) eE (bA _)) (iY (aS p9 (pv 4) aE (bA _)) (jF (aS p7 (aQ wC (pv 3) aE (fun _ _=>rfl)) aY rfl))))) (aL (a8 eE)) bG)
  (aG (aZ 5 nd (lI PySem.F.plainAttrs_str PySem.F.slot_str_index PySem.F.type_str_index HG aY (aA (aQ wC (pv 3) aE (fun _ _=>rfl)) aC)))
  (aG (aZ 1 nd (cS (aA (aM bM (aQ bW (pv 1) aE (fun _ _=>rfl)) (aQ aT (bI (aA (pv 4) (aA aE (aA (iH e8 (pv 4)) (aA aE aC))))) (pv 5) (fun _ _=>rfl))) (aA (aM bM (aQ bW (pv 1) aE (fun _ _=>rfl)) (aQ aT (bI (aA aE (aA (pv 4) (aA aE (aA (iH e8 (pv 4)) aC))))) (pv 5) (fun _ _=>rfl))) aC))))
  (aL (bQ (dE mAp bR (pv 2) (aA (pv 1) aC)))))))))
  (aL (a8 (pv 2))))))),?_⟩
 obtain⟨x,y,W,rfl⟩:∃x y W,ws=x::y::W:=by
  match ws,h3 with
  |x::y::W,_=>exact⟨x,y,W,rfl⟩
 have hx:=hw x (by simp);have hy:=hw y (by simp);have c3:fF (vxs (x::y::W)) (some 2) none=vxs W:=by rw[show(some (2:Int))=some ((2:Nat):Int) from rfl,gF];rfl
 have er:bU (x::y::W)=(num x).bind fun a=>(num y).bind fun b=>(fE (a,b) W).map fun l=>(a,b)::l:=by unfold bU;rw[if_pos (by lia)];rfl
 refine⟨_,rfl,(aI p _ 0 _ rfl ⟨ rfl,(aN (SqL.of hp) (cE (j:=0) rfl) _ x rfl ⟨ rfl,hx.1,hx.2,fun H1 g1=>?_⟩)⟩)⟩;refine⟨_,rfl,(aI p _ 1 _ rfl ⟨ rfl,(aN (SqL.of (g1 _ _ hp)) (cE (j:=1) rfl) _ y rfl ⟨ rfl,hy.1,hy.2,fun H2 g2=>⟨(by show 2≤ZW;decide),fun P0 hP0=>?_⟩⟩)⟩)⟩;have k3:=aH hP0 (.tup [vo (num x),vo (num y)]);have g3:=g1.trans (g2.trans k3);dsimp only[bT];cases ha:num x with
 |none =>
  rw[ha]at er;exact(aJ _ rfl P0 _ rfl (aU (.inr (SqT.of aB)) rfl (by cases num y<;>rfl) _ rfl (oZ (by rfl) (qn er _ (by rw[ha]at g3;exact g3)))))
 |some a =>
 cases hb:num y with
 |none =>
  rw[ha,hb]at er;exact(aJ _ rfl P0 _ rfl (aU (.inr (SqT.of aB)) rfl rfl _ rfl (oZ (by rfl) (qn er _ (by rw[ha,hb]at g3;exact g3)))))
 |some b =>
 rw[ha,hb]at er k3 g3;have er:bU (x::y::W)=(fE (a,b) W).map fun l=>(a,b)::l:=er;refine(aJ _ rfl P0 _ rfl (aU (.inr (SqT.of aB)) rfl rfl _ rfl (jC (by rfl) ?_)));refine⟨_,rfl,(by show 1≤ZW;decide),fun Ln hLn=>?_⟩;have k4:=aH hLn (.lst [V.ref P0]);dsimp only[bT];refine⟨_,rfl,(aJ _ rfl p _ rfl ⟨ SqL.of (k4 _ _ (g3 _ _ hp)),fun R hR=>?_⟩)⟩;rw[c3];have k5:=aH hR (.lst (vxs W));have nLR:R≠Ln:=fun e=>by rw[e,aB]at hR;cases hR
 have g05:=g3.trans (k4.trans k5);have hLn0:H Ln=none:=g3.free hLn
 let Pv1:Nat→L2.St→L2.Hp→Prop:=fun k σ H'=>∃(pk:Pt) (pa:Addr) (l:List Pt) (tr:List Addr),(∃v3 v4 v5,σ=[some (.ref p),some (.ref pa),some (.ref Ln),v3,v4,v5])∧aO H H'∧H' R=some (.lst (vxs W))∧PtA H' pa pk∧H' Ln=some (.lst (tr.map V.ref))∧PtR H' tr ((a,b)::l)∧l.length=k∧fE (a,b) W=(fE pk (W.drop k)).map fun l'=>l++l'
 refine⟨R,rfl,⟨_,SqL.of aB⟩,dR (xs:=vxs W) Pv1 (aI (a,b) P0 ([]) ([P0]) ⟨_,_,_,rfl⟩ (bF g05 aB (k5 _ _ (k4 _ _ aB)) (k5 _ _ aB) (.cons (k5 _ _ (k4 _ _ aB)) .nil) ⟨ rfl,by rw[List.drop_zero];cases fE (a,b) W<;>simp⟩)) (fun _ _ _ _ ⟨_,_,_,_,_,_,h,_⟩=>SqL.of h) ?_ ?_⟩
 ·rintro k x' σ H6 hx' ⟨pk,pa,l,tr,⟨v3,v4,v5,rfl⟩,g6,r6,pk6,ln6,tr6,lk,hgo⟩;have hk:k<W.length:=by have:=(Zj.mp hx').1;unfold vxs at this;rw[Zq]at this;exact this
  unfold vxs at hx';rw[Zk,GR.aK hk]at hx';cases hx';have ed:W.drop k=W[k]::W.drop (k+1):=List.drop_eq_getElem_cons hk;rw[ed]at hgo;have hwk:=hw W[k] (Zw _ (Zw _ (Zp hk)));have hkl:k≤20000:=by rw[Yq,Yq]at hl;lia
  generalize W[k]=wk at hgo hwk;refine⟨_,rfl,(aJ 1 rfl _ wk rfl (aN rfl (by lia) _ (wk.drop 1) rfl ⟨ ?_,fun d hd=>hwk.1 d (List.mem_of_mem_drop hd),by rw[Ym];omega,fun H7 g7=>?_⟩))⟩
  ·rw[show(some (1:Int))=some ((1:Nat):Int) from rfl,fO]
  have g67:=g6.trans g7;dsimp only[bT];cases hn:num (wk.drop 1) with
  |none =>
   have hs:e9 pk wk=none:=by
    cases wk with
    |nil=>rfl
    |cons c r =>
     have hn:num r=none:=hn;show(if 0≤hdL c then (num r).bind _ else none)=none;rw[hn];split<;>rfl
   exact(bE _ rfl rfl _ rfl (oZ (by rfl) (fR (qn (by rw[er,FV hgo hs];rfl) _ g67))))
  |some n =>
   obtain⟨c,r,rfl⟩:∃c r,wk=c::r:=by
    cases wk with
    |nil=>exact absurd (KJ.symm.trans hn) (by simp)
    |cons c r=>exact⟨c,r,rfl⟩
   have hn:num r=some n:=hn;have es:e9 pk (c::r)=if 0≤hdL c then (if 1≤n then some (pk.1+n*acr (hdL c),pk.2+n*upw (hdL c)) else none) else none:=by
    show(if 0≤hdL c then (num r).bind _ else none)=_;rw[hn];rfl
   have sz:(sT (c::r)).length≤ZW:=by rw[cG];exact YQ (by have:=hwk.2;lia:_≤20000) (by decide)
   refine(bE _ rfl rfl _ rfl (jC (by rfl) (aJ _ rfl _ _ rfl ⟨ rfl,_,rfl,cO (fun d2=>fR ?_) (fun d2=>⟨_,(cF rfl _ _ c rfl ⟨ rfl,(aN sz (by rw[eZ];exact cE (j:=0) rfl) _ _ rfl ⟨ rfl,_,rfl,?_⟩)⟩)⟩)⟩)))
   ·have d2:n<1:=of_decide_eq_true d2;have hs:e9 pk (c::r)=none:=by rw[es,if_neg (by lia:¬1≤n)];split<;>rfl
    exact qn (by rw[er,FV hgo hs];rfl) _ g67
   have d2:1≤n:=by
    have:¬n<1:=fun z=>d2 (decide_eq_true z)
    lia
   rw[show(⟨#[c]⟩:Str)=sT [c] from rfl,OP];refine cO (fun d3=>?_) (fun d3=>?_)
   ·have d3:¬0≤hdL c:=of_decide_eq_false (by simpa using d3);have hs:e9 pk (c::r)=none:=by rw[es,if_neg d3]
    exact qn (by rw[er,FV hgo hs];rfl) _ g67
   have d3:0≤hdL c:=by simpa using d3
   have hs:e9 pk (c::r)=some (pk.1+n*acr (hdL c),pk.2+n*upw (hdL c)):=by rw[es,if_pos d3,if_pos d2]
   have ei:(((hdL c).toNat:Nat):Int)=hdL c:=by lia
   have h4:=hd4 d3;refine⟨rfl,_,(cF rfl _ _ c rfl ⟨ rfl,sz,(cF (by rw[eZ];exact cE (j:=0) rfl) _ _ ((hdL c).toNat) rfl ⟨ rfl,by rw[show(⟨#[c]⟩:Str)=sT [c] from rfl,yS];lia,?_⟩)⟩)⟩;rw[ei];dsimp only[bT];have pk7:=g7 _ _ pk6;refine⟨_,rfl,(aI pa _ 0 _ rfl (aU rfl (SqT.of pk7) rfl _ rfl (cL _ rfl _ rfl (by show 4≤ZW;decide) (fun X1 hX1=>⟨_,rfl,(aI X1 _ _ _ rfl ⟨ rfl,(aN (SqL.of aB) (TZ h4) _ _ rfl ⟨ rfl,?_⟩)⟩)⟩))))⟩;have k8:=aH hX1 (.lst [V.int n,V.int 0,V.int (-n),V.int 0]);refine⟨_,rfl,(aI pa _ 1 _ rfl (aU rfl (SqT.of (k8 _ _ pk7)) rfl _ rfl (cL _ rfl _ rfl (by show 4≤ZW;decide) (fun X2 hX2=>⟨_,rfl,(aI X2 _ _ _ rfl ⟨ rfl,(aN (SqL.of aB) (TY h4) _ _ rfl ⟨ rfl,(by show 2≤ZW;decide),fun P1 hP1=>?_⟩)⟩)⟩))))⟩;have k9:=k8.trans ((aH hX2 (.lst [V.int 0,V.int n,V.int 0,V.int (-n)])).trans (aH hP1 (.tup [.int (pk.1+n*acr (hdL c)),.int (pk.2+n*upw (hdL c))])));have g79:=g7.trans k9;have ln9:=g79 _ _ ln6;have trl:=tr6.len;have g9:=g6.trans g79;have r9:=g79 _ _ r6;have t9:=tr6.same g79;have ln8:=(k8.trans (aH hX2 (.lst [V.int 0,V.int n,V.int 0,V.int (-n)]))) _ _ (g7 _ _ ln6);have nPL:P1≠Ln:=fun z=>absurd (hP1.symm.trans (z.symm▸ln8)) (by simp);dsimp only[bT];refine(bE _ rfl (.inl ⟨rfl,_,SqL.of ln9⟩) _ rfl (cQ Ln _ _ rfl rfl ⟨ ln9,Xz (by rw[Zq,trl,Yq];lia:_<1000000) B6,(aI _ P1 (l++[(pk.1+n*acr (hdL c),pk.2+n*upw (hdL c))]) (tr++[P1]) ⟨_,_,_,rfl⟩ (bF (g9.fresh hLn0 _) ((aP nLR).trans r9) ((aP nPL).trans aB) (by rw[aB,Zt];rfl) ?_ ⟨ by rw[Zm,lk];rfl,P3 hgo hs⟩))⟩));have t10:=PtR.app (.cons (a:=P1) (p:=(pk.1+n*acr (hdL c),pk.2+n*upw (hdL c))) aB .nil) t9;exact t10.other ln9 _
 ·rintro σ H6 ⟨pk,pa,l,tr,⟨v3,v4,v5,rfl⟩,g6,r6,pk6,ln6,tr6,lk,hgo⟩;have e:W.drop (vxs W).length=[]:=by unfold vxs;rw[Zq];exact List.drop_length
  rw[e]at hgo;exact⟨_,rfl,q ((a,b)::l) (by rw[er,hgo];simp[fE]) Ln H6 hLn0 g6 (tr6.ts ln6)⟩
end K75
namespace TX
open PySem L2 GR
def spR(S L:List Rw):List Rw:=S.map (cB::·)++L.map (dA::·)
theorem D0{k:Wd}{R:List Rw}(h:∀r∈R.head?,r.head?≠some k):∀S:List Rw,run k (S.map (k::·)++R)=S
 |[]=>by
  cases R with
  |nil=>rfl
  |cons r R =>
   have:(r.head?==some k)=false:=beq_eq_false_iff_ne.mpr (h r rfl);show(((r::R).takeWhile fun r=>r.head?==some k).map (·.drop 1))=[]
   rw[List.takeWhile_cons,this];rfl
 |s::S=>by
  show((((k::s)::(S.map (k::·)++R)).takeWhile fun r=>r.head?==some k).map (·.drop 1))=_;rw[List.takeWhile_cons,show((k::s).head?==some k)=true from beq_self_eq_true _];show s::run k (S.map (k::·)++R)=_;rw[D0 h S]
theorem JL(S L:List Rw):rdD (spR S L)=if S≠[]∧L≠[] then (fS (S.map dN)).bind fun sp=>(fS (L.map bU)).map fun ll=>(sp,ll) else none:=by
 have h1:run cB (spR S L)=S:=D0 (fun r hr=>by
  cases L with
  |nil=>cases hr
  |cons l L=>cases hr;intro z;exact absurd (Option.some.inj z) (by decide)) S
 have h2:(spR S L).drop S.length=L.map (dA::·):=by unfold spR;rw[List.drop_append_of_le_length (by simp),List.drop_eq_nil_of_le (by simp)];rfl
 have h3:run dA (L.map (dA::·))=L:=by
  have:=D0 (k:=dA) (R:=[]) (fun r hr=>by cases hr) L;rw[List.append_nil]at this;exact this
 have h4:DrS (spR S L)↔S≠[]∧L≠[]:=by
  unfold DrS;rw[h1,h2,h3];exact⟨fun h=>⟨h.1,h.2.1⟩,fun h=>⟨h.1,h.2,by unfold spR;simp⟩⟩
 unfold rdD;rw[h1,h2,h3];by_cases c:S≠[]∧L≠[]
 ·rw[if_pos (h4.mpr c),if_pos c]
 ·rw[if_neg (fun z=>c (h4.mp z)),if_neg c]
theorem BP{k:Wd}(W:List Rw):W=(run k W).map (k::·)++W.drop (run k W).length:=by
 have e:(run k W).map (k::·)=W.takeWhile fun r=>r.head?==some k:=by
  unfold run;rw[Yb];refine(Yp fun r hr=>?_).trans (List.map_id _);have:=List.all_takeWhile (p:=fun r:Rw=>r.head?==some k) (l:=W);have h:=List.all_eq_true.mp this r hr;have h:r.head?=some k:=beq_iff_eq.mp h;cases r with
  |nil=>cases h
  |cons a r=>cases h;rfl
 have l:(run k W).length=(W.takeWhile fun r=>r.head?==some k).length:=by unfold run;rw[Zq]
 rw[e,l];have h1:=List.takeWhile_append_dropWhile (p:=fun r:Rw=>r.head?==some k) (l:=W);generalize (W.takeWhile fun r=>r.head?==some k)=A at *;generalize (W.dropWhile fun r=>r.head?==some k)=B at *;subst h1;simp
theorem DH{α:Type}{l:List (Option α)}{r:List α}(h:fS l=some r):l=r.map some:=by
 induction l generalizing r with
 |nil=>cases h;rfl
 |cons x l ih =>
  cases x with
  |none=>cases h
  |some a =>
   have h:(fS l).map (fun r=>a::r)=some r:=h;obtain⟨r',h1,rfl⟩:=Xk.mp h;rw[ih h1];rfl
theorem DG{α:Type}{f:Rw→Option α}{S:List Rw}{r:List α}(h:fS (S.map f)=some r):∀s∈S,f s≠none:=fun s hs z=>by
 rw[oN (Zh.mpr ⟨s,hs,z⟩)]at h;cases h
theorem Q2{W:List Rw}(h:rdD W≠none):∃S L,W=spR S L∧(∀s∈S,s.length=2)∧∀r∈L,3≤r.length:=by
 have hD:DrS W:=ZS fun z=>h (by unfold rdD;exact if_neg z);have e:rdD W=(fS ((run cB W).map dN)).bind fun sp=>(fS ((run dA (W.drop (run cB W).length)).map bU)).map fun ll=>(sp,ll):=by unfold rdD;exact if_pos hD
 rw[e]at h;obtain⟨_,_,d3⟩:=hD;refine⟨run cB W,run dA (W.drop (run cB W).length),?_,fun s hs=>?_,fun r hr=>?_⟩
 ·have h1:=BP (k:=cB) W;have h2:=BP (k:=dA) (W.drop (run cB W).length);have h3:(W.drop (run cB W).length).drop (run dA (W.drop (run cB W).length)).length=[]:=by rw[List.drop_drop];exact List.drop_eq_nil_of_le (by lia)
  rw[h3,List.append_nil]at h2;unfold spR;rw[←h2];exact h1
 ·cases e1:fS ((run cB W).map dN) with
  |none=>rw[e1]at h;exact absurd rfl h
  |some sp =>
   apply ZS;intro z;exact DG e1 s hs (if_neg z)
 ·cases e1:fS ((run dA (W.drop (run cB W).length)).map bU) with
  |none =>
   rw[e1]at h;exact absurd (by cases fS ((run cB W).map dN)<;>rfl) h
  |some sp =>
   apply ZS;intro z;exact DG e1 r hr (if_neg (by lia))
theorem Q1{W S L:List Rw}{r:Rw}{i:Nat}(ht:W.take i=spR S L)(hr:W[i]?=some r)(h1:¬(r.head?=some cB∧L=[]∧r.length=3))(h2:¬(r.head?=some dA∧3<r.length)):rdD W=none:=by
 apply ZS;intro z;obtain⟨S',L',rfl,a1,a2⟩:=Q2 z;unfold spR at hr;by_cases c:i<S'.length
 ·rw[Zx (by simpa using c),Zk,aK c]at hr;cases hr;refine h1 ⟨rfl,?_,by rw[Yq,a1 _ (Zp c)]⟩;have e:spR S L=(S'.take i).map (cB::·):=by
   rw[←ht];unfold spR;rw[List.take_append_of_le_length (by simp;lia),List.map_take]
  cases L with
  |nil=>rfl
  |cons l L =>
   have hm:dA::l∈spR S (l::L):=List.mem_append_right _ (Zd ..);rw[e]at hm;obtain⟨s,_,hs⟩:=Zh.mp hm;exact absurd (List.cons.inj hs).1 (by decide)
 ·rw[Zy (by simp;lia),Zk]at hr;obtain⟨l,hl,rfl⟩:=Xk.mp hr;refine h2 ⟨rfl,?_⟩;have:=a2 l (Zg hl);rw[Yq];lia
end TX
namespace K75
open PySem L2 PyProof.Rows TX GR
def LnV(H:Hp)(LA:Addr)(v:V):Option (List Pt)→Prop
 |none=>v=.non
 |some l=>∃x,v=.ref x∧x≠LA∧TsI H x l
theorem LnV.same{H H':Hp}{LA:Addr}{v:V}{o:Option (List Pt)}(h:LnV H LA v o)(g:aO H H'):LnV H' LA v o:=by
 cases o with
 |none=>exact h
 |some l=>obtain⟨x,h1,h2,h3⟩:=h;exact⟨x,h1,h2,h3.same g⟩
theorem LnV.oth{H:Hp}{LA:Addr}{v:V}{o:Option (List Pt)}{ys:List V}(h:LnV H LA v o)(hD:H LA=some (.lst ys))(z:HO):LnV (upd H LA z) LA v o:=by
 cases o with
 |none=>exact h
 |some l=>obtain⟨x,h1,h2,h3⟩:=h;exact⟨x,h1,h2,IS h3 hD h2 z⟩
def dLn:Option (List Pt)→PyData
 |none=>.none
 |some l=>.list (l.map dP)
theorem LnV.bd{H:Hp}{LA:Addr}{v:V}{o:Option (List Pt)}(h:LnV H LA v o):Bd K H v (dLn o):=by
 cases o with
 |none=>cases h;exact .non
 |some l=>obtain⟨x,rfl,_,⟨tr,h1,h2,h3⟩⟩:=h;exact .lst (SqL.of h1) (TsI.bds h2 h3)
theorem K2(o:Option (List Pt)):smD (dLn o):=by
 cases o with
 |none=>exact⟨rfl,by decide⟩
 |some l =>
  have h:PyData.canLayAll0 (l.map dP)=true∧PyData.depthAll (l.map dP)≤4:=jB 4 fun d hd=>by
   obtain⟨z,_,rfl⟩:=Zh.mp hd;exact⟨rfl,by simp[dP,PyData.depth,PyData.depthAll]⟩
  refine⟨h.1,?_⟩;show(PyData.list (l.map dP)).depth≤8;rw[PyData.depth]
  lia
theorem EB{ds:List PyData}(h:∀d∈ds,smD d):SeqAt.shaped (.list ds)=true:=by
 have h:=jB 8 h;unfold SeqAt.shaped;rw[Xy];refine⟨h.1,decide_eq_true ?_⟩;rw[PyData.depth]
 lia
theorem ME{H:Hp}{α:Type}{d:α→PyData}:∀(xs:List V) (S:List α),xs.length=S.length→(∀(i:Nat) s,S[i]?=some s→∃v,xs[i]?=some v∧Bd K H v (d s))→Bds K H xs (S.map d)
 |[],[],_,_=>.nil
 |x::xs,s::S,hl,h=>by
  obtain⟨v,h1,h2⟩:=h 0 s rfl;cases h1;exact .cons h2 (ME xs S (by simpa using hl) fun i s' e=>h (i+1) s' (by simpa using e))
theorem OY(o:Option (List Pt)):PyData.eqv (dLn o) .none=decide (o=none):=by
 cases o with
 |none=>rfl
 |some l=>rfl
theorem GF(L:List Rw):((L.map fun r=>dLn (bU r)).any fun d=>PyData.eqv d .none)=decide (none∈L.map bU):=by
 rw[List.any_map,Xg,List.any_eq_true,decide_eq_true_eq,Zh];constructor
 ·rintro⟨r,h1,h2⟩;exact⟨r,h1,of_decide_eq_true ((OY _).symm.trans h2)⟩
 ·rintro⟨r,h1,h2⟩;exact⟨r,h1,by show PyData.eqv (dLn (bU r)) .none=true;rw[h2];rfl⟩
theorem all_some{α:Type}:∀{l:List (Option α)},none∉l→∃r,fS l=some r
 |[],_=>⟨[],rfl⟩
 |x::l,h=>by
  obtain⟨r,hr⟩:=all_some (l:=l) fun z=>h (Zw _ z);cases x with
  |none=>exact absurd Zd h
  |some a=>exact⟨a::r,by show(fS l).map _=_;rw[hr];rfl⟩
def PK:Sp:=fun vs H Q _=>∃(z:Str) (l:List Nat),vs=[.str z]∧z=sT l∧Asc l∧l.length≤19000 ∧
 (∀sp ll,rdD (rows l)=some (sp,ll)→∀r pa la H',aO H H'→H' r=some (.tup [.ref pa,.ref la])→TsI H' pa sp→(∃rr:List Addr,H' la=some (.lst (rr.map V.ref))∧rr.length=ll.length∧∀(i:Nat) r,ll[i]?=some r→∃x,rr[i]?=some x∧TsI H' x r)→Q (.ref r) H')∧(rdD (rows l)=none→∀H',aO H H'→Q .non H')
def RdI(H H':Hp)(R SA LA:Addr)(l:List Nat)(i:Nat):Prop:=∃(S L:List Rw) (sr:List Addr) (lv:List V),aO H H'∧H' R=some (.lst (vxs (sp 10 l)))∧H' SA=some (.lst (sr.map V.ref))∧H' LA=some (.lst lv)∧(rows l).take i=spR S L∧(∀s∈S,s.length=2)∧(∀r∈L,3≤r.length)∧sr.length=S.length∧(∀(j:Nat) s,S[j]?=some s→∃x,sr[j]?=some x∧H' x=some (.tup [vo (num (s.getD 0 [])),vo (num (s.getD 1 []))]))∧lv.length=L.length∧∀(j:Nat) r,L[j]?=some r→∃v,lv[j]?=some v∧LnV H' LA v (bU r)
theorem NJ{H H' H'':Hp}{R SA LA:Addr}{l:List Nat}{i:Nat}{S:List Rw}{sr:List Addr}{s:Rw}{x:Addr}(hS:H SA=none)(nRS:R≠SA)(nLS:LA≠SA)(g:aO H H'')(hR:H'' R=some (.lst (vxs (sp 10 l))))(h1:H'' SA=some (.lst (sr.map V.ref)))(h2:H'' LA=some (.lst []))(ht:(rows l).take (i+1)=spR (S++[s]) [])(h3:∀s∈S,s.length=2)(h4:s.length=2)(h5:sr.length=S.length)(h6:∀(j:Nat) s,S[j]?=some s→∃x,sr[j]?=some x∧H'' x=some (.tup [vo (num (s.getD 0 [])),vo (num (s.getD 1 []))]))(hx:H'' x=some (.tup [vo (num (s.getD 0 [])),vo (num (s.getD 1 []))])):RdI H (upd H'' SA (.lst (sr.map V.ref++[.ref x]))) R SA LA l (i+1):=by
 have nt:∀{y:Addr}{vs:List V},H'' y=some (.tup vs)→y≠SA:=fun hy z=>by rw[z,h1]at hy;cases hy
 refine⟨S++[s],[],sr++[x],[],g.fresh hS _,by rw[aP nRS];exact hR,by rw[aB,Zt];rfl,by rw[aP nLS];exact h2,ht,fun s' hs=>?_,fun r hr=>by simp at hr,by simp[h5],fun j s' e=>?_,rfl,fun j r e=>by simp at e⟩
 ·rcases Zf.mp hs with z | z
  ·exact h3 s' z
  ·rw[Zb.mp z];exact h4
 ·rcases Nat.lt_or_ge j S.length with c | c
  ·rw[Zx c]at e;obtain⟨y,y1,y2⟩:=h6 j s' e;exact⟨y,by rw[Zx (by lia)];exact y1,by rw[aP (nt y2)];exact y2⟩
  ·have:j=S.length:=by have:=(Zj.mp e).1;simp at this;lia
   subst this;rw[Yy]at e;cases e;exact⟨x,by rw[←h5,Yy],by rw[aP (nt hx)];exact hx⟩
theorem NI{H H'':Hp}{R SA LA:Addr}{l:List Nat}{i:Nat}{S L:List Rw}{sr:List Addr}{lv:List V}{r:Rw}{v:V}(hL:H LA=none)(nRL:R≠LA)(nLS:LA≠SA)(g:aO H H'')(hR:H'' R=some (.lst (vxs (sp 10 l))))(h1:H'' SA=some (.lst (sr.map V.ref)))(h2:H'' LA=some (.lst lv))(ht:(rows l).take (i+1)=spR S (L++[r]))(h3:∀s∈S,s.length=2)(h3l:∀s∈L,3≤s.length)(h4:3≤r.length)(h5:sr.length=S.length)(h6:∀(j:Nat) s,S[j]?=some s→∃x,sr[j]?=some x∧H'' x=some (.tup [vo (num (s.getD 0 [])),vo (num (s.getD 1 []))]))(h7:lv.length=L.length)(h8:∀(j:Nat) r,L[j]?=some r→∃v,lv[j]?=some v∧LnV H'' LA v (bU r))(hv:LnV H'' LA v (bU r)):RdI H (upd H'' LA (.lst (lv++[v]))) R SA LA l (i+1):=by
 have nt:∀{y:Addr}{vs:List V},H'' y=some (.tup vs)→y≠LA:=fun hy z=>by rw[z,h2]at hy;cases hy
 refine⟨S,L++[r],sr,lv++[v],g.fresh hL _,by rw[aP nRL];exact hR,by rw[aP (Ne.symm nLS)];exact h1,aB,ht,h3,fun s' hs=>?_,h5,fun j s' e=>let⟨y,y1,y2⟩:=h6 j s' e;⟨y,y1,by rw[aP (nt y2)];exact y2⟩,by simp[h7],fun j s' e=>?_⟩
 ·rcases Zf.mp hs with z | z
  ·exact h3l s' z
  ·rw[Zb.mp z];exact h4
 ·rcases Nat.lt_or_ge j L.length with c | c
  ·rw[Zx c]at e;obtain⟨y,y1,y2⟩:=h8 j s' e;exact⟨y,by rw[Zx (by lia)];exact y1,y2.oth h2 _⟩
  ·have:j=L.length:=by have:=(Zj.mp e).1;simp at this;lia
   subst this;rw[Yy]at e;cases e;exact⟨v,by rw[←h7,Yy],hv.oth h2 _⟩
theorem RJ(T:Txt K mg t):cU P w K mg base CX0 3 t.kA t.j4 ["_law_text"] PK:=by
 refine T.jZ.F.ok iV (fun vs H Q E h=>?_) (fun cdv A outer s H vs Q E hr h=>?_)
 ·obtain⟨z,l,rfl,_⟩:=h;rfl
 obtain⟨z,l,rfl,rfl,hasc,hl,q,qn⟩:=h;have nd:=iV.nd;have nd_l_spot:(["_law_spot"]:List Str).Nodup:=by decide
 refine⟨_,(aG (aZ 1 nd (bI aC))
  (aG (aZ 2 nd (bI aC))
  (aG (cR PassesOwn.never rfl (cD (dE mSp gM (pv 0) (aA aY aC))) (aX (i:=3) nd rfl (Or.inl rfl)) (aG (aZ 4 nd (dE mSp gM (pv 3) (aA aY aC)))
  (aL (cH (PW.pt (kS (aS dO (aQ aT (pv 4) aE (fun _ _=>rfl)) aY (bA _)) (kS (aS (mG hr.units) (pv 2) (bI aC) (bA _)) (iZ (aS dO (aW aV rfl T.cP PySem.boot_len (aA (pv 4) aC)) aE (bA _)))))) (aL (bQ (dE mAp bR (pv 1) (aA (cS (aA (bP (vP T) hr T.gE bK (aA (aQ aT (pv 4) aE (fun _ _=>rfl)) aC)) (aA (bP (vP T) hr T.gE bK (aA (aQ aT (pv 4) aE (fun _ _=>rfl)) aC)) aC))) aC)))) (aL (cH (PW.pt (kS (aS dO (aQ aT (pv 4) aE (fun _ _=>rfl)) aY (bA _)) (iZ (aS B0 (aW aV rfl T.cP PySem.boot_len (aA (pv 4) aC)) aE (bA _))))) (aL (bQ (dE mAp bR (pv 2) (aA (bP (UA T) hr T.wM bK (aA (bC cC (pv 4) (bH aE) bB) aC)) aC)))) (aL (a8 eE))))))))
  (aG (cH (PW.pt (iY (aS (mG hr.units) (pv 1) (bI aC) (bA _)) (iY (aS (mG hr.units) (pv 2) (bI aC) (bA _)) (iY (aS (rZ hr.units) eE (pv 2) rfl) (jF (aS B0 (aW aV rfl T.cP PySem.boot_len (aA (eN (N':=["_law_spot"]) (js:=[none]) rfl (cD (pv 1)) (fun _ _ _ _ _=>(aX (i:=0) nd_l_spot rfl (Or.inl rfl))) (fun _ _ _ _ _=>(rW (aS (K4 (K:=K) rfl) eE (pv 0) rfl))) (fun _ _ _ _ _=>(pv 0))) aC)) aE (bA _))))))) (aL (a8 eE)) bG)
  (aL (a8 (cS (aA (pv 1) (aA (pv 2) aC))))))))),?_⟩
 refine⟨(by show 0≤ZW;decide),fun SA hSA=>?_⟩;have b1:=aH hSA (.lst []);refine⟨(by show 0≤ZW;decide),fun LA hLA=>?_⟩;have b2:=aH hLA (.lst []);refine⟨_,rfl,rfl,(aI _ _ l 10 rfl ⟨ rfl,rfl,LX,YQ hl (by decide),fun R hR=>?_⟩)⟩;have b3:=aH hR (.lst (vxs (sp 10 l)));have rok:=kL hasc (by lia);have sl:(sp 10 l).length≤19001:=by
  rw[hZ];have:l.count 10≤l.length:=List.count_le_length
  lia
 have nLS:LA≠SA:=fun z=>by rw[z,aB]at hLA;cases hLA
 have nRS:R≠SA:=fun z=>by rw[z,b2 _ _ aB]at hR;cases hR
 have nRL:R≠LA:=fun z=>by rw[z,aB]at hR;cases hR
 have hLA0:H LA=none:=b1.free hLA
 let Pv1:Nat→L2.St→L2.Hp→Prop:=fun i σ H'=>(∃v3 v4,σ=[some (vx l),some (.ref SA),some (.ref LA),v3,v4])∧RdI H H' R SA LA l i
 refine⟨R,rfl,⟨_,SqL.of aB⟩,dR (xs:=vxs (sp 10 l)) Pv1 ⟨⟨_,_,rfl⟩,(aI ([]) ([]) ([]) ([]) (b1.trans (b2.trans b3)) (bF aB (b3 _ _ (b2 _ _ aB)) (b3 _ _ aB) rfl (fun s hs=>by simp at hs) ⟨ fun s hs=>by simp at hs,rfl,fun j s e=>by simp at e,rfl,fun j s e=>by simp at e⟩))⟩ (fun _ _ _ _ ⟨_,_,_,_,_,_,h,_⟩=>SqL.of h) ?_ ?_⟩
 ·rintro i x σ H2 hx ⟨⟨v3,v4,rfl⟩,S,L,sr,lv,g2,r2,s2,l2,tk,z1,z2,z3,z4,z5,z6⟩;have hi:i<(sp 10 l).length:=by have:=(Zj.mp hx).1;unfold vxs at this;rw[Zq]at this;exact this
  unfold vxs at hx;rw[Zk,GR.aK hi]at hx;cases hx;have hm:(sp 10 l)[i]∈sp 10 l:=Zp hi;have hs:=lU 10 l hm;have er:(rows l)[i]?=some (sp 32 (sp 10 l)[i]):=by unfold rows;rw[Zk,GR.aK hi];rfl
  have hrm:=Zg er;have tk':(rows l).take (i+1)=spR S L++[sp 32 (sp 10 l)[i]]:=by rw[List.take_add_one,er,tk];rfl
  have til:S.length+L.length=i:=by
   have:=congrArg List.length tk;unfold spR at this;rw[Yx,Zm,Zq,Zq]at this;have hl2:(rows l).length=(sp 10 l).length:=by unfold rows;rw[Zq]
   lia
  refine⟨_,rfl,rfl,(aI _ _ ((sp 10 l)[i]) 32 rfl ⟨ rfl,rfl,LV,YQ (by lia:_≤20000) (by decide),fun y hy=>?_⟩)⟩;have k3:=aH hy (.lst (vxs (sp 32 (sp 10 l)[i])));have g3:=g2.trans k3;have y3:upd H2 y (.lst (vxs (sp 32 (sp 10 l)[i]))) y=some (.lst (vxs (sp 32 (sp 10 l)[i]))):=aB;have hok:=rok _ hrm;have hne:=AA _ hrm;have hno:=fun h1 h2=>Q1 tk er h1 h2;have s3:=k3 _ _ s2;have l3:=k3 _ _ l2;have r3:=k3 _ _ r2;have z4':∀(j:Nat) s,S[j]?=some s→∃x,sr[j]?=some x∧upd H2 y (.lst (vxs (sp 32 (sp 10 l)[i]))) x=some (.tup [vo (num (s.getD 0 [])),vo (num (s.getD 1 []))]):=fun j s e=>let⟨x,x1,x2⟩:=z4 j s e;⟨x,x1,k3 _ _ x2⟩;have z6':∀(j:Nat) r,L[j]?=some r→∃v,lv[j]?=some v∧LnV (upd H2 y (.lst (vxs (sp 32 (sp 10 l)[i])))) LA v (bU r):=fun j s e=>let⟨x,x1,x2⟩:=z6 j s e;⟨x,x1,x2.same k3⟩;generalize sp 32 (sp 10 l)[i]=ws at tk' k3 g3 y3 hok hne hno s3 l3 r3 z4' z6' er;generalize upd H2 y (.lst (vxs ws))=H3 at k3 g3 y3 s3 l3 r3 z4' z6';clear z4 z6;obtain⟨w0,wt,rfl⟩:∃w0 wt,ws=w0::wt:=by
   cases ws with
   |nil=>exact absurd rfl hne
   |cons a b=>exact⟨a,b,rfl⟩
  have wl:((vxs (w0::wt)).length:Int)=(wt.length:Int)+1:=by unfold vxs;rw[Zq,Yq];lia
  dsimp only[bT];by_cases h0:w0=cB
  ·subst h0;have bdL:∀H',aO H3 H'→Bd K H' (.ref LA) (.list (L.map fun r=>dLn (bU r))):=fun H' g=>.lst (SqL.of (g _ _ l3)) (ME lv L z5 fun j r e=>let⟨v,v1,v2⟩:=z6' j r e;⟨v,v1,(v2.same g).bd⟩);have shL:SeqAt.shaped (.list (L.map fun r=>dLn (bU r)))=true:=EB fun d hd=>by
    obtain⟨r,_,rfl⟩:=Zh.mp hd;exact K2 _
   have nl:¬((cB::wt).head?=some dA∧3<(cB::wt).length):=fun z=>absurd (Option.some.inj z.1) (by decide);have els:decide (V.str (sT cB)=V.str (ZT "line"))=false:=by rw[AY];exact decide_eq_false fun z=>absurd (fW (V.str.inj z)) (by decide)
   refine⟨_,rfl,(aI y _ 0 _ rfl ⟨ rfl,(aU (SqL.of y3) (cE (j:=0) rfl) rfl _ rfl (oZ (by rw[EM];exact decide_eq_true rfl) ?_))⟩)⟩;refine⟨_,rfl,(by show 0≤ZW;decide),fun X1 hX1=>?_⟩;have k4:=aH hX1 (.lst []);have g4:=g3.trans k4;have y4:=k4 _ _ y3;refine(a9 _ _ (bdL _ k4) (.lst (SqL.of aB) .nil) shL ⟨ rfl,_,rfl,?_⟩);cases L with
   |cons r0 L0 =>
    exact jC (by rfl) (iU ⟨_,rfl,(aI y _ 0 _ rfl ⟨ rfl,(aU (SqL.of y4) (cE (j:=0) rfl) rfl _ rfl (jC els (iU (qn (hno (fun z=>by cases z.2.1) nl) _ g4))))⟩)⟩)
   |nil =>
   have lv0:lv=[]:=Yh.mp z5;subst lv0;refine oZ (by rfl) (aJ _ rfl y _ rfl ⟨ .inl (SqL.of y4),rfl,_,rfl,cO (fun c=>?_) (fun c=>?_)⟩);rotate_left
   ·have c:¬(cB::wt).length=3:=fun z=>c (by rw[wl];rw[Yq]at z;exact decide_eq_true (congrArg V.int (by lia)));exact⟨_,rfl,(aI y _ 0 _ rfl ⟨ rfl,(aU (SqL.of y4) (cE (j:=0) rfl) rfl _ rfl (jC els (iU (qn (hno (fun z=>c z.2.2) nl) _ g4))))⟩)⟩
   have c:wt.length=2:=by
    have:=V.int.inj (of_decide_eq_true c);rw[wl]at this
    lia
   obtain⟨a,b,rfl⟩:∃a b,wt=[a,b]:=by
    match wt,c with
    |[a,b],_=>exact⟨a,b,rfl⟩
   have ha:=hok.2 a (by simp);have hb:=hok.2 b (by simp);have s4:=k4 _ _ s3;refine(bE _ rfl (.inl ⟨rfl,_,SqL.of s4⟩) _ rfl (aI y _ 1 _ rfl ⟨ rfl,(aN (SqL.of y4) (cE (j:=1) rfl) _ a rfl ⟨ rfl,ha.1,ha.2,fun H5 g5=>?_⟩)⟩));refine⟨_,rfl,(aI y _ 2 _ rfl ⟨ rfl,(aN (SqL.of (g5 _ _ y4)) (cE (j:=2) rfl) _ b rfl ⟨ rfl,hb.1,hb.2,fun H6 g6=>⟨(by show 2≤ZW;decide),fun X2 hX2=>?_⟩⟩)⟩)⟩;have k7:=aH hX2 (.tup [vo (num a),vo (num b)]);have g37:=k4.trans (g5.trans (g6.trans k7));refine(cQ SA _ _ rfl rfl ⟨ g37 _ _ s3,Xz (by rw[Zq];lia:_<1000000) B6,⟨_,_,rfl⟩,?_⟩);refine NJ (H':=H) (S:=S) (s:=[a,b]) hSA nRS nLS (g3.trans g37) (g37 _ _ r3) (g37 _ _ s3) (g37 _ _ l3) ?_ z1 rfl z3 (fun j s e=>let⟨x,x1,x2⟩:=z4' j s e;⟨x,x1,g37 _ _ x2⟩) aB;rw[tk'];unfold spR;simp
  ·have ns:¬((w0::wt).head?=some cB∧L=[]∧(w0::wt).length=3):=fun z=>h0 (Option.some.inj z.1);refine⟨_,rfl,(aI y _ 0 _ rfl ⟨ rfl,(aU (SqL.of y3) (cE (j:=0) rfl) rfl _ rfl (jC (by rw[EM];exact decide_eq_false fun z=>h0 (fW (V.str.inj z))) (iU ?_)))⟩)⟩;refine⟨_,rfl,(aI y _ 0 _ rfl ⟨ rfl,(aU (SqL.of y3) (cE (j:=0) rfl) rfl _ rfl (cO (fun c=>?_) (fun c=>?_)))⟩)⟩;rotate_left
   ·exact iU (qn (hno ns fun z=>c (by rw[AY];exact decide_eq_true (by rw[Option.some.inj z.1]))) _ g3)
   rw[AY]at c;have c:w0=dA:=fW (V.str.inj (of_decide_eq_true c));subst c;refine(aJ _ rfl y _ rfl (bN (.inl (SqL.of y3)) _ _ rfl rfl ⟨ _,rfl,cO (fun c=>?_) (fun c=>?_)⟩));rotate_left
   ·exact qn (hno ns fun z=>c (by rw[wl];rw[Yq]at z;exact decide_eq_true (by omega))) _ g3
   have c:3≤wt.length:=by
    have:=of_decide_eq_true c;rw[wl]at this
    lia
   refine(bE _ rfl (.inl ⟨rfl,_,SqL.of l3⟩) _ rfl (aJ 1 rfl y _ rfl ⟨ SqL.of y3,fun X1 hX1=>?_⟩));have c3:fF (vxs (dA::wt)) (some 1) none=vxs wt:=by rw[show(some (1:Int))=some ((1:Nat):Int) from rfl,gF];rfl
   rw[c3];have k4:=aH hX1 (.lst (vxs wt));have wtl:wt.length≤20000:=by have:=hok.1;rw[Yq]at this;lia
   have fin:∀v H',aO H3 H'→LnV H' LA v (bU wt)→RdI H (upd H' LA (.lst (lv++[v]))) R SA LA l (i+1):=fun v H' g hv=>by
    refine NI (S:=S) (L:=L) (r:=wt) hLA0 nRL nLS (g3.trans g) (g _ _ r3) (g _ _ s3) (g _ _ l3) ?_ z1 z2 c z3 (fun j s e=>let⟨x,x1,x2⟩:=z4' j s e;⟨x,x1,g _ _ x2⟩) z5 (fun j r e=>let⟨x,x1,x2⟩:=z6' j r e;⟨x,x1,x2.same g⟩) hv;rw[tk'];unfold spR;simp
   have lz:lv.length<ZW:=Xz (by lia:_<1000000) B6;refine(a9 X1 wt rfl aB (fun x hx=>hok.2 x (Zw _ hx)) ⟨ c,wtl,fun pts hp D H5 hD g5 hT=>?_,fun hp H5 g5=>?_⟩)
   ·have g35:=k4.trans g5;refine(cQ LA _ _ rfl rfl ⟨ g35 _ _ l3,lz,⟨_,_,rfl⟩,fin _ _ g35 ?_⟩);rw[hp];exact⟨D,rfl,(fun z=>by rw[z,k4 _ _ l3]at hD;cases hD),hT⟩
   ·have g35:=k4.trans g5;refine(cQ LA _ _ rfl rfl ⟨ g35 _ _ l3,lz,⟨_,_,rfl⟩,fin _ _ g35 ?_⟩);rw[hp];rfl
 ·rintro σ H2 ⟨⟨v3,v4,rfl⟩,S,L,sr,lv,g2,r2,s2,l2,tk,z1,z2,z3,z4,z5,z6⟩;have ew:rows l=spR S L:=by
   rw[←tk];exact(List.take_of_length_le (by unfold rows vxs;rw[Zq,Zq];exact Nat.le_refl _)).symm
  have ed:=JL S L;rw[←ew]at ed;have szS:S.length+L.length≤19001:=by
   have:=congrArg List.length ew;unfold spR at this;rw[Zm,Zq,Zq]at this;have hl2:(rows l).length=(sp 10 l).length:=by unfold rows;rw[Zq]
   lia
  have sP:∀d∈(S.map fun s=>PyData.tuple [dvo (num (s.getD 0 [])),dvo (num (s.getD 1 []))]),smD d:=fun d hd=>by
   obtain⟨r,_,rfl⟩:=Zh.mp hd;cases num (r.getD 0 [])<;>cases num (r.getD 1 [])<;>exact⟨rfl,by simp[dvo,PyData.depth,PyData.depthAll]⟩
  have bV:∀(o:Option Int) (H:Hp),Bd K H (vo o) (dvo o):=fun o H=>by cases o<;>constructor
  have bdS:∀H',aO H2 H'→Bd K H' (.ref SA) (.list (S.map fun s=>PyData.tuple [dvo (num (s.getD 0 [])),dvo (num (s.getD 1 []))])):=fun H' g=>.lst (SqL.of (g _ _ s2)) (xC sr S z3 fun j r e=>let⟨v,v1,v2⟩:=z4 j r e;⟨v,v1,.tup (SqT.of (g _ _ v2)) (.cons (bV _ _) (.cons (bV _ _) .nil))⟩);have bsL:∀H',aO H2 H'→Bds K H' lv (L.map fun r=>dLn (bU r)):=fun H' g=>ME lv L z5 fun j r e=>let⟨v,v1,v2⟩:=z6 j r e;⟨v,v1,(v2.same g).bd⟩;have sL:∀d∈(L.map fun r=>dLn (bU r)),smD d:=fun d hd=>by
   obtain⟨r,_,rfl⟩:=Zh.mp hd;exact K2 _
  refine⟨_,rfl,(by show 0≤ZW;decide),fun X1 hX1=>?_⟩;have k3:=aH hX1 (.lst []);refine(a9 _ _ (bdS _ k3) (.lst (SqL.of aB) .nil) (EB sP) ⟨ rfl,_,rfl,?_⟩);cases S with
  |nil=>exact oZ (by rfl) (fR (qn (by rw[ed,if_neg (fun z=>z.1 rfl)]) _ (g2.trans k3)))
  |cons s0 S0 =>
  refine jC (by rfl) ⟨_,rfl,(by show 0≤ZW;decide),fun X2 hX2=>?_⟩;have k4:=k3.trans (aH hX2 (.lst []));refine(a9 _ _ (.lst (SqL.of (k4 _ _ l2)) (bsL _ k4)) (.lst (SqL.of aB) .nil) (EB sL) ⟨ rfl,_,rfl,?_⟩);cases L with
  |nil=>exact oZ (by rfl) (fR (qn (by rw[ed,if_neg (fun z=>z.2 rfl)]) _ (g2.trans k4)))
  |cons r0 L0 =>
  rw[if_pos ⟨by simp,by simp⟩]at ed;refine jC (by rfl) ?_;generalize s0::S0=S at *;generalize r0::L0=L at *;refine⟨_,rfl,(aI LA _ _ _ rfl (bF (SqL.of (k4 _ _ l2)) .non (bsL _ k4) ⟨rfl,by decide⟩ sL ⟨ _,rfl,?_⟩))⟩;refine cO (fun c=>?_) (fun c=>?_)
  ·have c:none∈L.map bU:=of_decide_eq_true ((GF L).symm.trans c);exact fR (qn (by rw[ed,oN c];cases fS (S.map dN)<;>rfl) _ (g2.trans k4))
  have c:none∉L.map bU:=fun z=>c ((GF L).trans (decide_eq_true z));have s4:=k4 _ _ s2;refine(cL _ rfl SA rfl ⟨_,SqL.of s4⟩ (fun D hD=>?_));have gS:∀{j:Nat}(hj:j<S.length),S.getD j []=S[j]:=fun hj=>by rw[Zv,GR.aK hj];rfl
  refine qT S.length (fun j=>.ref (sr.getD j 0)) (fun j=>(num ((S.getD j []).getD 0 [])).isNone||(num ((S.getD j []).getD 1 [])).isNone) hD (by lia) (fun j H' hj g=>⟨_,.ref (sr[j]'(by lia)),SqL.of (g _ _ s4),by rw[Zk,Zz (by lia)];rfl⟩) (fun H' g=>⟨_,SqL.of (g _ _ s4),by rw[Zq,z3];exact Nat.le_refl _⟩) ?_ ?_
  ·rintro j H' x H'' kt kf hj g ⟨rfl,hx⟩ ht hf;have hx:=hx _ (SqL.of (g _ _ s4));obtain⟨sx,a1,a2⟩:=z4 j _ (GR.aK hj);rw[Zk,a1]at hx;cases hx;have gd:sr.getD j 0=sx:=by rw[Zv,a1];rfl
   rw[gS hj,gd]at ht;rw[gS hj]at hf;have a3:=g _ _ (k4 _ _ a2);generalize num (S[j].getD 0 [])=o1 at ht hf a3;generalize num (S[j].getD 1 [])=o2 at ht hf a3;refine⟨(Fills.refl _).set _ rfl,(aJ _ rfl sx _ rfl (aU (.inr (SqT.of a3)) rfl (by cases o1<;>cases o2<;>rfl) _ rfl ?_))⟩;have e:inV .non [vo o1,vo o2]=(o1.isNone||o2.isNone):=by cases o1<;>cases o2<;>rfl
   cases hb:(o1.isNone||o2.isNone) with
   |true=>exact oZ (e.trans hb) ⟨_,rfl,ht hb _ (aO.refl _)⟩
   |false=>exact jC (e.trans hb) (hf hb _ (aO.refl _))
  intro H5 g5 e5;have g25:=k4.trans g5;refine⟨D,_,(aN rfl (.inl (SqL.of e5)) _ _ rfl ⟨ rfl,_,rfl,?_⟩)⟩;rw[Zq];refine cO (fun d=>?_) (fun d=>?_)
  ·have d:=of_decide_eq_true d;have d:0<((List.range S.length).filter fun j=>(num ((S.getD j []).getD 0 [])).isNone||(num ((S.getD j []).getD 1 [])).isNone).length:=by lia
   obtain⟨j,hj⟩:=List.exists_mem_of_length_pos d;obtain⟨h1,h2⟩:=Yz.mp hj;have h1:=Zs.mp h1;rw[gS h1]at h2;have hp:dN S[j]=none:=by
    unfold dN;rw[if_pos (z1 _ (Zp h1))];cases h3:num (S[j].getD 0 []) with
    |none=>rfl
    |some a =>
     cases h4:num (S[j].getD 1 []) with
     |none=>rfl
     |some b=>rw[h3,h4]at h2;cases h2
   exact qn (by rw[ed,oN (Zh.mpr ⟨_,Zp h1,hp⟩)];rfl) _ (g2.trans g25)
  have pr:∀s∈S,∃a b,num (s.getD 0 [])=some a∧num (s.getD 1 [])=some b∧dN s=some (a,b):=fun s hs=>by
   have h2:((num (s.getD 0 [])).isNone||(num (s.getD 1 [])).isNone)=false:=by
    cases h:((num (s.getD 0 [])).isNone||(num (s.getD 1 [])).isNone) with
    |false=>rfl
    |true =>
     exfalso;obtain⟨j,hj,rfl⟩:=Yg.mp hs;have hm:j∈((List.range S.length).filter fun j=>(num ((S.getD j []).getD 0 [])).isNone||(num ((S.getD j []).getD 1 [])).isNone):=Yz.mpr ⟨Zs.mpr hj,by rw[gS hj];exact h⟩;have:=List.length_pos_of_mem hm;exact d (decide_eq_true (by lia))
   unfold dN;rw[if_pos (z1 _ hs)];cases h3:num (s.getD 0 []) with
   |none=>rw[h3]at h2;cases h2
   |some a =>
    cases h4:num (s.getD 1 []) with
    |none=>rw[h3,h4]at h2;cases h2
    |some b=>exact⟨a,b,rfl,rfl,rfl⟩
  obtain⟨spts,hs1⟩:=all_some (l:=S.map dN) fun z=>by
   obtain⟨s,s1,s2⟩:=Zh.mp z;obtain⟨a,b,_,_,h⟩:=pr s s1;rw[s2]at h;cases h
  obtain⟨ll,hl1⟩:=all_some c;rw[hs1,hl1]at ed;have hs2:=DH hs1;have hl2:=DH hl1;have sll:spts.length=S.length:=by have:=congrArg List.length hs2;simpa using this.symm
  have lll:ll.length=L.length:=by have:=congrArg List.length hl2;simpa using this.symm
  refine(cL _ rfl _ rfl (by show 2≤ZW;decide) (fun r hr'=>?_));have k6:=aH hr' (.tup [.ref SA,.ref LA]);have g26:=g25.trans k6;refine q spts ll ed r SA LA _ (g2.trans g26) aB ⟨sr,g26 _ _ s2,by lia,fun i p e=>?_⟩ ?_
  ·have hi:i<S.length:=by have:=(Zj.mp e).1;lia
   obtain⟨x,x1,x2⟩:=z4 i _ (GR.aK hi);refine⟨x,x1,?_⟩;have e2:=congrArg (fun l=>l[i]?) hs2;simp only[Zk,e,GR.aK hi]at e2;obtain⟨a,b,h1,h2,h3⟩:=pr _ (Zp hi);have e2:dN S[i]=some p:=Option.some.inj e2;rw[h3]at e2;cases e2;have:=g26 _ _ x2;rw[h1,h2]at this;exact this
  ·obtain⟨rr,r1,r2'⟩:=mL (fun i (a:Addr)=>lv[i]?=some (.ref a)∧∀l,ll[i]?=some l→TsI (upd H5 r (.tup [.ref SA,.ref LA])) a l) L.length fun i hi=>by
    obtain⟨v,v1,v2⟩:=z6 i _ (GR.aK hi);have e2:=congrArg (fun l=>l[i]?) hl2;have hi2:i<ll.length:=by lia
    simp only[Zk,GR.aK hi2,GR.aK hi]at e2;have e2:bU L[i]=some ll[i]:=Option.some.inj e2;rw[e2]at v2;obtain⟨x,rfl,_,x2⟩:=v2;exact⟨x,v1,fun l el=>by rw[GR.aK hi2]at el;cases el;exact x2.same g26⟩
   refine⟨rr,?_,by lia,fun i l el=>?_⟩
   ·rw[g26 _ _ l2];congr 2;refine Yr fun i=>?_;rcases Nat.lt_or_ge i L.length with hi | hi
    ·rw[Zk,GR.aK (by lia:i<rr.length)];exact(r2' i _ (GR.aK (by lia))).1
    ·rw[Zr (by lia),Zr (by rw[Zq];lia)]
   ·have hi:i<ll.length:=(Zj.mp el).1;exact⟨_,GR.aK (by lia),(r2' i _ (GR.aK (by lia))).2 l el⟩
end K75
namespace L2
open PySem PySem.Spec PyProof.Rows
theorem JP{X:Cx}{σ:St}{c:Expr}{a b:List Stmt}{pos:Pos}{tc:TT}{t u:TS}(hc:PT X c tc)(ha:t6 X σ a t)(hb:t6 X σ b u):t6 X σ [.If c a b pos] (QM tc t u):=by
 intro pins s H D I h;have key:wpAny (model X.prog X.w) X.A (exec (.If c a b pos) X.env) (SP X pins D) X.xe s:=by
  refine wpAny_If (thn (hc pins s σ H _ I h) fun d s1 ⟨H1,I1,q1⟩=>?_);cases d with
  |true=>exact ha pins s1 H1 D I1 q1
  |false=>exact hb pins s1 H1 D I1 q1
 refine wpAny_execs_cons (thn key fun f s1 q=>?_);cases f with
 |next=>exact wpAny_execs_nil q
 |ret v=>exact q
 |brk=>exact q
 |cont=>exact q
theorem G1{X:Cx}(K:PySem.W.Frag)(hK:X.K=K){σ:St}{x:Str}{p:Pos}{a b:List Stmt}{pos:Pos}{t u:TS}{i:Nat}(hN:X.N[i]?=some x)(hv:Vis X.env.scope x)(hd:(x==("__debug__" : Str))=false)(hcd:(x==("__classdict__" : Str))=false)(ha:t6 X σ a t)(hb:t6 X σ b u):t6 X σ [.If (.Name x p) a b pos] (QM (fun σ H Q=>QJ i σ H fun x H'=>∃k,MN K x H' k∧Q k H') t u):=by subst hK;exact JP (gL (pv i hN hv hd hcd) (fun _=>rfl)) ha hb
end L2
namespace K75
open PySem L2 PyProof.Rows TX GR
def QW(C:Addr)(m:String):Sp:=fun vs H Q _=>∃x:Addr,vs=[.ref x]∧H x=some (xT C x)∧∀H',aO H H'→Q (.str (ZT m)) H'
theorem N8(T:Txt K mg t):cU P w K mg base CX0 1 t.DL t.CY ["_law_kept"] (QW t.a7 "text"):=by
 refine T.CM.F.ok yE (fun vs H Q E h=>?_) (fun cdv A outer s H vs Q E hr h=>?_)
 ·obtain⟨x,rfl,_⟩:=h;rfl
 obtain⟨x,rfl,hx,q⟩:=h;have nd:=yE.nd;refine⟨_,(aG (cH (aS AG (pv 0) eE (bA _)) (aL (a8 aY)) bG)
  (aG (aZ 1 nd (bI (aA (aW j7 rfl T.dX boot_isinstance (aA (pv 0) (aA (dF (v:=.ref t.a7) rfl T.gP rfl) aC))) (aA (aW j7 rfl T.dX boot_isinstance (aA (pv 0) (aA (dF (v:=.ref t.kZ) rfl T.qE rfl) aC))) (aA (aW j7 rfl T.dX boot_isinstance (aA (pv 0) (aA (dF (v:=.ref t.eT) rfl T.gQ rfl) aC))) (aA (aW j7 rfl T.dX boot_isinstance (aA (pv 0) (aA (dF (v:=.ref t.iS) rfl T.mK rfl) aC))) aC))))))
  (aG (cH (PW.pt (iY (gL (aW EO rfl T.dX boot_isinstance (aA (pv 0) (aA (cS (aA (dF (v:=.ref t.dZ) rfl T.jS rfl) (aA (dF (v:=.ref t.eX) rfl T.mJ rfl) (aA (dF (v:=.ref t.gI) rfl T.qD rfl) (aA (dF (v:=.ref t.eB) rfl T.jU rfl) (aA (dF (v:=.ref t.gH) rfl T.qC rfl) (aA (dF (v:=.ref t.eA) rfl T.jT rfl) aC))))))) aC))) (fun _=>rfl)) (jF (rS (gL (aW j7 rfl T.dX boot_isinstance (aA (pv 0) (aA (E8 (v:=.ty "ValueError") rfl T.fH PyProof.Rows.Boot.«ValueError» rfl) aC))) (fun _=>rfl)))))) (aL (a8 aY)) bG)
  (aG (cH (aS oX (lI PySem.F.plainAttrs_list PySem.F.slot_list_count PySem.F.type_list_count HI (pv 1) (aA tH aC)) aE (bA _)) (aL (a8 aY)) bG)
  (aL (a8 (aQ aT (bI (aA aY (aA aY (aA aY (aA aY aC))))) (lI PySem.F.plainAttrs_list PySem.F.slot_list_index PySem.F.type_list_index HF (pv 1) (aA tH aC)) (fun _ _=>rfl)))))))),?_⟩
 refine(bE _ rfl rfl _ rfl (iU ?_));refine⟨_,rfl,(dB x t.a7 _ _ true (bF rfl (.inl ⟨_,rfl,rfl⟩) hx T.y_K K5 ?_))⟩;refine⟨_,rfl,(dB x t.a7 _ _ false (bF rfl (.inl ⟨_,rfl,rfl⟩) hx T.y_K ((T.pR).one) ?_))⟩;refine⟨_,rfl,(dB x t.a7 _ _ false (bF rfl (.inl ⟨_,rfl,rfl⟩) hx T.y_K ((T.gK).one) ?_))⟩;refine⟨_,rfl,(dB x t.a7 _ _ false (bF rfl (.inl ⟨_,rfl,rfl⟩) hx T.y_K ((T.lP).one) ?_))⟩;refine⟨(by show 4≤ZW;decide),fun l hl=>?_⟩;have g1:=aH hl (.lst [.bl true,.bl false,.bl false,.bl false]);refine⟨_,rfl,(by show 6≤ZW;decide),fun tp htp=>?_⟩;have g2:=g1.trans (aH htp (.tup ([t.dZ,t.eX,t.gI,t.eB,t.gH,t.eA].map V.ref)));refine(dB x t.a7 tp ([t.dZ,t.eX,t.gI,t.eB,t.gH,t.eA]) false (bF rfl (g2 _ _ hx) aB T.y_K (tK ?_) ⟨ _,rfl,iU ?_⟩))
 ·simp only[Zn,List.not_mem_nil,or_false];rintro D (rfl | rfl | rfl | rfl | rfl | rfl)
  ·exact T.jK
  ·exact T.lN
  ·exact T.pQ
  ·exact T.jM
  ·exact T.pP
  ·exact T.jL
 refine⟨_,rfl,(dB x t.a7 _ _ true (bF rfl (.inr ⟨_,rfl,rfl⟩) (g2 _ _ hx) T.y_K (RQ T.IE) ⟨ _,rfl,iU ?_⟩))⟩;have el:(upd (upd H l (.lst [.bl true,.bl false,.bl false,.bl false])) tp (.tup ([t.dZ,t.eX,t.gI,t.eB,t.gH,t.eA].map V.ref))) l=some (.lst [.bl true,.bl false,.bl false,.bl false]):=(aH htp _) _ _ aB;refine⟨_,rfl,(cF (.inl ⟨rfl,_,SqL.of el⟩) l _ _ rfl (bF rfl el rfl rfl rfl ⟨ _,rfl,jC (by decide) ?_⟩))⟩;refine⟨(by show 4≤ZW;decide),fun p hp=>?_⟩;have g3:=g2.trans (aH hp (.lst [.str (ZT "text"),.str (ZT "map"),.str (ZT "picture"),.str (ZT "laid")]));refine⟨_,rfl,.inl ⟨rfl,_,SqL.of ((aH hp _) _ _ el)⟩,(aI l _ _ 0 rfl (bF rfl ((aH hp _) _ _ el) rfl rfl ⟨_,rfl,rfl⟩ ⟨ ?_,(aI p _ _ (.str (ZT "text")) rfl ⟨ rfl,SqL.of aB,rfl,q _ g3⟩)⟩))⟩;intro m y hm hy
 match m,hm,hy with
 |0,hm,_=>exact absurd hm (by decide)
 |m+1,hm,_=>exact absurd hm (by lia)
def dDr(sp:List Pt)(ll:List (List Pt)):PyData:=.tuple [.list (sp.map dP),.list (ll.map fun l=>.list (l.map dP))]
def dSp(cs ls:List Int):PyData:=.tuple [.list (cs.map .int),.list (ls.map .int)]
noncomputable def rdX(b:Bool)(W:List Rw):Option PyData:=if b=true then (rdD W).map fun p=>dDr p.1 p.2 else (fK W).map fun p=>dSp p.1 p.2
theorem AC(a:List Pt):PyData.canLayAll0 (a.map dP)=true∧PyData.depthAll (a.map dP)≤4:=jB 4 fun d hd=>by
 obtain⟨z,_,rfl⟩:=Zh.mp hd;exact⟨rfl,by simp[dP,PyData.depth,PyData.depthAll]⟩
theorem RP(ll:List (List Pt)):PyData.canLayAll0 (ll.map fun l=>PyData.list (l.map dP))=true∧PyData.depthAll (ll.map fun l=>PyData.list (l.map dP))≤5:=jB 5 fun d hd=>by
 obtain⟨z,_,rfl⟩:=Zh.mp hd;exact⟨(AC z).1,Nat.succ_le_succ (AC z).2⟩
theorem AQ(ns:List Int):PyData.canLayAll0 (ns.map PyData.int)=true∧PyData.depthAll (ns.map PyData.int)≤4:=jB 4 fun d hd=>by
 obtain⟨z,_,rfl⟩:=Zh.mp hd;exact⟨rfl,by simp[PyData.depth]⟩
theorem IR{a b:List PyData}(h1:PyData.canLayAll0 a=true∧PyData.depthAll a≤5)(h2:PyData.canLayAll0 b=true∧PyData.depthAll b≤5):SeqAt.shaped (.tuple [.list a,.list b])=true:=by
 obtain⟨a1,a2⟩:=h1;obtain⟨b1,b2⟩:=h2;unfold SeqAt.shaped;rw[Xy];refine⟨?_,decide_eq_true ?_⟩
 ·show(PyData.canLayAll0 a&&(PyData.canLayAll0 b&&true))=true;rw[a1,b1];rfl
 ·show max (PyData.depthAll a+1) (max (PyData.depthAll b+1) 0)+1≤64
  lia
theorem JK{b:Bool}{W:List Rw}{d:PyData}(h:rdX b W=some d):SeqAt.shaped d=true:=by
 unfold rdX at h;cases b with
 |true =>
  rw[if_pos rfl]at h;obtain⟨p,_,rfl⟩:=Xk.mp h;exact IR ⟨(AC p.1).1,Nat.le_succ_of_le (AC p.1).2⟩ (RP p.2)
 |false =>
  rw[if_neg (by decide)]at h;obtain⟨p,_,rfl⟩:=Xk.mp h;exact IR ⟨(AQ p.1).1,Nat.le_succ_of_le (AQ p.1).2⟩ ⟨(AQ p.2).1,Nat.le_succ_of_le (AQ p.2).2⟩
theorem L4{H:Hp}{r pa la:Addr}{sp:List Pt}{ll:List (List Pt)}(h1:H r=some (.tup [.ref pa,.ref la]))(h2:TsI H pa sp)(h3:∃rr:List Addr,H la=some (.lst (rr.map V.ref))∧rr.length=ll.length∧∀(i:Nat) r,ll[i]?=some r→∃x,rr[i]?=some x∧TsI H x r):Bd K H (.ref r) (dDr sp ll):=by
 obtain⟨tr,t1,t2,t3⟩:=h2;obtain⟨lr,l1,l2,l4⟩:=h3;refine .tup (SqT.of h1) (.cons (.lst (SqL.of t1) (TsI.bds t2 t3)) (.cons (.lst (SqL.of l1) (xC lr ll l2 fun i l e=>?_)) .nil));obtain⟨x,x1,⟨tr,t1,t2,t3⟩⟩:=l4 i l e;exact⟨x,x1,.lst (SqL.of t1) (TsI.bds t2 t3)⟩
theorem I0{H:Hp}{r C L:Addr}{cs ls:List Int}(h1:H r=some (.tup [.ref C,.ref L]))(h2:H C=some (.lst (cs.map V.int)))(h3:H L=some (.lst (ls.map V.int))):Bd K H (.ref r) (dSp cs ls):=.tup (SqT.of h1) (.cons (.lst (SqL.of h2) (Bds.ints cs)) (.cons (.lst (SqL.of h3) (Bds.ints ls)) .nil))
def Due(K:PySem.W.Frag)(H:Hp)(v:V):Option PyData→Prop
 |none=>v=.non
 |some d=>∃a,v=.ref a∧∀H',aO H H'→Bd K H' (.ref a) d
def M4(K:PySem.W.Frag):Sp:=fun vs H Q _=>∃(z:Str) (l:List Nat) (v:V) (b:Bool),vs=[.str z,v,.bl b]∧z=sT l∧Asc l∧l.length≤19000∧Due K H v (rdX b (rows l))∧∀H',aO H H'→Q (.bl true) H'
theorem qA(T:Txt K mg t):cU P w K mg base CX0 8 t.zK t.y8 ["_law_text","_law_due","_law_drawn_one"] (M4 K):=by
 refine T.jY.F.ok u4 (fun vs H Q E h=>?_) (fun cdv A outer s H vs Q E hr h=>?_)
 ·obtain⟨z,l,v,b,rfl,_⟩:=h;rfl
 obtain⟨z,l,v,b,rfl,rfl,hasc,hl,hdue,q⟩:=h;have nd:=u4.nd;refine⟨_,(aG (aZ 3 nd eE)
  (aG (aZ 4 nd eE)
  (aG (JR (i:=5) (E:=fun _ _ H2=>aO H H2∧rdX b (rows l)=none) rfl rfl rfl rfl T.gR rfl T.IF.exm nd rfl rfl (fun pn xe σ hx=>G1 K rfl (i:=2) rfl (Or.inl rfl) (by decide) (by decide) (BW (i:=4) (T8 T) (hr.mono (by decide)) rfl T.fN.m T.fN.k T.fN.b hx (aA (pv 0) aC) nd rfl rfl) (BW (i:=4) (T6 T) (hr.mono (by decide)) rfl T.gY.m T.gY.k T.gY.b hx (aA (pv 0) aC) nd rfl rfl)) (fun pn xe e=>(aL (aZ 3 nd (pv 5)))))
  (aG (cH (aS AG (pv 1) eE (bA _)) (aL (a8 (cZ dO (bP (N8 T) hr T.CM bK (aA (pv 3) aC)) aY (bA _)))) bG)
  (aL (a8 (vN (cZ AG (pv 3) eE (bA _)) (vN (aW MC rfl T.dX boot_isinstance (aA (pv 4) (aA (E8 (v:=.ty "tuple") rfl T.MR boot_tuple rfl) aC))) (rX (cZ (mG hr.units) (pv 4) (pv 1) (bA _))))))))))),?_⟩
 refine⟨?_,?_⟩
 ·cases b with
  |true =>
   refine⟨_,rfl,_,rfl,oZ (by rfl) (aJ _ rfl _ l rfl ⟨ rfl,hasc,hl,fun sp ll hs r pa la H1 g1 e1 hP hL=>?_,fun hn x H1 g1=>⟨g1,by unfold rdX;rw[if_pos rfl,hn];rfl⟩⟩)⟩;have ex:rdX true (rows l)=some (dDr sp ll):=by unfold rdX;rw[if_pos rfl,hs];rfl
   rw[ex]at hdue;obtain⟨a,rfl,hbd⟩:=hdue;have sh:=JK ex;refine(bE _ rfl rfl _ rfl (iU (bE _ rfl rfl _ rfl (fR ⟨_,(cF rfl _ ("tuple") ("tuple") rfl ⟨ .inr ⟨rfl,_,e1⟩,.inr (.inl rfl),_,rfl,fR ⟨_,rfl,(aJ _ rfl _ _ (L4 e1 hP hL) ⟨ hbd _ g1,sh,sh,?_⟩)⟩⟩)⟩))));rw[SeqAt.eqv_refl _ (SeqAt.canLay_of_shaped sh)];exact q _ g1
  |false =>
   refine⟨_,rfl,_,rfl,jC (by rfl) (aJ _ rfl _ l rfl ⟨ rfl,hasc,by lia,fun cs ls hs r C L H1 g1 e1 hC hL=>?_,fun hn x H1 g1=>⟨g1,by unfold rdX;rw[if_neg (by decide),hn];rfl⟩⟩)⟩;have ex:rdX false (rows l)=some (dSp cs ls):=by unfold rdX;rw[if_neg (by decide),hs];rfl
   rw[ex]at hdue;obtain⟨a,rfl,hbd⟩:=hdue;have sh:=JK ex;refine(bE _ rfl rfl _ rfl (iU (bE _ rfl rfl _ rfl (fR ⟨_,(cF rfl _ ("tuple") ("tuple") rfl ⟨ .inr ⟨rfl,_,e1⟩,.inr (.inl rfl),_,rfl,fR ⟨_,rfl,(aJ _ rfl _ _ (I0 e1 hC hL) ⟨ hbd _ g1,sh,sh,?_⟩)⟩⟩)⟩))));rw[SeqAt.eqv_refl _ (SeqAt.canLay_of_shaped sh)];exact q _ g1
 ·rintro x H1 ⟨g1,hn⟩ hx;rw[hn]at hdue;cases hdue;have g2:=g1.trans (aH hx (xT t.a7 x));refine⟨_,rfl,?_⟩;refine(bE _ rfl rfl _ rfl (fR (cL _ rfl x rfl aB (fun H5 g5=>⟨rfl,?_⟩))));exact q _ (g2.trans g5)
end K75
namespace TX
open PySem L2 GR
theorem GP{p q:Pt}(s:Stp p q)(hb:Bg (lnP p q)∧1≤lnP p q):e9 p (stW p q)=some q:=by
 have e:∀h:Int,(h=0∨h=1∨h=2∨h=3)→hdL (ltr h)=h:=fun h hh=>by rcases hh with rfl | rfl | rfl | rfl<;>rfl
 have eh:=e _ (AS p q);have h0:0≤hdL (ltr (hdP p q)):=by rw[eh];rcases AS p q with z | z | z | z<;>lia
 show(if 0≤hdL (ltr (hdP p q)) then (num (bS (lnP p q))).bind _ else none)=_;rw[if_pos h0,(cY hb.1).2.2.1];show(if 1≤lnP p q then _ else none)=_;rw[if_pos hb.2,eh];congr 1;have s':=s;unfold hdP lnP acr upw;rcases s with⟨s1,s2⟩ | ⟨s1,s2⟩
 ·rw[if_neg s2];by_cases c:q.2<p.2
  ·rw[if_pos c];refine Prod.ext ?_ ?_
   ·simp[s1]
   ·simp[s1];lia
  ·rw[if_neg c];refine Prod.ext ?_ ?_
   ·simp[s1]
   ·simp[s1];split<;>lia
 ·rw[if_pos s1];by_cases c:q.1<p.1
  ·rw[if_pos c];refine Prod.ext ?_ ?_
   ·simp[s1];lia
   ·simp[s1]
  ·rw[if_neg c];refine Prod.ext ?_ ?_
   ·simp[s1];split<;>lia
   ·simp[s1]
theorem FU{l:List Pt}(h:Wr l):∀(n k:Nat),k+n+1=l.length→fE (g0 l k) ((List.range' k n).map fun i=>stW (g0 l i) (g0 l (i+1)))=some (l.drop (k+1))
 |0,k,hk=>by
  show some []=_;rw[List.drop_eq_nil_of_le (by lia)]
 |n+1,k,hk=>by
  have hs:=GP (h.st (show k+1<l.length by lia)) (h.ln (by lia));show(e9 (g0 l k) (stW (g0 l k) (g0 l (k+1)))).bind (fun r=>(fE r ((List.range' (k+1) n).map fun i=>stW (g0 l i) (g0 l (i+1)))).map fun l=>r::l)=_;rw[hs];show(fE (g0 l (k+1)) ((List.range' (k+1) n).map fun i=>stW (g0 l i) (g0 l (i+1)))).map (fun l'=>g0 l (k+1)::l')=_;rw[FU h n (k+1) (by lia),List.drop_eq_getElem_cons (show k+1<l.length by lia),eV (aK (show k+1<l.length by lia))];rfl
theorem HK{l:List Pt}(h:Wr l):bU ((fC l).drop 1)=some l:=by
 have h2:=h.two;have b0:=(h.at (show 0<l.length by lia)).bg;have e:(fC l).drop 1=bS (g0 l 0).1::bS (g0 l 0).2::rE l (l.length-1):=rfl;have es:rE l (l.length-1)=(List.range' 0 (l.length-1)).map fun i=>stW (g0 l i) (g0 l (i+1)):=by unfold rE;rw[List.range_eq_range']
 rw[e];unfold bU;rw[if_pos (by simp[BI];omega)];show(num (bS (g0 l 0).1)).bind (fun a=>(num (bS (g0 l 0).2)).bind fun b=>(fE (a,b) (rE l (l.length-1))).map fun l=>(a,b)::l)=_;rw[(cY b0.1).2.2.1,(cY b0.2).2.2.1];show(fE (g0 l 0) (rE l (l.length-1))).map (fun l'=>g0 l 0::l')=_;rw[es,FU h (l.length-1) 0 (by lia)];show some (g0 l 0::l.drop 1)=some l;rw[eV (aK (show 0<l.length by lia))];congr 1;exact(List.drop_eq_getElem_cons (show 0<l.length by lia)).symm.trans (List.drop_zero)
theorem xG{α:Type}{f:Rw→Option α}{g:α→Rw}:∀{l:List α},(∀x∈l,f (g x)=some x)→fS ((l.map g).map f)=some l
 |[],_=>rfl
 |x::l,h=>by
  show(f (g x)).bind (fun a=>(fS ((l.map g).map f)).map fun r=>a::r)=_;rw[h x Zd,xG fun y hy=>h y (Zw _ hy)];rfl
theorem Wdr.back{sp:List Pt}{ll:List (List Pt)}(h:Wdr sp ll):rdD (TX.rows (txD sp ll))=some (sp,ll):=by
 have e:eK sp ll=spR (sp.map fun p=>[bS p.1,bS p.2]) (ll.map fun l=>(fC l).drop 1):=by
  unfold eK spR;rw[Yb,Yb];rfl
 rw[h.rows,e,JL,if_pos ⟨fun z=>by have e:=congrArg List.length z;rw[Zq]at e;have h1:=h.s1;rw[e]at h1;exact absurd h1 (by decide),fun z=>by have e:=congrArg List.length z;rw[Zq]at e;have h1:=h.l1;rw[e]at h1;exact absurd h1 (by decide)⟩];rw[xG fun p hp=>by
  have b:=(h.s p hp).bg;unfold dN;rw[if_pos (show[bS p.1,bS p.2].length=2 from rfl)];show(num (bS p.1)).bind (fun a=>(num (bS p.2)).map fun b=>(a,b))=_;rw[(cY b.1).2.2.1,(cY b.2).2.2.1];rfl]
 rw[xG fun l hl=>HK (h.g l hl)];rfl
def Nr(p:Pt):Prop:=(-33≤p.1∧p.1≤33)∧-33≤p.2∧p.2≤33
theorem lT:∀n:Int,-99≤n→n≤99→(bS n).length≤3:=fun n h1 h2=>by
 have key:∀m:Nat,m≤99→(bS (m:Int)).length≤2:=fun m hm=>by
  rw[fJ,Zq];exact PyProof.Rows.digits10_le (by decide) (by lia)
 rcases Int.eq_nat_or_neg n with⟨m,rfl | rfl⟩
 ·have:=key m (by lia);lia
 ·by_cases h0:m=0
  ·subst h0;have:=key 0 (by lia);exact YQ this (by decide)
  ·rw[jN (by lia)];have:=key m (by lia);simp;lia
theorem KZ{l:List Pt}(h:Wr l)(hn:∀p∈l,Nr p):(jn 32 (fC l)).length≤190:=by
 have h2:=h.two;have h36:=h.most;have at':∀{i:Nat},i<l.length→Nr (g0 l i):=fun {i} hi=>by rw[eV (aK hi)];exact hn _ (Zp hi)
 have w:∀w∈fC l,w.length≤4:=fun w hw=>by
  have b0:=at' (show 0<l.length by lia);rcases Zn.mp hw with rfl | hw
  ·decide
  rcases Zn.mp hw with rfl | hw
  ·have:=lT _ (show -99≤(g0 l 0).1 by have:=b0.1.1;lia) (by have:=b0.1.2;lia);lia
  rcases Zn.mp hw with rfl | hw
  ·have:=lT _ (show -99≤(g0 l 0).2 by have:=b0.2.1;lia) (by have:=b0.2.2;lia);lia
  obtain⟨i,hi,rfl⟩:=Zh.mp hw;have hi:=Zs.mp hi;have a1:=at' (show i<l.length by lia);have a2:=at' (show i+1<l.length by lia);have s:=h.st (show i+1<l.length by lia);have : -99≤lnP (g0 l i) (g0 l (i+1))∧lnP (g0 l i) (g0 l (i+1))≤99:=by
   obtain⟨⟨_,_⟩,_,_⟩:=a1;obtain⟨⟨_,_⟩,_,_⟩:=a2;unfold lnP;rcases s with⟨s1,_⟩ | ⟨s1,_⟩<;>rw[s1]<;>split<;>split<;>lia
  have:=lT _ this.1 this.2;show(bS _).length+1≤4
  lia
 have s:=lS (f:=List.length) (B:=4) (l:=fC l) w;have hl:(fC l).length=l.length+2:=by unfold fC;rw[sE];lia
 have:=jG 32 (ps:=fC l) (by simp[fC,iK])
 lia
theorem IY{p:Pt}(h:Nr p):(jn 32 (fA p)).length≤15:=by
 have a:=lT p.1 (by have:=h.1.1;lia) (by have:=h.1.2;lia);have b:=lT p.2 (by have:=h.2.1;lia) (by have:=h.2.2;lia);have:=jG 32 (ps:=fA p) (by simp[fA]);have e:((fA p).map List.length).sum=4+((bS p.1).length+((bS p.2).length+0)):=by simp[fA,cB]
 have e2:(fA p).length=3:=rfl
 lia
theorem Wdr.few{sp:List Pt}{ll:List (List Pt)}(h:Wdr sp ll)(hs:∀p∈sp,Nr p)(hl:∀l∈ll,∀p∈l,Nr p):(txD sp ll).length≤4200:=by
 have:=jG 10 (ps:=(eK sp ll).map (jn 32)) (fun z=>by have:=congrArg List.length z;rw[Zq,eK,Zm,Zq,List.length_nil]at this;have:=h.s1;lia);have e1:=lS (f:=fun p=>(jn 32 (fA p)).length) (B:=15) (l:=sp) fun p hp=>IY (hs p hp);have e2:=lS (f:=fun l=>(jn 32 (fC l)).length) (B:=190) (l:=ll) fun l hl'=>KZ (h.g l hl') (hl l hl');have e3:(((eK sp ll).map (jn 32)).map List.length).sum=(sp.map fun p=>(jn 32 (fA p)).length).sum+(ll.map fun l=>(jn 32 (fC l)).length).sum:=by
  unfold eK;simp only[Zt,Yb,List.sum_append];rfl
 have e4:((eK sp ll).map (jn 32)).length=sp.length+ll.length:=by unfold eK;simp
 have:=h.s10;have:=h.l20;unfold txD;have:sp.length*15≤150:=by lia
 have:ll.length*190≤3800:=by lia
 lia
theorem Wdr.asc{sp:List Pt}{ll:List (List Pt)}(h:Wdr sp ll):∀c∈txD sp ll,c<128:=fun c hc=>by
 rcases sD hc with z | ⟨p,hp,h2⟩
 ·lia
 ·obtain⟨ws,hw,rfl⟩:=Zh.mp hp;rcases sD h2 with z | ⟨x,hx,h3⟩
  ·lia
  ·exact(((h.row ws hw).2.2 x hx).2 c h3).2.2
end TX
namespace TX
theorem PZ(c:Nat)(ps:List (List Nat)):(jn c ps).length≤(ps.map List.length).sum+ps.length:=by
 by_cases h:ps=[]
 ·subst h;exact Nat.zero_le _
 ·have:=jG c h;lia
structure MO(l l':List Nat):Prop where
 a:∀c∈l',c<128∧c≠10
 n:l'.length≤2*l.length+44
structure BB(l x:List Nat):Prop where
 a:∀c∈x,c<128∧c≠10
 n:x.length≤l.length+42
theorem pS{l x:List Nat}(ha:∀c∈l,c<128∧c≠10)(h:x∈sp 32 l):BB l x:=by
 have hi:=wG (c:=32) h;rw[wB]at hi;exact⟨fun c hc=>ha c (hi.subset hc),YQ hi.length_le (Nat.le_add_right _ _)⟩
theorem xV(l:List Nat):((sp 32 l).map List.length).sum+(sp 32 l).length=l.length+1:=by
 have:=jG 32 (sV 32 l);rw[wB]at this
 lia
theorem TN{l:List Nat}{ps:List (List Nat)}(h1:∀x∈ps,BB l x)(hn:ps.length≤(sp 32 l).length+1)(hs:(ps.map List.length).sum≤((sp 32 l).map List.length).sum+(l.length+42)):MO l (jn 32 ps):=by
 refine⟨fun c hc=>?_,?_⟩
 ·rcases sD hc with z | ⟨p,hp,h2⟩
  ·lia
  ·exact(h1 p hp).a c h2
 ·have:=PZ 32 ps;have:=xV l
  lia
theorem vF{l x:List Nat}(ha:∀c∈l,c<128∧c≠10)(hx:BB l x){i j:Nat}(hj:j=i∨j=i+1):MO l (jn 32 ((sp 32 l).take i++[x]++(sp 32 l).drop j)):=by
 refine TN (fun y hy=>?_) ?_ ?_
 ·rcases Zf.mp hy with hy | hy
  ·rcases Zf.mp hy with hy | hy
   ·exact pS ha (List.mem_of_mem_take hy)
   ·rw[Zb.mp hy];exact hx
  ·exact pS ha (List.mem_of_mem_drop hy)
 ·simp only[Zm,Yq,List.length_nil,Yx,Ym];omega
 ·have h4:(((sp 32 l).take i).map List.length).sum+(((sp 32 l).drop j).map List.length).sum≤((sp 32 l).map List.length).sum:=by
   rcases hj with rfl | rfl
   ·exact Nat.le_of_eq (nO (sp 32 l) j)
   ·exact uU (sp 32 l) i
  have:=hx.n;simp only[Zt,List.sum_append,List.map_cons,List.map_nil,List.sum_cons,List.sum_nil]
  lia
theorem JI{l:List Nat}(ha:∀c∈l,c<128∧c≠10)(i:Nat):MO l (jn 32 ((sp 32 l).take i++(sp 32 l).drop (i+1))):=by
 refine TN (fun y hy=>?_) ?_ ?_
 ·rcases Zf.mp hy with hy | hy
  ·exact pS ha (List.mem_of_mem_take hy)
  ·exact pS ha (List.mem_of_mem_drop hy)
 ·simp only[Zm,Yx,Ym];omega
 ·have:=uU (g:=List.length) (sp 32 l) i;simp only[Zt,List.sum_append]
  lia
theorem BG{ps:List (List Nat)}(i:Nat):((ps.take i).map List.length).sum≤(ps.map List.length).sum∧((ps.drop i).map List.length).sum≤(ps.map List.length).sum:=by
 have:=nO (g:=List.length) ps i
 lia
end TX
namespace L2
open PySem PySem.Spec PyProof.Rows TX
theorem E7{X:Cx}{x:Str}{l:List Nat}{n:Nat}{j k}{p q pos:Pos}(h:x=sT l)(hn:n≤1000∧l.length≤100):PE X (.BinOp (.Constant (.str x) j p) .Mult (.Constant (.int (n:Int)) k q) pos) (tC (vx (List.replicate n l).flatten)) :=
 fun pins s σ H Q I hq=>aM iJ aY aE pins s σ H Q I ⟨_,l,n,rfl,h,rfl,YQ (Nat.mul_le_mul hn.2 hn.1) (by decide),by lia,hq⟩
theorem HQ(n:Nat)(l:List Nat):(List.replicate n l).flatten.length=n*l.length:=by simp
theorem NW{X:Cx}{x y:Str}{a l:List Nat}{n:Nat}{i j k}{o p q pos po2:Pos}(h0:y=sT a)(h:x=sT l)(hn:n≤1000∧l.length≤100∧a.length≤100):PE X (.BinOp (.Constant (.str y) i o) .Add (.BinOp (.Constant (.str x) j p) .Mult (.Constant (.int (n:Int)) k q) pos) po2) (tC (vx (a++(List.replicate n l).flatten))) :=
 fun pins s σ H Q I hq=>aM bO aY (E7 h ⟨hn.1,hn.2.1⟩) pins s σ H Q I ⟨_,_,rfl,rfl,by rw[h0,cG,cG,HQ];exact YQ (Nat.add_le_add hn.2.2 (Nat.mul_le_mul hn.1 hn.2.1)) (by decide),by rw[h0,bZ];exact hq⟩
inductive BC:List Expr→List V→Prop
 |nil:BC [] []
 |str {x:Str}{j} {p:Pos}{es:List Expr}{vs:List V}:BC es vs→BC (.Constant (.str x) j p::es) (.str x::vs)
 |cat {x y:Str}{a l:List Nat}{n:Nat}{i j k} {o p q pos po2:Pos}{es:List Expr}{vs:List V}:y=sT a→x=sT l→n≤1000∧l.length≤100∧a.length≤100→BC es vs→BC (.BinOp (.Constant (.str y) i o) .Add (.BinOp (.Constant (.str x) j p) .Mult (.Constant (.int (n:Int)) k q) pos) po2::es) (vx (a++(List.replicate n l).flatten)::vs)
 |mul {x:Str}{l:List Nat}{n:Nat}{j k} {p q pos:Pos}{es:List Expr}{vs:List V}:x=sT l→n≤1000∧l.length≤100→BC es vs→BC (.BinOp (.Constant (.str x) j p) .Mult (.Constant (.int (n:Int)) k q) pos::es) (vx (List.replicate n l).flatten::vs)
def PC(vs:List V):TA:=fun _ H Q=>Q vs H
theorem uG{X:Cx}:∀{es:List Expr}{vs:List V},BC es vs→PA X es (PC vs)
 |_,_,.nil=>aC
 |_,_,.str h=>aA aY (uG h) rfl
 |_,_,.cat h1 h2 h3 h=>aA (NW h1 h2 h3) (uG h) rfl
 |_,_,.mul h1 h2 h=>aA (E7 h1 h2) (uG h) rfl
theorem AE{X:Cx}{es:List Expr}{vs:List V}{pos:Pos}(h:BC es vs):PE X (.List es pos) (GL (PC vs)):=bI (uG h)
def RM:V→Bool
 |.str z=>z.cps.toList.all (fun c=>decide (c<128)&&decide (c≠10))&&decide (z.cps.toList.length≤42)
 |_=>false
theorem KI{v:V}(h:RM v=true)(l:List Nat):∃x,v=vx x∧BB l x:=by
 cases v with
 |str z =>
  simp only[RM,Xy,decide_eq_true_eq,List.all_eq_true]at h;refine⟨z.cps.toList,by rw[vx,rO],h.1,YQ h.2 (Nat.le_add_left _ _)⟩
 |_=>cases h
theorem iR(ps:List (List Nat))(i:Nat):fF (vxs ps) none (some (i:Int))=vxs (ps.take i):=by rw[kW];exact List.map_take.symm
theorem pN(ps:List (List Nat))(i:Nat):fF (vxs ps) (some (i:Int)) none=vxs (ps.drop i):=by rw[gF];exact List.map_drop.symm
theorem eY(a b:List (List Nat)):vxs a++vxs b=vxs (a++b):=(Zt).symm
theorem fI(a:List (List Nat)):(vxs a).length=a.length:=Zq _
theorem uR{ps:List (List Nat)}{i:Nat}(h:i<ps.length):atI (vxs ps) (i:Int)=some (vx ps[i]):=cE (by rw[Zk,Zz h];rfl)
end L2
namespace K75
open PySem L2 PyProof.Rows TX
def VI:Sp:=fun vs H Q _=>∃(z:Str) (l:List Nat) (n c:Int),vs=[.str z,.int n,.int c]∧z=sT l∧(∀c∈l,c<128∧c≠10)∧l.length≤9000∧∀l' H',aO H H'→MO l l'→Q (vx l') H'
theorem OB:([V.str (ZT ""),V.str (ZT "0"),V.str (ZT "00"),V.str (ZT "-0"),V.str (ZT "+1"),V.str (ZT "01"),V.str (ZT "-1"),V.str (ZT "5"),V.str (ZT "1"),V.str (ZT "2"),V.str (ZT "3"),V.str (ZT "4"),V.str (ZT "turns"),V.str (ZT "spot"),V.str (ZT "line"),V.str (ZT "Line"),V.str (ZT "1.")]++[V.str (ZT "x"),V.str (ZT "-"),vx (List.replicate 40 [49]).flatten,vx (List.replicate 41 [49]).flatten,V.str (ZT "l"),V.str (ZT "r"),V.str (ZT "rl"),V.str (ZT "lrl"),V.str (ZT "l-"),V.str (ZT "lx"),V.str (ZT "e"),V.str (ZT "e0"),V.str (ZT "e1"),V.str (ZT "n01"),V.str (ZT "w-1")]++[vx ([115]++(List.replicate 40 [57]).flatten),vx ([110]++(List.replicate 41 [57]).flatten),V.str (ZT "e1e1"),V.str (ZT "e2"),V.str (ZT "N1"),V.str (ZT "1e"),V.str (ZT "w3"),V.str (ZT "ll r")]).all RM=true:=by decide +kernel
theorem UC(T:Txt K mg t):cU P w K mg base CX0 1 t.rA t.qS ["_law_row","_law_number_here","_law_cell"] VI:=by
 refine T.qN.F.ok oW (fun vs H Q E h=>?_) (fun cdv A outer s H vs Q E hr h=>?_)
 ·obtain⟨z,l,n,c,rfl,_⟩:=h;rfl
 obtain⟨z,l,n,c,rfl,rfl,hA,hL,q⟩:=h;have nd:=oW.nd;refine' ⟨_,?hp,?hq⟩
 case hp =>
  refine' aG ?a ?b
  case a =>
   refine' vI (i:=3) ?n1 ?n2 ?n3 ?n4
   case n1=>exact nd
   case n2=>exact rfl
   case n3=>exact Or.inl rfl
   case n4 =>
    refine' AE (vs:=[V.str (ZT ""),V.str (ZT "0"),V.str (ZT "00"),V.str (ZT "-0"),V.str (ZT "+1"),V.str (ZT "01"),V.str (ZT "-1"),V.str (ZT "5"),V.str (ZT "1"),V.str (ZT "2"),V.str (ZT "3"),V.str (ZT "4"),V.str (ZT "turns"),V.str (ZT "spot"),V.str (ZT "line"),V.str (ZT "Line"),V.str (ZT "1.")]) ?p
    case p=>exact(.str (.str (.str (.str (.str (.str (.str (.str (.str (.str (.str (.str (.str (.str (.str (.str (.str .nil)))))))))))))))))
  case b =>
   refine' aG ?c ?d
   case c =>
    refine' vI (i:=3) ?m1 ?m2 ?m3 ?m4
    case m1=>exact nd
    case m2=>exact rfl
    case m3=>exact Or.inl rfl
    case m4 =>
     refine' aM ?q1 ?q2 ?q
     case q1=>exact dQ
     case q2=>exact pv 3
     case q =>
      refine' AE (vs:=[V.str (ZT "x"),V.str (ZT "-"),vx (List.replicate 40 [49]).flatten,vx (List.replicate 41 [49]).flatten,V.str (ZT "l"),V.str (ZT "r"),V.str (ZT "rl"),V.str (ZT "lrl"),V.str (ZT "l-"),V.str (ZT "lx"),V.str (ZT "e"),V.str (ZT "e0"),V.str (ZT "e1"),V.str (ZT "n01"),V.str (ZT "w-1")]) ?r
      case r=>exact(.str (.str (.mul (l:=[49]) (by decide +kernel) (by decide) (.mul (l:=[49]) (by decide +kernel) (by decide) (.str (.str (.str (.str (.str (.str (.str (.str (.str (.str (.str .nil)))))))))))))))
   case d =>
    refine' aG ?e ?f
    case e =>
     refine' vI (i:=3) ?k1 ?k2 ?k3 ?k4
     case k1=>exact nd
     case k2=>exact rfl
     case k3=>exact Or.inl rfl
     case k4 =>
      refine' aM ?j1 ?j2 ?j3
      case j1=>exact dQ
      case j2=>exact pv 3
      case j3 =>
       refine' AE (vs:=[vx ([115]++(List.replicate 40 [57]).flatten),vx ([110]++(List.replicate 41 [57]).flatten),V.str (ZT "e1e1"),V.str (ZT "e2"),V.str (ZT "N1"),V.str (ZT "1e"),V.str (ZT "w3"),V.str (ZT "ll r")]) ?s
       case s=>exact(.cat (a:=[115]) (l:=[57]) (by decide +kernel) (by decide +kernel) (by decide) (.cat (a:=[110]) (l:=[57]) (by decide +kernel) (by decide +kernel) (by decide) (.str (.str (.str (.str (.str (.str .nil))))))))
    case f=>exact(aG (aZ 4 nd (dE mSp gM (pv 0) (aA aY aC)))
  (aG (aZ 5 nd (aQ aT (pv 3) (aM cJ (pv 2) (aW aV rfl T.cP PySem.boot_len (aA (pv 3) aC))) (fun _ _=>rfl)))
  (aG (aZ 6 nd (aM cJ (pv 1) (aW aV rfl T.cP PySem.boot_len (aA (pv 4) aC))))
  (aG (aZ 7 nd (aM cJ (aM c8 (pv 1) aE) aE))
  (aG (cH (aS dO (pv 7) aE (bA _)) (aL (a8 (dE mJn gG aY (aA (aM dQ (aM dQ (bC cC (pv 4) bB (bH (pv 6))) (bI (aA (pv 5) aC))) (bC cC (pv 4) (bH (pv 6)) bB)) aC)))) bG)
  (aG (cH (aS dO (pv 7) aE (bA _)) (aL (a8 (dE mJn gG aY (aA (aM dQ (bC cC (pv 4) bB (bH (pv 6))) (bC cC (pv 4) (bH (aM bM (pv 6) aE)) bB)) aC)))) bG)
  (aG (cH (aS dO (pv 7) aE (bA _)) (aL (a8 (dE mJn gG aY (aA (aM dQ (aM dQ (bC cC (pv 4) bB (bH (pv 6))) (bI (aA (aQ aT (pv 4) (pv 6) (fun _ _=>rfl)) aC))) (bC cC (pv 4) (bH (pv 6)) bB)) aC)))) bG)
  (aL (a8 (dE mJn gG aY (aA (aM dQ (aM dQ (bC cC (pv 4) bB (bH (pv 6))) (bI (aA (pv 5) aC))) (bC cC (pv 4) (bH (aM bM (pv 6) aE)) bB)) aC)))))))))))
 have ok:=OB;generalize e1:[V.str (ZT ""),V.str (ZT "0"),V.str (ZT "00"),V.str (ZT "-0"),V.str (ZT "+1"),V.str (ZT "01"),V.str (ZT "-1"),V.str (ZT "5"),V.str (ZT "1"),V.str (ZT "2"),V.str (ZT "3"),V.str (ZT "4"),V.str (ZT "turns"),V.str (ZT "spot"),V.str (ZT "line"),V.str (ZT "Line"),V.str (ZT "1.")]=xs1 at ok ⊢;generalize e2:[V.str (ZT "x"),V.str (ZT "-"),vx (List.replicate 40 [49]).flatten,vx (List.replicate 41 [49]).flatten,V.str (ZT "l"),V.str (ZT "r"),V.str (ZT "rl"),V.str (ZT "lrl"),V.str (ZT "l-"),V.str (ZT "lx"),V.str (ZT "e"),V.str (ZT "e0"),V.str (ZT "e1"),V.str (ZT "n01"),V.str (ZT "w-1")]=xs2 at ok ⊢;generalize e3:[vx ([115]++(List.replicate 40 [57]).flatten),vx ([110]++(List.replicate 41 [57]).flatten),V.str (ZT "e1e1"),V.str (ZT "e2"),V.str (ZT "N1"),V.str (ZT "1e"),V.str (ZT "w3"),V.str (ZT "ll r")]=xs3 at ok ⊢;have l1:xs1.length=17:=by rw[←e1];rfl
 have l2:xs2.length=15:=by rw[←e2];rfl
 have l3:xs3.length=8:=by rw[←e3];rfl
 refine⟨by rw[l1];decide,fun A1 hA1=>?_⟩;have s1:=aH hA1 (.lst xs1);refine⟨_,rfl,by rw[l2];decide,fun A2 hA2=>?_⟩;have s2:=aH hA2 (.lst xs2);refine(aI A1 A2 xs1 xs2 rfl ⟨ rfl,s2 _ _ aB,aB,by rw[l1,l2];decide,fun A4 hA4=>?_⟩);have s4:=aH hA4 (.lst (xs1++xs2));refine⟨_,rfl,by rw[l3];decide,fun A5 hA5=>?_⟩;have s5:=aH hA5 (.lst xs3);refine(aI A4 A5 (xs1++xs2) xs3 rfl ⟨ rfl,s5 _ _ aB,aB,by rw[Zm,l1,l2,l3];decide,fun A3 hA3=>?_⟩);have s3:=aH hA3 (.lst (xs1++xs2++xs3));have g3:=s1.trans (s2.trans (s4.trans (s5.trans s3)));have a3:=aB (H:=upd (upd (upd (upd H A1 (.lst xs1)) A2 (.lst xs2)) A4 (.lst (xs1++xs2))) A5 (.lst xs3)) (a:=A3) (o:=.lst (xs1++xs2++xs3));have ll:(xs1++xs2++xs3).length=40:=by rw[Zm,Zm,l1,l2,l3]
 generalize upd (upd (upd (upd (upd H A1 (.lst xs1)) A2 (.lst xs2)) A4 (.lst (xs1++xs2))) A5 (.lst xs3)) A3 (.lst (xs1++xs2++xs3))=H3 at g3 a3 ⊢;clear s1 s2 s3 s4 s5 hA1 hA2 hA3 hA4 hA5;refine⟨_,rfl,rfl,(aI _ _ l 32 rfl ⟨ rfl,rfl,LV,by lia,fun D hD=>?_⟩)⟩;have s4:=aH hD (.lst (vxs (sp 32 l)));have sl:=hZ 32 l;have cl:l.count 32≤l.length:=List.count_le_length;generalize hH4:upd H3 D (.lst (vxs (sp 32 l)))=H4 at s4 ⊢;have d4:H4 D=some (.lst (vxs (sp 32 l))):=by rw[←hH4];exact aB
 have g4:=g3.trans s4;have b0:0≤c%40:=Xv _ (by decide);have b1:c%40<40:=Xw _ (by decide);obtain⟨k,hk⟩:=Xx b0;have hk40:k<(xs1++xs2++xs3).length:=by rw[ll];lia
 obtain⟨x,ex,hx⟩:=KI (List.all_eq_true.mp ok _ (Zp hk40)) l;have at3:atI (xs1++xs2++xs3) (c%(((xs1++xs2++xs3).length:Nat):Int))=some (vx x):=by
  rw[ll];show atI (xs1++xs2++xs3) (c%40)=_;rw[hk];exact cE (by rw[Zz hk40,ex])
 refine⟨_,(bJ rfl _ rfl _ rfl ⟨ A3,_,(aN rfl (.inl (SqL.of (s4 _ _ a3))) _ _ rfl ⟨ rfl,?_,(aI A3 _ _ (vx x) rfl ⟨ rfl,SqL.of (s4 _ _ a3),at3,?_⟩)⟩)⟩)⟩
 ·show(0:Int)<(((xs1++xs2++xs3).length:Nat):Int)
  rw[ll];decide
 have vl:=fI (sp 32 l);have p0:(0:Int)<(((vxs (sp 32 l)).length:Nat):Int):=by rw[vl];lia
 obtain⟨i,hi⟩:=Xx (Xv n (show((((vxs (sp 32 l)).length:Nat):Int))≠0 by lia));have hi2:=Xw n p0;rw[hi,vl]at hi2;have hi3:i<(sp 32 l).length:=by lia
 refine⟨_,rfl,(aJ _ rfl D _ rfl (bN (.inl (SqL.of d4)) _ _ rfl rfl ⟨ p0,?_⟩))⟩;show bT 6 (V.int (n%(((vxs (sp 32 l)).length:Nat):Int))) _ _ _;rw[hi];refine(aJ _ rfl _ _ rfl (aN rfl ⟨by decide,by decide⟩ _ _ rfl ⟨ rfl,(by show(0:Int)<4;decide),?_⟩));have fin:∀{ws:List (List Nat)}{H':Hp}{p:Addr},aO H4 H'→MO l (jn 32 ws)→H' p=some (.lst (vxs ws))→(ws.map List.length).sum+ws.length≤1000000→rJoin K (.str (ZT " ")) [.ref p] H' Q:=fun {ws} {H'} {p} g hr hp hs=>(aI _ 32 p ws rfl ⟨ LV,rfl,SqL.of hp,hs,q _ _ (g4.trans g) hr⟩)
 have sw:=xV l;have tl:=fun i=>BG (ps:=sp 32 l) i;have sz:∀{a b:Nat},a≤20000→b≤20000→a+b≤ZW:=fun h1 h2=>YQ (Nat.add_le_add h1 h2) (by decide);have k1:∀j,(vxs ((sp 32 l).take j)).length≤9001:=fun j=>by rw[fI,Yx];lia
 have k2:∀j,(vxs ((sp 32 l).drop j)).length≤9001:=fun j=>by rw[fI,Ym];lia
 refine(bE _ rfl rfl _ rfl (cO (fun _=>?_) (fun _=>?_)))
 ·refine(bJ rfl _ rfl _ rfl (aJ _ rfl D _ rfl ⟨ SqL.of d4,fun p1 hp1=>?_⟩));rw[iR];have w1:=aH hp1 (.lst (vxs ((sp 32 l).take i)));refine⟨_,rfl,(by show 1≤ZW;decide),fun p2 hp2=>?_⟩;have w2:=aH hp2 (.lst [vx x]);refine(aI p1 p2 _ ([vx x]) rfl ⟨ rfl,w2 _ _ aB,aB,sz (YQ (k1 i) (by decide)) (show 1≤20000 by decide),fun p3 hp3=>?_⟩);rw[show vxs ((sp 32 l).take i)++[vx x]=vxs ((sp 32 l).take i++[x]) from eY _ [x]]at *;have w3:=aH hp3 (.lst (vxs ((sp 32 l).take i++[x])));have w13:=w1.trans (w2.trans w3);refine⟨_,(bJ rfl _ rfl _ rfl ⟨ D,_,rfl,SqL.of (w13 _ _ d4),fun p4 hp4=>?_⟩)⟩;rw[pN];have w4:=aH hp4 (.lst (vxs ((sp 32 l).drop i)));refine(aI p3 p4 _ _ rfl ⟨ rfl,w4 _ _ aB,aB,sz ?_ (YQ (k2 i) (by decide)),fun p5 hp5=>?_⟩)
  ·rw[fI,Zm,Yx];simp;lia
  rw[eY]at *;refine fin (w13.trans (w4.trans (aH hp5 _))) (vF hA hx (.inl rfl)) aB ?_;have h1:=(tl i).1;have h2:=(tl i).2;have h3:=hx.n;simp only[Zt,List.sum_append,List.map_cons,List.map_nil,List.sum_cons,List.sum_nil,Zm,Yq,List.length_nil,Yx,Ym]
  lia
 refine(bE _ rfl rfl _ rfl (cO (fun _=>?_) (fun _=>?_)))
 ·refine(bJ rfl _ rfl _ rfl (aJ _ rfl D _ rfl ⟨ SqL.of d4,fun p1 hp1=>?_⟩));rw[iR];have w1:=aH hp1 (.lst (vxs ((sp 32 l).take i)));refine⟨_,rfl,(aJ _ rfl _ _ rfl ⟨ rfl,(aJ _ rfl D _ rfl ⟨ SqL.of (w1 _ _ d4),fun p4 hp4=>?_⟩)⟩)⟩;rw[show((i:Int)+1)=((i+1:Nat):Int) from rfl,pN]at *;have w4:=aH hp4 (.lst (vxs ((sp 32 l).drop (i+1))));refine(aI p1 p4 _ _ rfl ⟨ rfl,w4 _ _ aB,aB,sz (YQ (k1 i) (by decide)) (YQ (k2 _) (by decide)),fun p5 hp5=>?_⟩);rw[eY]at *;refine fin (w1.trans (w4.trans (aH hp5 _))) (JI hA i) aB ?_;have h1:=(tl i).1;have h2:=(tl (i+1)).2;simp only[Zt,List.sum_append,Zm,Yx,Ym]
  lia
 refine(bE _ rfl rfl _ rfl (cO (fun _=>?_) (fun _=>?_)))
 ·refine(bJ rfl _ rfl _ rfl (aJ _ rfl D _ rfl ⟨ SqL.of d4,fun p1 hp1=>?_⟩));rw[iR];have w1:=aH hp1 (.lst (vxs ((sp 32 l).take i)));have hx:=pS hA (Zp hi3);refine⟨_,rfl,_,rfl,(aI D _ _ _ rfl ⟨ rfl,SqL.of (w1 _ _ d4),uR hi3,(by show 1≤ZW;decide),fun p2 hp2=>?_⟩)⟩;generalize (sp 32 l)[i]=x at hx hp2 ⊢;have w2:=aH hp2 (.lst [vx x]);refine(aI p1 p2 _ ([vx x]) rfl ⟨ rfl,w2 _ _ aB,aB,sz (YQ (k1 i) (by decide)) (show 1≤20000 by decide),fun p3 hp3=>?_⟩);rw[show vxs ((sp 32 l).take i)++[vx x]=vxs ((sp 32 l).take i++[x]) from eY _ [x]]at *;have w3:=aH hp3 (.lst (vxs ((sp 32 l).take i++[x])));have w13:=w1.trans (w2.trans w3);refine⟨_,(bJ rfl _ rfl _ rfl ⟨ D,_,rfl,SqL.of (w13 _ _ d4),fun p4 hp4=>?_⟩)⟩;rw[pN];have w4:=aH hp4 (.lst (vxs ((sp 32 l).drop i)));refine(aI p3 p4 _ _ rfl ⟨ rfl,w4 _ _ aB,aB,sz ?_ (YQ (k2 i) (by decide)),fun p5 hp5=>?_⟩)
  ·rw[fI,Zm,Yx];simp;lia
  rw[eY]at *;refine fin (w13.trans (w4.trans (aH hp5 _))) (vF hA hx (.inl rfl)) aB ?_;have h1:=(tl i).1;have h2:=(tl i).2;have h3:=hx.n;simp only[Zt,List.sum_append,List.map_cons,List.map_nil,List.sum_cons,List.sum_nil,Zm,Yq,List.length_nil,Yx,Ym]
  lia
 ·refine(bJ rfl _ rfl _ rfl (aJ _ rfl D _ rfl ⟨ SqL.of d4,fun p1 hp1=>?_⟩));rw[iR];have w1:=aH hp1 (.lst (vxs ((sp 32 l).take i)));refine⟨_,rfl,(by show 1≤ZW;decide),fun p2 hp2=>?_⟩;have w2:=aH hp2 (.lst [vx x]);refine(aI p1 p2 _ ([vx x]) rfl ⟨ rfl,w2 _ _ aB,aB,sz (YQ (k1 i) (by decide)) (show 1≤20000 by decide),fun p3 hp3=>?_⟩);rw[show vxs ((sp 32 l).take i)++[vx x]=vxs ((sp 32 l).take i++[x]) from eY _ [x]]at *;have w3:=aH hp3 (.lst (vxs ((sp 32 l).take i++[x])));have w13:=w1.trans (w2.trans w3);refine⟨_,rfl,(aJ _ rfl _ _ rfl ⟨ rfl,(aJ _ rfl D _ rfl ⟨ SqL.of (w13 _ _ d4),fun p4 hp4=>?_⟩)⟩)⟩;rw[show((i:Int)+1)=((i+1:Nat):Int) from rfl,pN]at *;have w4:=aH hp4 (.lst (vxs ((sp 32 l).drop (i+1))));refine(aI p3 p4 _ _ rfl ⟨ rfl,w4 _ _ aB,aB,sz ?_ (YQ (k2 _) (by decide)),fun p5 hp5=>?_⟩)
  ·rw[fI,Zm,Yx];simp;lia
  rw[eY]at *;refine fin (w13.trans (w4.trans (aH hp5 _))) (vF hA hx (.inr rfl)) aB ?_;have h1:=(tl i).1;have h2:=(tl (i+1)).2;have h3:=hx.n;simp only[Zt,List.sum_append,List.map_cons,List.map_nil,List.sum_cons,List.sum_nil,Zm,Yq,List.length_nil,Yx,Ym]
  lia
end K75
namespace TX
structure TF(L:Nat)(l:List Nat):Prop where
 a:∀c∈l,c<128
 n:l.length≤L
abbrev TF'(L:Nat)(l:List Nat):Prop:=TF (2*L+46) l
theorem wK{L:Nat}{ps:List (List Nat)}(h:∀p∈ps,∀c∈p,c<128)(hn:(ps.map List.length).sum+ps.length≤2*L+46):TF' L (jn 10 ps):=by
 refine⟨fun c hc=>?_,YQ (PZ 10 ps) hn⟩;rcases sD hc with z | ⟨p,hp,h2⟩
 ·lia
 ·exact h p hp c h2
theorem TF.row{L:Nat}{l p:List Nat}(h:TF L l)(hp:p∈sp 10 l):(∀c∈p,c<128∧c≠10)∧p.length≤L:=by
 have hi:=wG (c:=10) hp;rw[wB]at hi;exact⟨fun c hc=>⟨h.a c (hi.subset hc),fun z=>zU 10 l p hp (z▸hc)⟩,YQ hi.length_le h.n⟩
theorem TF.low{L:Nat}{l p:List Nat}(h:TF L l)(hp:p∈sp 10 l):∀c∈p,c<128:=fun c hc=>((h.row hp).1 c hc).1
theorem pZ(l:List Nat):((sp 10 l).map List.length).sum+(sp 10 l).length=l.length+1:=by
 have:=jG 10 (sV 10 l);rw[wB]at this
 lia
theorem MZ{ps:List (List Nat)}{i:Nat}(h:i<ps.length):((ps.take i).map List.length).sum+((ps.drop (i+1)).map List.length).sum+ps[i].length=(ps.map List.length).sum:=by
 have h1:=nO (g:=List.length) ps i;rw[List.drop_eq_getElem_cons h,List.map_cons,List.sum_cons]at h1
 lia
theorem FX{L:Nat}{l x:List Nat}(h:TF L l)(hx:∀c∈x,c<128){i j:Nat}(hj:(j=i∧x.length≤L)∨(j=i+1∧∃hi:i<(sp 10 l).length,x.length≤2*(sp 10 l)[i].length+44)):TF' L (jn 10 ((sp 10 l).take i++[x]++(sp 10 l).drop j)):=by
 refine wK (fun y hy=>?_) ?_
 ·rcases Zf.mp hy with hy | hy
  ·rcases Zf.mp hy with hy | hy
   ·exact h.low (List.mem_of_mem_take hy)
   ·rw[Zb.mp hy];exact hx
  ·exact h.low (List.mem_of_mem_drop hy)
 ·have h1:=pZ l;have h2:=h.n;have h4:(((sp 10 l).take i).map List.length).sum+(((sp 10 l).drop j).map List.length).sum+x.length≤((sp 10 l).map List.length).sum+(L+44):=by
   rcases hj with⟨rfl,h5⟩ | ⟨rfl,hi,h5⟩
   ·have:=nO (g:=List.length) (sp 10 l) j
    lia
   ·have:=MZ hi;have:=(h.row (Zp hi)).2
    lia
  have hj:j=i∨j=i+1:=hj.imp And.left And.left;simp only[Zt,List.sum_append,List.map_cons,List.map_nil,List.sum_cons,List.sum_nil,Zm,Yq,List.length_nil,Yx,Ym]
  lia
theorem OR{L:Nat}{l:List Nat}(h:TF L l)(i:Nat):TF' L (jn 10 ((sp 10 l).take i++(sp 10 l).drop (i+1))):=by
 refine wK (fun y hy=>?_) ?_
 ·rcases Zf.mp hy with hy | hy
  ·exact h.low (List.mem_of_mem_take hy)
  ·exact h.low (List.mem_of_mem_drop hy)
 ·have h1:=pZ l;have h2:=h.n;have h4:=uU (g:=List.length) (sp 10 l) i;simp only[Zt,List.sum_append,Zm,Yx,Ym];omega
theorem sum_set{g:List Nat→Nat}:∀(ps:List (List Nat)) (i:Nat) (h:i<ps.length) (a:List Nat),((ps.set i a).map g).sum+g ps[i]=(ps.map g).sum+g a
 |p::ps,0,_,a=>by simp only[List.set_cons_zero,List.map_cons,List.sum_cons,List.getElem_cons_zero];lia
 |p::ps,i+1,h,a=>by
  have ih:=sum_set (g:=g) ps i (by simpa using h) a;simp only[List.set_cons_succ,List.map_cons,List.sum_cons,List.getElem_cons_succ]
  lia
theorem LO{L:Nat}{l:List Nat}(h:TF L l){i j:Nat}(hi:i<(sp 10 l).length)(hj:j<(sp 10 l).length):TF' L (jn 10 (((sp 10 l).set i (sp 10 l)[j]).set j (sp 10 l)[i])):=by
 refine wK (fun y hy=>?_) ?_
 ·rcases List.mem_or_eq_of_mem_set hy with hy | rfl
  ·rcases List.mem_or_eq_of_mem_set hy with hy | rfl
   ·exact h.low hy
   ·exact h.low (Zp hj)
  ·exact h.low (Zp hi)
 ·have h1:=pZ l;have h2:=h.n;have e1:=sum_set (g:=List.length) (sp 10 l) i hi (sp 10 l)[j];have e2:=sum_set (g:=List.length) ((sp 10 l).set i (sp 10 l)[j]) j (by rw[List.length_set];exact hj) (sp 10 l)[i];have e3:((sp 10 l).set i (sp 10 l)[j])[j]'(by rw[List.length_set];exact hj)=(sp 10 l)[j]:=by
   rw[List.getElem_set];split<;>rfl
  rw[e3]at e2;rw[List.length_set,List.length_set]
  lia
theorem CG{L:Nat}{l s:List Nat}(h:TF L l)(hs:s.length≤1)(ha:∀c∈s,c<128){i j:Nat}(hij:i≤j):TF' L (l.take i++s++l.drop j):=by
 refine⟨fun c hc=>?_,?_⟩
 ·rcases Zf.mp hc with hc | hc
  ·rcases Zf.mp hc with hc | hc
   ·exact h.a c (List.mem_of_mem_take hc)
   ·exact ha c hc
  ·exact h.a c (List.mem_of_mem_drop hc)
 ·have:=h.n;simp only[Zm,Yx,Ym]
  lia
theorem OS{L:Nat}{l:List Nat}(h:TF L l)(i:Nat):TF' L (l.take i):=by
 refine⟨fun c hc=>h.a c (List.mem_of_mem_take hc),?_⟩;have:=h.n;rw[Yx];lia
theorem EW{a b:List Nat}(h:a.length+b.length≤100000):(sT a).length+(sT b).length≤ZW:=szT h
def E1(z:PySem.Str):Bool:=z.cps.toList.all (fun c=>decide (c<128))&&decide (0<z.cps.toList.length)&&decide (z.cps.toList.length≤100)
end TX
namespace K75
open PySem L2 PyProof.Rows TX
theorem sg1:E1 (ZT " 0123456789<>-lrenws\n+.x")=true:=by decide +kernel
theorem sg2:E1 (ZT "!\"#$&'()*,/:;=?@ABCDEFGHIJKLMNOPQRSTUVWXYZ[\\]^_`abcdefghijklmopqtuvyz{|}~")=true:=by decide +kernel
def QZ:Sp:=fun vs H Q _=>∃(z:Str) (l:List Nat) (n c:Int) (L:Nat),vs=[.str z,.int n,.int c]∧z=sT l∧TF L l∧L≤9000∧∀l' H',aO H H'→TF' L l'→Q (vx l') H'
theorem FE(T:Txt K mg t):cU P w K mg base CX0 2 t.DN t.C1 ["_law_text","_law_number_here","_law_cell"] QZ:=by
 refine T.wO.F.ok yG (fun vs H Q E h=>?_) (fun cdv A outer s H vs Q E hr h=>?_)
 ·obtain⟨z,l,n,c,L,rfl,_⟩:=h;rfl
 obtain⟨z,l,n,c,L,rfl,rfl,hF,hL,q⟩:=h;have nd:=yG.nd;refine⟨_,(aG (aZ 3 nd (dE mSp gM (pv 0) (aA aY aC)))
  (aG (aZ 4 nd (aM cJ (aM c8 (pv 1) aE) (aW aV rfl T.cP PySem.boot_len (aA (pv 3) aC))))
  (aG (aZ 5 nd (aM cJ (aM c8 (pv 1) aE) (aW aV rfl T.cP PySem.boot_len (aA (pv 3) aC))))
  (aG (aZ 6 nd (aM cJ (pv 1) aE))
  (aG (cH (aS p9 (pv 6) aE (bA _)) (aG (aZ 7 nd (bP (UC T) hr T.qN bK (aA (aQ aT (pv 3) (pv 4) (fun _ _=>rfl)) (aA (aM c8 (pv 1) aE) (aA (pv 2) aC)))))
  (aL (a8 (dE mJn gG aY (aA (aM dQ (aM dQ (bC cC (pv 3) bB (bH (pv 4))) (bI (aA (pv 7) aC))) (bC cC (pv 3) (bH (aM bM (pv 4) aE)) bB)) aC))))) bG)
  (aG (cH (aS dO (pv 6) aE (bA _)) (aL (a8 (dE mJn gG aY (aA (aM dQ (bC cC (pv 3) bB (bH (pv 4))) (bC cC (pv 3) (bH (aM bM (pv 4) aE)) bB)) aC)))) bG)
  (aG (cH (aS dO (pv 6) aE (bA _)) (aL (a8 (dE mJn gG aY (aA (aM dQ (aM dQ (bC cC (pv 3) bB (bH (pv 4))) (bI (aA (aQ aT (pv 3) (pv 5) (fun _ _=>rfl)) aC))) (bC cC (pv 3) (bH (pv 4)) bB)) aC)))) bG)
  (aG (cH (aS dO (pv 6) aE (bA _)) (aG (D5 (cS (aA (aQ aT (pv 3) (pv 5) (fun _ _=>rfl)) (aA (aQ aT (pv 3) (pv 4) (fun _ _=>rfl)) aC))) (mE rfl (b8 (JV (pv 3) (pv 4) set_list) (b8 (JV (pv 3) (pv 5) set_list) e7))))
  (aL (a8 (dE mJn gG aY (aA (pv 3) aC))))) bG)
  (aG (aZ 8 nd aY)
  (aG (cH (aS dO (aM cJ (pv 2) aE) aE (bA _)) (aL (aZ 8 nd aY)) bG)
  (aG (aZ 9 nd (aQ wC (pv 8) (aM cJ (aM c8 (pv 2) aE) (aW eU rfl T.cP PySem.boot_len (aA (pv 8) aC))) (fun _ _=>rfl)))
  (aG (aZ 10 nd (aM cJ (aM c8 (pv 1) aE) (aM bM (aW eU rfl T.cP PySem.boot_len (aA (pv 0) aC)) aE)))
  (aG (cH (aS p9 (pv 6) aE (bA _)) (aL (a8 (aM bO (aM bO (bC iA (pv 0) bB (bH (pv 10))) (pv 9)) (bC iA (pv 0) (bH (pv 10)) bB)))) bG)
  (aG (cH (aS dO (pv 6) aE (bA _)) (aL (a8 (bC iA (pv 0) bB (bH (pv 10))))) bG)
  (aL (a8 (aM bO (aM bO (bC iA (pv 0) bB (bH (pv 10))) (aM iJ (pv 9) (aM eG (pv 6) aE))) (bC iA (pv 0) (bH (aM bM (pv 10) aE)) bB)))))))))))))))))),?_⟩
 have hn:=hF.n;refine⟨_,rfl,rfl,(aI _ _ l 10 rfl ⟨ rfl,rfl,LX,by lia,fun D hD=>?_⟩)⟩;have s4:=aH hD (.lst (vxs (sp 10 l)));have sl:=hZ 10 l;have cl:l.count 10≤l.length:=List.count_le_length;generalize hH4:upd H D (.lst (vxs (sp 10 l)))=H4 at s4 ⊢;have d4:H4 D=some (.lst (vxs (sp 10 l))):=by rw[←hH4];exact aB
 have vl:=fI (sp 10 l);have p0:(0:Int)<(((vxs (sp 10 l)).length:Nat):Int):=by rw[vl];lia
 have pick:∀m:Int,∃i:Nat,m%(((vxs (sp 10 l)).length:Nat):Int)=(i:Int)∧i<(sp 10 l).length:=fun m=>by
  obtain⟨i,hi⟩:=Xx (Xv m (show((((vxs (sp 10 l)).length:Nat):Int))≠0 by lia));have hi2:=Xw m p0;rw[hi,vl]at hi2;exact⟨i,hi,by lia⟩
 obtain⟨i,hi,hi3⟩:=pick (n / 16);obtain⟨j,hj,hj3⟩:=pick (n / 512);refine(aJ _ rfl _ _ rfl ⟨ rfl,⟨by decide,by decide⟩,(aJ _ rfl D _ rfl (bN (.inl (SqL.of d4)) _ _ rfl rfl ⟨ p0,?_⟩))⟩);show bT 4 (V.int (n / 16%(((vxs (sp 10 l)).length:Nat):Int))) _ _ _;rw[hi];refine(aJ _ rfl _ _ rfl ⟨ rfl,⟨by decide,by decide⟩,(aJ _ rfl D _ rfl (bN (.inl (SqL.of d4)) _ _ rfl rfl ⟨ p0,?_⟩))⟩);show bT 5 (V.int (n / 512%(((vxs (sp 10 l)).length:Nat):Int))) _ _ _;rw[hj];refine(aJ _ rfl _ _ rfl ⟨ rfl,(by show(0:Int)<12;decide),?_⟩);obtain⟨wy,hwy⟩:=Xx (Xv n (show(12:Int)≠0 by decide));have hwy2:wy<12:=by have:=Xw n (show(0:Int)<12 by decide);lia
 show bT 6 (V.int (n%12)) _ _ _;rw[hwy];have fin:∀{ws:List (List Nat)}{H':Hp}{p:Addr},aO H H'→TF' L (jn 10 ws)→H' p=some (.lst (vxs ws))→(ws.map List.length).sum+ws.length≤1000000→rJoin K (.str (ZT "\n")) [.ref p] H' Q:=fun {ws} {H'} {p} g hr hp hs=>(aI _ 10 p ws rfl ⟨ LX,rfl,SqL.of hp,hs,q _ _ g hr⟩)
 have sw:=pZ l;have tl:=fun i=>BG (ps:=sp 10 l) i;have sz:∀{a b:Nat},a≤20000→b≤20000→a+b≤ZW:=fun h1 h2=>YQ (Nat.add_le_add h1 h2) (by decide);have k1:∀j,(vxs ((sp 10 l).take j)).length≤9001:=fun j=>by rw[fI,Yx];lia
 have k2:∀j,(vxs ((sp 10 l).drop j)).length≤9001:=fun j=>by rw[fI,Ym];lia
 have hw:=fun {p:List Nat}(hp:p∈sp 10 l)=>TF.row hF hp;refine(aJ _ rfl _ _ rfl ⟨ rfl,_,rfl,cO (fun _=>?_) (fun c4=>?_)⟩)
 ·have pm:=Zp hi3;refine⟨_,rfl,_,rfl,(aI D _ _ _ rfl (aU rfl (SqL.of d4) (uR hi3) _ rfl (a9 _ _ rfl rfl ⟨by decide,by decide⟩ ⟨ _,rfl,(aI _ ((sp 10 l)[i]) _ _ rfl ⟨ rfl,(hw pm).1,?_,fun x H5 s5 hx=>?_⟩)⟩)))⟩
  ·have:=(hw pm).2;lia
  have hxl:∀c∈x,c<128:=fun c hc=>(hx.a c hc).1;refine(bJ rfl _ rfl _ rfl (aJ _ rfl D _ rfl ⟨ SqL.of (s5 _ _ d4),fun p1 hp1=>?_⟩));rw[iR];have w1:=aH hp1 (.lst (vxs ((sp 10 l).take i)));refine⟨_,rfl,(by show 1≤ZW;decide),fun p2 hp2=>?_⟩;have w2:=aH hp2 (.lst [vx x]);refine(aI p1 p2 _ ([vx x]) rfl ⟨ rfl,w2 _ _ aB,aB,sz (YQ (k1 i) (by decide)) (show 1≤20000 by decide),fun p3 hp3=>?_⟩);rw[show vxs ((sp 10 l).take i)++[vx x]=vxs ((sp 10 l).take i++[x]) from eY _ [x]]at *;have w3:=aH hp3 (.lst (vxs ((sp 10 l).take i++[x])));have w13:=s5.trans (w1.trans (w2.trans w3));refine⟨_,rfl,(aJ _ rfl _ _ rfl ⟨ rfl,(aJ _ rfl D _ rfl ⟨ SqL.of (w13 _ _ d4),fun p4 hp4=>?_⟩)⟩)⟩;rw[show((i:Int)+1)=((i+1:Nat):Int) from rfl,pN]at *;have w4:=aH hp4 (.lst (vxs ((sp 10 l).drop (i+1))));refine(aI p3 p4 _ _ rfl ⟨ rfl,w4 _ _ aB,aB,sz ?_ (YQ (k2 _) (by decide)),fun p5 hp5=>?_⟩)
  ·rw[fI,Zm,Yx,ZQ];lia
  rw[eY]at *;refine fin (s4.trans (w13.trans (w4.trans (aH hp5 _)))) (FX hF hxl (.inr ⟨rfl,hi3,hx.n⟩)) aB ?_;have h1:=(tl i).1;have h2:=(tl (i+1)).2;have h3:=hx.n;have h5:=(hw pm).2;simp only[Zt,List.sum_append,List.map_cons,List.map_nil,List.sum_cons,List.sum_nil,Zm,Yq,List.length_nil,Yx,Ym]
  lia
 refine(bE _ rfl rfl _ rfl (cO (fun _=>?_) (fun _=>?_)))
 ·refine(bJ rfl _ rfl _ rfl (aJ _ rfl D _ rfl ⟨ SqL.of d4,fun p1 hp1=>?_⟩));rw[iR];have w1:=aH hp1 (.lst (vxs ((sp 10 l).take i)));refine⟨_,rfl,(aJ _ rfl _ _ rfl ⟨ rfl,(aJ _ rfl D _ rfl ⟨ SqL.of (w1 _ _ d4),fun p4 hp4=>?_⟩)⟩)⟩;rw[show((i:Int)+1)=((i+1:Nat):Int) from rfl,pN]at *;have w4:=aH hp4 (.lst (vxs ((sp 10 l).drop (i+1))));refine(aI p1 p4 _ _ rfl ⟨ rfl,w4 _ _ aB,aB,sz (YQ (k1 i) (by decide)) (YQ (k2 _) (by decide)),fun p5 hp5=>?_⟩);rw[eY]at *;refine fin (s4.trans (w1.trans (w4.trans (aH hp5 _)))) (OR hF i) aB ?_;have h1:=(tl i).1;have h2:=(tl (i+1)).2;simp only[Zt,List.sum_append,Zm,Yx,Ym]
  lia
 refine(bE _ rfl rfl _ rfl (cO (fun _=>?_) (fun _=>?_)))
 ·refine(bJ rfl _ rfl _ rfl (aJ _ rfl D _ rfl ⟨ SqL.of d4,fun p1 hp1=>?_⟩));rw[iR];have w1:=aH hp1 (.lst (vxs ((sp 10 l).take i)));have hx:=hF.row (Zp hj3);refine⟨_,rfl,_,rfl,(aI D _ _ _ rfl ⟨ rfl,SqL.of (w1 _ _ d4),uR hj3,(by show 1≤ZW;decide),fun p2 hp2=>?_⟩)⟩;generalize (sp 10 l)[j]=x at hx hp2 ⊢;have w2:=aH hp2 (.lst [vx x]);refine(aI p1 p2 _ ([vx x]) rfl ⟨ rfl,w2 _ _ aB,aB,sz (YQ (k1 i) (by decide)) (show 1≤20000 by decide),fun p3 hp3=>?_⟩);rw[show vxs ((sp 10 l).take i)++[vx x]=vxs ((sp 10 l).take i++[x]) from eY _ [x]]at *;have w3:=aH hp3 (.lst (vxs ((sp 10 l).take i++[x])));have w13:=w1.trans (w2.trans w3);refine⟨_,(bJ rfl _ rfl _ rfl ⟨ D,_,rfl,SqL.of (w13 _ _ d4),fun p4 hp4=>?_⟩)⟩;rw[pN];have w4:=aH hp4 (.lst (vxs ((sp 10 l).drop i)));refine(aI p3 p4 _ _ rfl ⟨ rfl,w4 _ _ aB,aB,sz ?_ (YQ (k2 i) (by decide)),fun p5 hp5=>?_⟩)
  ·rw[fI,Zm,Yx,ZQ];lia
  rw[eY]at *;refine fin (s4.trans (w13.trans (w4.trans (aH hp5 _)))) (FX hF (fun c hc=>(hx.1 c hc).1) (.inl ⟨rfl,hx.2⟩)) aB ?_;have h1:=(tl i).1;have h2:=(tl i).2;have h3:=hx.2;simp only[Zt,List.sum_append,List.map_cons,List.map_nil,List.sum_cons,List.sum_nil,Zm,Yq,List.length_nil,Yx,Ym]
  lia
 refine(bE _ rfl rfl _ rfl (cO (fun _=>?_) (fun _=>?_)))
 ·refine⟨_,rfl,_,rfl,(aI D _ _ _ rfl (aU rfl (SqL.of d4) (uR hj3) _ rfl ⟨ _,rfl,(aI D _ _ _ rfl ⟨ rfl,SqL.of d4,uR hi3,(by show 2≤ZW;decide),fun p1 hp1=>?_⟩)⟩))⟩;have w1:=aH hp1 (.tup [vx (sp 10 l)[j],vx (sp 10 l)[i]]);refine(a9 p1 _ rfl (SqT.of aB) rfl (QA _ _ rfl _ rfl ⟨ _,rfl,(aI D _ _ i rfl ⟨ rfl,(aN (w1 _ _ d4) (K9 (by rw[vl];exact hi3) rfl) _ _ rfl ⟨ _,rfl,_,rfl,(aI D _ _ j rfl ⟨ rfl,aB,K9 (by rw[List.length_set,vl];exact hj3) rfl,rfl,?_⟩)⟩)⟩)⟩));have e:(((vxs (sp 10 l)).set i (vx (sp 10 l)[j])).set j (vx (sp 10 l)[i]))=vxs (((sp 10 l).set i (sp 10 l)[j]).set j (sp 10 l)[i]):=by simp only[List.map_set]
  refine⟨rfl,_,rfl,?_⟩;rw[e];refine fin (((s4.trans w1).fresh hD _).fresh hD _) (LO hF hi3 hj3) aB ?_;have e1:=sum_set (g:=List.length) (sp 10 l) i hi3 (sp 10 l)[j];have e2:=sum_set (g:=List.length) ((sp 10 l).set i (sp 10 l)[j]) j (by rw[List.length_set];exact hj3) (sp 10 l)[i];have r1:=(hw (Zp hi3)).2;have r2:=(hw (Zp hj3)).2;rw[List.length_set,List.length_set]
  lia
 dsimp only[PB];refine t7 (fun σ' H'=>H4=H'∧σ'=[some (vx l),some (.int n),some (.int c),some (.ref D),some (vn i),some (vn j),some (vn wy),none,some (.str (ZT " 0123456789<>-lrenws\n+.x")),none,none]) (fun N n1=>n1 _ _ ⟨rfl,rfl⟩) ?_;rintro σ' H' ⟨rfl,rfl⟩;refine t7 (fun σ' H'=>H4=H'∧∃z,σ'=[some (vx l),some (.int n),some (.int c),some (.ref D),some (vn i),some (vn j),some (vn wy),none,some (.str z),none,none]∧E1 z=true) (fun N n1=>?_) ?_
 ·refine(aJ _ rfl _ _ rfl (aU rfl (by show(0:Int)<4;decide) rfl _ rfl (cO (fun _=>?_) (fun _=>?_))))
  ·exact n1 _ _ ⟨rfl,_,rfl,sg2⟩
  ·exact n1 _ _ ⟨rfl,_,rfl,sg1⟩
 rintro σ' H' ⟨rfl,z,rfl,hz⟩;simp only[E1,Xy,decide_eq_true_eq,List.all_eq_true]at hz;obtain⟨⟨z1,z2⟩,z3⟩:=hz;have zl:z.length=z.cps.toList.length:=by simp[Str.length]
 have zp:(0:Int)<((z.length:Nat):Int):=by rw[zl];lia
 obtain⟨k,hk⟩:=Xx (Xv (c / 4) (show((z.length:Nat):Int)≠0 by lia));have hk2:=Xw (c / 4) zp;rw[hk]at hk2;have hk3:k<z.cps.toList.length:=by rw[←zl];lia
 have zsz:z.length≤ZW:=by rw[zl];exact YQ z3 (by decide)
 have ez:atI z.cps.toList (c / 4%((z.length:Nat):Int))=some z.cps.toList[k]:=by rw[hk];exact cE (Zz hk3)
 refine⟨_,rfl,(aJ _ rfl _ _ rfl ⟨ rfl,(bJ ⟨by decide,by decide⟩ _ rfl z rfl (bN zsz _ _ rfl rfl (cF zp z _ _ rfl ⟨ rfl,zsz,ez,?_⟩)))⟩)⟩;have hs1:z.cps.toList[k]<128:=z1 _ (Zp hk3);generalize z.cps.toList[k]=sg at hs1 ⊢;show bT 9 (V.str (sT [sg])) _ _ _;have lsz:(sT l).length≤ZW:=by rw[cG];exact YQ (show l.length≤10000 by lia) (by decide)
 have lp:(0:Int)<(((sT l).length:Nat):Int)+1:=by lia
 obtain⟨p,hp⟩:=Xx (Xv (n / 16) (show(((sT l).length:Nat):Int)+1≠0 by lia));refine(aJ _ rfl _ _ rfl ⟨ rfl,(bJ ⟨by decide,by decide⟩ _ rfl _ rfl (bN lsz _ _ rfl rfl (a9 _ _ rfl rfl lp ?_)))⟩);show bT 10 (V.int (n / 16%((((sT l).length:Nat):Int)+1))) _ _ _;rw[hp];have l6:l.length≤1000000:=by lia
 have tk:(l.take p).length≤9000:=by rw[Yx];lia
 have dk:∀p,(l.drop p).length≤9000:=fun p=>by rw[Ym];lia
 refine(aJ _ rfl _ _ rfl ⟨ rfl,_,rfl,cO (fun _=>?_) (fun c9=>?_)⟩)
 ·refine⟨_,(bJ rfl _ rfl _ rfl (a9 _ l rfl rfl l6 (aJ _ rfl _ _ rfl ⟨ rfl,(bJ ?_ _ rfl _ rfl (aJ _ rfl _ l rfl (aN rfl l6 _ _ rfl ⟨ rfl,?_,?_⟩)))⟩)))⟩
  ·rw[kX];exact EW (by simp only[ZQ];lia)
  ·rw[kX,fO,bZ];exact EW (by have:=dk p;simp only[Zm,ZQ];lia)
  ·rw[kX,fO,bZ,bZ];exact q _ _ s4 (CG hF (by simp) (fun c hc=>by rw[Zb.mp hc];exact hs1) (Nat.le_refl p))
 refine(bE _ rfl rfl _ rfl (cO (fun _=>?_) (fun c10=>?_)))
 ·refine⟨_,(bJ rfl _ rfl _ rfl (a9 _ l rfl rfl l6 ?_))⟩;rw[kX];exact q _ _ s4 (OS hF p)
 have w10:10≤wy:=by
  have c9:¬decide ((wy:Int)<9)=true:=c9;have c10:¬decide (V.int (wy:Int)=V.int 9)=true:=c10;rw[decide_eq_true_iff]at c9 c10;have:¬((wy:Int)=9):=fun z=>c10 (by rw[z])
  lia
 obtain⟨r,hr1,hr2⟩:∃r:Nat,(wy:Int)-10=(r:Int)∧r≤1:=⟨wy-10,by lia,by lia⟩
 have fl:(List.replicate r [sg]).flatten.length≤1∧∀c∈(List.replicate r [sg]).flatten,c<128:=by
  match r,hr2 with
  |0,_=>exact⟨by simp,fun c hc=>by simp at hc⟩
  |1,_=>exact⟨by simp,fun c hc=>by simp at hc;rw[hc];exact hs1⟩
 refine⟨_,(bJ rfl _ rfl _ rfl (a9 _ l rfl rfl l6 ⟨ _,rfl,(aJ _ rfl _ _ rfl (cF rfl _ ([sg]) r rfl ⟨ rfl,(show V.int ((wy:Int)-10)=V.int (r:Int) by rw[hr1]),(aN (by simp;lia) (by lia) _ _ rfl ⟨ rfl,(bJ ?_ _ rfl _ rfl ⟨ _,(bE _ rfl rfl _ rfl (a9 _ l rfl rfl l6 (a9 _ _ rfl rfl ?_ ?_)))⟩)⟩)⟩))⟩))⟩
 ·rw[kX];exact EW (by have:=fl.1;lia)
 ·rw[kX,show((p:Int)+1)=((p+1:Nat):Int) from rfl,fO,bZ];exact EW (by have:=dk (p+1);have:=fl.1;simp only[Zm];lia)
 ·rw[kX,show((p:Int)+1)=((p+1:Nat):Int) from rfl,fO,bZ,bZ];exact q _ _ s4 (CG hF fl.1 fl.2 (Nat.le_succ p))
end K75
namespace K75
open PySem L2 PyProof.Rows TX GR
def Inc(xs:List Int):Prop:=∀j:Nat,j+1<xs.length→at0 xs j<at0 xs (j+1)
theorem O3{xs:List Int}{i:Nat}(h:xs.length=i+1):at0 xs i=xs[xs.length-1]'(by omega):=by
 unfold at0;rw[Zv,Zz (by lia)];simp[h]
theorem Inc.snoc{xs:List Int}{i:Nat}(h:Inc xs)(hl:xs.length=i+1){x:Int}(h1:at0 xs i<x):Inc (xs++[x]):=fun j hj=>by
 rw[Zm,ZQ]at hj;have ap:∀k,k<xs.length→at0 (xs++[x]) k=at0 xs k:=fun k hk=>by unfold at0;rw[Zv,Zx hk,←Zv]
 by_cases e:j=i
 ·subst e;have lx:at0 (xs++[x]) (j+1)=x:=by unfold at0;rw[←hl,Zv,Yy];rfl
  rw[lx,ap j (by lia)];exact h1
 ·rw[ap j (by lia),ap (j+1) (by lia)];exact h j (by lia)
theorem Inc.lt{xs:List Int}(h:Inc xs):∀(d i:Nat),i+d+1<xs.length→at0 xs i<at0 xs (i+d+1)
 |0,i,hi=>h i hi
 |d+1,i,hi=>Int.lt_trans (Inc.lt h d i (by lia)) (by have:=h (i+d+1) (by lia);rw[show i+(d+1)+1=i+d+1+1 by lia];exact this)
theorem Inc.ne{xs:List Int}(h:Inc xs){a b:Nat}(ha:a<xs.length)(hb:b<xs.length)(hab:a≠b):at0 xs a≠at0 xs b:=by
 rcases Nat.lt_or_gt_of_ne hab with z | z
 ·have:=h.lt (b-a-1) a (by omega);rw[show a+(b-a-1)+1=b by omega]at this
  lia
 ·have:=h.lt (a-b-1) b (by omega);rw[show b+(a-b-1)+1=a by omega]at this
  lia
theorem TQ{a b far:Int}(h1:0≤a)(h2:a<41)(h3:0≤b)(h4:b<far)(hf:0<far) : -(20*far)≤(a-20)*far+b∧(a-20)*far+b≤21*far+3*(((0:Nat):Int)*far):=by
 have l : -20*far≤(a-20)*far:=Int.mul_le_mul_of_nonneg_right (by lia) (by lia);have u:(a-20)*far≤20*far:=Int.mul_le_mul_of_nonneg_right (by lia) (by lia);exact⟨by lia,by simp;lia⟩
theorem PN{x v far m:Int}(hf:0<far)(hv:1≤v∧v≤3)(h0:0≤m)(h7:m<7):x<x+v*far-m*(far / 10)∧x+v*far-m*(far / 10)≤x+3*far:=by
 have q0:0≤far / 10:=Int.ediv_nonneg (by lia) (by decide);have q1:far / 10*10≤far:=Int.ediv_mul_le far (by decide);have m1:m*(far / 10)≤6*(far / 10):=Int.mul_le_mul_of_nonneg_right (by lia) q0;have m0:0≤m*(far / 10):=Int.mul_nonneg h0 q0;have v1:1*far≤v*far:=Int.mul_le_mul_of_nonneg_right hv.1 (by lia);have v3:v*far≤3*far:=Int.mul_le_mul_of_nonneg_right hv.2 (by lia);exact⟨by lia,by lia⟩
def JB:Sp:=fun vs H Q _=>∃(m:Nat) (n far:Int),vs=[vn m,.int n,.int far]∧1≤m∧m≤5∧0<far∧∀(D:Addr) (xs:List Int) (H':Hp),aO H H'→H' D=some (.lst (xs.map V.int))→xs.length=m→Inc xs→(∀x∈xs,-(33*far)≤x∧x≤33*far)→Q (.ref D) H'
theorem yP(T:Txt K mg t):cU P w K mg base CX0 1 t.xI t.wR ["_law_many","_law_number_here","_law_far"] JB:=by
 refine T.pL.F.ok sY (fun vs H Q E h=>?_) (fun cdv A outer s H vs Q E hr h=>?_)
 ·obtain⟨m,n,far,rfl,_⟩:=h;rfl
 obtain⟨m,n,far,rfl,m1,m5,hf,q⟩:=h;have nd:=sY.nd;refine⟨_,(aG (aZ 3 nd (bI (aA (aM bM (aM cW (aM eG (aM cJ (aM c8 (pv 1) aE) aE) aE) (pv 2)) (aM cJ (pv 1) (pv 2))) aC)))
  (aG (cR PassesOwn.never rfl (dC rfl T.eJ (aA (aM eG (pv 0) aE) aC)) (aX (i:=4) nd rfl (Or.inl rfl)) (aL (bQ (dE mAp bR (pv 3) (aA (aM eG (aM bM (aQ aT (pv 3) (iH e8 aE) (fun _ _=>rfl)) (aM cW (aQ aT (bI (aA aE (aA aE (aA aE (aA aE aC))))) (aM cJ (aM c8 (pv 1) (aM JZ aE (aM cW aE (pv 4)))) aE) (fun _ _=>rfl)) (pv 2))) (aM cW (aM cJ (pv 1) aE) (aM c8 (pv 2) aE))) aC)))))
  (aL (a8 (pv 3))))),?_⟩
 refine(aJ _ rfl _ _ rfl (aN rfl ⟨by decide,by decide⟩ _ _ rfl (aN rfl (by show(0:Int)<41;decide) _ _ rfl ⟨ rfl,(aJ _ rfl _ _ rfl ⟨ rfl,(bJ (.inl ?_) _ rfl _ rfl (a9 _ _ rfl rfl hf (a9 _ _ rfl rfl (by show 1≤ZW;decide) (fun D hD=>?_))))⟩)⟩)))
 ·have h1:0≤n / 4096%41:=Xv _ (by decide);have h2:n / 4096%41<41:=Xw _ (by decide);exact⟨by lia,by lia⟩
 have b1:=aH hD (.lst [.int ((n / 4096%41-20)*far+n%far)]);refine(aJ _ rfl _ _ rfl (uQ rfl ((m:Int)-1) rfl (by lia) (by lia) ?_))
 let Pv1:Nat→L2.St→L2.Hp→Prop:=fun i σ H'=>(∃v4,σ=[some (vn m),some (.int n),some (.int far),some (.ref D),v4])∧aO H H'∧∃xs:List Int,H' D=some (.lst (xs.map V.int))∧xs.length=i+1∧Inc xs∧∀x∈xs,-(20*far)≤x∧x≤21*far+3*((i:Int)*far)
 refine dD (lo:=0) (n:=((m:Int)-1).toNat) Pv1 (fT ⟨_,rfl⟩ b1 ([(n / 4096%41-20)*far+n%far]) aB rfl ⟨ fun j hj=>by simp at hj,fun x hx=>?_⟩) ?_ ?_
 ·rw[Zb.mp hx];exact TQ (Xv _ (by decide)) (Xw _ (by decide)) (Xv _ (by lia)) (Xw _ hf) hf
 ·rintro i σ H1 hi ⟨⟨v4,rfl⟩,g1,xs,hx,lx,inc,bx⟩;have i4:i<4:=by lia
  have hl:(xs.map V.int)[(xs.map V.int).length-1]?=some (.int (xs[xs.length-1]'(by lia))):=by rw[Zq,Zk,GR.aK (by lia)];rfl
  refine(bE _ rfl (.inl ⟨rfl,_,SqL.of hx⟩) _ rfl ⟨ _,rfl,(aI D _ _ _ rfl ⟨ rfl,SqL.of hx,xE (k:=1) (by decide) (by rw[Zq];lia) hl,(by show 4≤ZW;decide),fun l hl'=>?_⟩)⟩);have k1:=aH hl' (.lst [V.int 1,V.int 1,V.int 2,V.int 3]);have pw:(1:Int)*2 ^ (2*(0+(i:Int))).toNat=((2 ^ (2*i):Nat):Int):=by
   rw[show(2*(0+(i:Int))).toNat=2*i by lia];simp
  have pl:2 ^ (2*i)≤2 ^ 8:=Nat.pow_le_pow_right (by decide) (by lia);have pp:0<2 ^ (2*i):=Nat.pow_pos (by decide);obtain⟨v,hv,hv2⟩:∃v:Int,atI [V.int 1,V.int 1,V.int 2,V.int 3] (n / ((1:Int)*2 ^ (2*(0+(i:Int))).toNat)%4)=some (.int v)∧1≤v∧v≤3:=by
   have h1:0≤n / ((1:Int)*2 ^ (2*(0+(i:Int))).toNat)%4:=Xv _ (by decide);have h2:n / ((1:Int)*2 ^ (2*(0+(i:Int))).toNat)%4<4:=Xw _ (by decide);obtain⟨k,hk⟩:=Xx h1;rw[hk]at h2 ⊢
   match k,h2 with
   |0,_=>exact⟨1,rfl,by decide,by decide⟩
   |1,_=>exact⟨1,rfl,by decide,by decide⟩
   |2,_=>exact⟨2,rfl,by decide,by decide⟩
   |3,_=>exact⟨3,rfl,by decide,by decide⟩
   |k+4,h=>exact absurd h (by omega)
  refine⟨_,rfl,(aJ _ rfl _ _ rfl (aN rfl (.inl ⟨by decide,by decide⟩) _ _ rfl (aN rfl ⟨by lia,by lia,by decide⟩ _ _ rfl (aN rfl ?_ _ _ rfl ⟨ rfl,(by show(0:Int)<4;decide),(aI l _ _ _ rfl (aU rfl (SqL.of aB) hv _ rfl (a9 _ _ rfl rfl (.inl ⟨by lia,by lia⟩) ⟨ _,(bE _ rfl rfl _ rfl (a9 _ _ rfl rfl (by show(0:Int)<7;decide) (aJ _ rfl _ _ rfl (aN rfl ⟨by decide,by decide⟩ _ _ rfl (aN rfl (.inl ?_) _ _ rfl (cF rfl D _ _ rfl (bF rfl (k1 _ _ hx) (by rw[Zq,lx];exact Xq (by lia:i+1≤10) (by decide)) ⟨_,rfl⟩ ((g1.trans k1).fresh hD _) ⟨ xs++[_],by rw[Zt];exact aB,by simp[lx],?_,?_⟩)))))))⟩)))⟩))))⟩
  ·show 0<(1:Int)*2 ^ (2*(0+(i:Int))).toNat∧(1:Int)*2 ^ (2*(0+(i:Int))).toNat<1073741824;rw[pw];exact⟨by lia,by omega⟩
  ·have h1:0≤n%7:=Xv _ (by decide);have h2:n%7<7:=Xw _ (by decide);exact⟨by lia,by lia⟩
  ·exact inc.snoc lx (by rw[O3 lx];exact(PN hf hv2 (Xv n (show(7:Int)≠0 by decide)) (Xw n (show(0:Int)<7 by decide))).1)
  ·intro x hx';have hb:=bx _ (Zp (show xs.length-1<xs.length by lia));have h1:=PN (x:=xs[xs.length-1]'(by lia)) hf hv2 (Xv n (show(7:Int)≠0 by decide)) (Xw n (show(0:Int)<7 by decide));have e:(((i+1:Nat):Int))*far=(i:Int)*far+far:=by rw[show((i+1:Nat):Int)=(i:Int)+1 by lia,Int.add_mul,Int.one_mul]
   rw[e];rcases Zf.mp hx' with z | z
   ·have:=bx x z;exact⟨this.1,by lia⟩
   ·rw[Zb.mp z];exact⟨by omega,by lia⟩
 ·rintro σ H1 ⟨⟨v4,rfl⟩,g1,xs,hx,lx,inc,bx⟩;refine⟨_,rfl,q D xs _ g1 hx (by lia) inc fun x hx'=>?_⟩;have:=bx x hx';have h4:(((((m:Int)-1).toNat:Nat)):Int)*far≤4*far:=Int.mul_le_mul_of_nonneg_right (by lia) (by lia);exact⟨by lia,by lia⟩
def IC(xs ys:List Int)(p:Pt):Prop:=(0≤p.1∧p.1<(xs.length:Int))∧0≤p.2∧p.2<(ys.length:Int)
def pJ(xs ys:List Int)(p:Pt):Pt:=(at0 xs p.1.toNat,at0 ys p.2.toNat)
theorem A8{xs:List Int}{k:Int}(h0:0≤k)(h1:k<(xs.length:Int)):atI (xs.map V.int) k=some (.int (at0 xs k.toNat)):=gT (j:=k.toNat) (by lia) (by lia)
theorem OZ{xs:List V}{v:V}(h:xs[0]?=some v):fF xs none (some 1)=[v]:=by
 rw[show(some (1:Int))=some ((1:Nat):Int) from rfl,kW]
 match xs,h with
 |x::xs,h=>cases h;rfl
theorem O0{xs:List V}{v:V}(h:xs[xs.length-1]?=some v):fF xs (some (-1)) none=[v]:=by
 have hl:=(Zj.mp h).1;unfold fF;have e:HT.sIx xs.length 0 (some (-1))=xs.length-1:=by
  show(if (-1:Int)<0 then ((-1:Int)+(xs.length:Int)).toNat else min (-1:Int).toNat xs.length)=_;rw[if_pos (by decide)];lia
 rw[e,HT.mC,show xs.length-(xs.length-1)=1 by lia,List.drop_eq_getElem_cons hl];rw[(Zj.mp h).2];rfl
theorem QN{xs ys:List Int}(ix:Inc xs)(iy:Inc ys){r:List Pt}{a b:Nat}(ab:a<b)(s:St r a b)(ca:IC xs ys (g0 r a))(cb:IC xs ys (g0 r b)):Stp (pJ xs ys (g0 r a)) (pJ xs ys (g0 r b)):=by
 obtain⟨s,hs,h | h⟩:=s
 ·have e:=h b (by lia) (Nat.le_refl _);refine .inl ⟨by show at0 xs _=at0 xs _;rw[e.1],?_⟩;refine iy.ne (by have:=ca.2;lia) (by have:=cb.2;lia) ?_;have:=ca.2;have:=cb.2;rcases hs with rfl | rfl<;>omega
 ·have e:=h b (by lia) (Nat.le_refl _);refine .inr ⟨by show at0 ys _=at0 ys _;rw[e.1],?_⟩;refine ix.ne (by have:=ca.1;lia) (by have:=cb.1;lia) ?_;have:=ca.1;have:=cb.1;rcases hs with rfl | rfl<;>omega
def QV:Sp:=fun vs H Q _=>∃(ra xa ya:Addr) (r:List Pt) (xs ys:List Int),vs=[.ref ra,.ref xa,.ref ya]∧TsI H ra r∧H xa=some (.lst (xs.map V.int))∧H ya=some (.lst (ys.map V.int))∧(∀p∈r,IC xs ys p)∧Pth r∧Inc xs∧Inc ys∧r.length≤32∧∀(D:Addr) (H':Hp),aO H H'→H D=none→(∃ls:List Pt,TsI H' D ls∧2≤ls.length∧ls.length≤36∧Rct ls∧∀p∈ls,∃c∈r,p=pJ xs ys c)→Q (.ref D) H'
theorem N7(T:Txt K mg t):cU P w K mg base CX0 1 t.DK t.CW ["_law_row","_law_xs","_law_ys"] QV:=by
 refine T.CK.F.ok yB (fun vs H Q E h=>?_) (fun cdv A outer s H vs Q E hr h=>?_)
 ·obtain⟨ra,xa,ya,r,xs,ys,rfl,_⟩:=h;rfl
 obtain⟨ra,xa,ya,r,xs,ys,rfl,hR,hX,hY,hC,pth,ixs,iys,l32,q⟩:=h;have l2:=pth.len;have nd:=yB.nd;have nd_l_x_l_y_l_xs_l_ys:(["_law_x","_law_y","_law_xs","_law_ys"]:List Str).Nodup:=by decide
 refine⟨_,(aG (vH (i:=3) nd rfl (Or.inl rfl)  (N':=["_law_x","_law_y","_law_xs","_law_ys"]) (js:=[none,none,some 1,some 2]) rfl (cD (pv 0)) (fun _ _ _ _ _=>(qH (K:=K) (n:=2) rfl rfl (b8 (aX (i:=0) nd_l_x_l_y_l_xs_l_ys rfl (Or.inl rfl)) (b8 (aX (i:=1) nd_l_x_l_y_l_xs_l_ys rfl (Or.inl rfl)) e7)))) (fun _ _ _ _ _=>fX) (fun _ _ _ _ _=>(cS (aA (aQ (eP (K:=K) rfl) (pv 2) (pv 0) (fun _ _=>rfl)) (aA (aQ (eP (K:=K) rfl) (pv 3) (pv 1) (fun _ _=>rfl)) aC)))))
  (aG (aZ 4 nd (bC cC (pv 3) bB (bH aE)))
  (aG (cR PassesOwn.never rfl (yM rfl T.eJ (aA aE (aA (aM eG (aW aV rfl T.cP PySem.boot_len (aA (pv 0) aC)) aE) aC))) (aX (i:=5) nd rfl (Or.inl rfl)) (aL (cH (PW.pt (kS (aS oX (aQ bW (aQ aT (pv 0) (aM eG (pv 5) aE) (fun _ _=>rfl)) aE (fun _ _=>rfl)) (aQ bW (aQ aT (pv 0) (aM bM (pv 5) aE) (fun _ _=>rfl)) aE (fun _ _=>rfl)) (bA _)) (iZ (aS oX (aQ bW (aQ aT (pv 0) (aM eG (pv 5) aE) (fun _ _=>rfl)) aE (fun _ _=>rfl)) (aQ bW (aQ aT (pv 0) (aM bM (pv 5) aE) (fun _ _=>rfl)) aE (fun _ _=>rfl)) (bA _))))) (aL (bQ (dE mAp bR (pv 4) (aA (aQ aT (pv 3) (pv 5) (fun _ _=>rfl)) aC)))) bG)))
  (aL (a8 (aM dQ (pv 4) (bC cC (pv 3) (bH (iH e8 aE)) bB))))))),?_⟩
 obtain⟨rr,r1,r2,r3⟩:=id hR;refine(cL _ rfl ra rfl ⟨_,SqL.of r1⟩ (fun D hD=>?_));refine j6 r.length (fun i o=>o=.tup [.int (pJ xs ys (r.getD i (0,0))).1,.int (pJ xs ys (r.getD i (0,0))).2]) hD (by lia) (fun i H' hi g=>⟨_,.ref (rr[i]'(by lia)),SqL.of (g _ _ r1),by rw[Zk,Zz (by lia)];rfl⟩) (fun H' g=>⟨_,SqL.of (g _ _ r1),by rw[Zq,r2];exact Nat.le_refl _⟩) ?_ ?_
 ·rintro i H' x H'' k hi g ⟨rfl,hx⟩ hk;have hx:=hx _ (SqL.of (g _ _ r1));obtain⟨pa,a1,a2⟩:=r3 i _ (GR.aK hi);rw[Zk,a1]at hx;cases hx;have gd:r.getD i (0,0)=r[i]:=getD_some (GR.aK hi);obtain⟨⟨c1,c2⟩,c3,c4⟩:=hC _ (Zp hi);refine(a9 pa _ rfl (SqT.of (g _ _ a2)) rfl ⟨ _,(aJ _ rfl _ _ rfl ⟨ rfl,(bJ (((Fills.refl _).set _ rfl).set _ rfl) _ rfl _ rfl (aI xa _ _ _ rfl (aU rfl (SqL.of (g _ _ hX)) (A8 c1 c2) _ rfl ⟨ _,rfl,(aI ya _ _ _ rfl ⟨ rfl,SqL.of (g _ _ hY),A8 c3 c4,(by show 2≤ZW;decide),fun a ha=>hk a _ _ ?_ ha (aH ha _) aB⟩)⟩)))⟩)⟩);rw[gd];rfl
 intro tr H1 l1 p1 g1 e1;have pts:TsI H1 D (r.map (pJ xs ys)):=by
  refine⟨tr,e1,by rw[l1,Zq],fun i p e=>?_⟩;rw[Zk]at e;cases er:r[i]? with
  |none=>rw[er]at e;cases e
  |some p' =>
   rw[er]at e;cases e;have hi:i<tr.length:=by rw[l1];exact(Zj.mp er).1
   obtain⟨o,rfl,h⟩:=p1 i _ (GR.aK hi);refine⟨_,GR.aK hi,?_⟩;rw[getD_some er]at h;exact h
 have tl:tr.length=r.length:=l1;have tg:∀i,i<r.length→tr[i]?=some (tr.getD i 0):=fun i hi=>by rw[Zv,Zz (by lia)];rfl
 have c1:fF (tr.map V.ref) none (some 1)=[V.ref (tr.getD 0 0)]:=OZ (by rw[Zk,tg 0 (by lia)];rfl);have cn:fF (tr.map V.ref) (some (-1)) none=[V.ref (tr.getD (r.length-1) 0)]:=O0 (by rw[Zq,tl,Zk,tg _ (by lia)];rfl);have gq:∀i,i<r.length→r.getD i (0,0)=g0 r i:=fun _ _=>rfl;dsimp only[bT];refine⟨_,rfl,(aJ _ rfl D _ rfl ⟨ SqL.of e1,fun f hf=>?_⟩)⟩;rw[c1];have g2:=aH hf (.lst [V.ref (tr.getD 0 0)]);have g12:=g1.trans g2;have hf0:H f=none:=g1.free hf;have lr:(((rr.map V.ref).length:Nat):Int)=(r.length:Int):=by rw[Zq,r2]
 dsimp only[bT];refine t7 (fun σ' H'=>(∃v5,σ'=[some (.ref ra),some (.ref xa),some (.ref ya),some (.ref D),some (.ref f),v5])∧aO H1 H'∧∃(ix:List Nat) (j:Nat),H' f=some (.lst ((ix++[j]).map fun i=>V.ref (tr.getD i 0)))∧Kpt r (ix++[j])∧j+1<r.length∧St r j (r.length-1)∧ix.length≤33) (fun N n1=>?_) ?_
 ·refine(aJ _ rfl ra _ rfl (bN (.inl (SqL.of (g12 _ _ r1))) _ _ rfl rfl ⟨ 1,(r.length:Int)-1,by rw[lr],⟨by lia,by lia,by lia,by lia⟩,?_⟩))
  let Pv2:Nat→L2.St→L2.Hp→Prop:=fun i σ H'=>(∃v5,σ=[some (.ref ra),some (.ref xa),some (.ref ya),some (.ref D),some (.ref f),v5])∧aO H1 H'∧∃(ix:List Nat) (j:Nat),H' f=some (.lst ((ix++[j]).map fun i=>V.ref (tr.getD i 0)))∧Kpt r (ix++[j])∧j≤i∧St r j (i+1)∧ix.length≤i
  refine dD (lo:=1) (n:=((r.length:Int)-1-1).toNat) Pv2 (aN ⟨_,rfl⟩ g2 ([]) 0 aB ⟨ ⟨fun i hi=>by rw[Zb.mp hi];lia,fun i a b e1 e2=>by simp at e2⟩,Nat.le_refl _,St.one pth (by lia),Nat.le_refl _⟩) ?_ ?_
  ·rintro i σ H2 hi ⟨⟨v5,rfl⟩,g3,ix,j,hls,kp,ji,st,li⟩;have hr2:=hR.same (g1.trans g3);obtain⟨tr2,t1,t2,t3⟩:=hr2.at;have ga:=GR.aK (l:=r) (i:=i) (by lia);have gc:=GR.aK (l:=r) (i:=i+2) (by lia);obtain⟨aa,a1,a2⟩:=t3 _ _ ga;obtain⟨ca,c1,c2⟩:=t3 _ _ gc;have qa:=eV ga;have qc:=eV gc;have ata:atI (tr2.map V.ref) (1+(i:Int)-1)=some (.ref aa):=by rw[show 1+(i:Int)-1=(i:Int) by lia];exact cE a1
   have atc:atI (tr2.map V.ref) (1+(i:Int)+1)=some (.ref ca):=by rw[show 1+(i:Int)+1=((i+2:Nat):Int) by lia];exact cE c1
   have next:((g0 r i).1=(g0 r (i+2)).1∨(g0 r i).2=(g0 r (i+2)).2)→aO H1 H2∧∃(ix:List Nat) (j:Nat),H2 f=some (.lst ((ix++[j]).map fun i=>V.ref (tr.getD i 0)))∧Kpt r (ix++[j])∧j≤i+1∧St r j (i+1+1)∧ix.length≤i+1:=fun z=>(bN g3 ix j hls kp ⟨ by lia,St.on pth (by lia) (by lia) st (by rw[show i+1-1=i by lia];exact z),by lia⟩)
   refine⟨_,rfl,(aJ _ rfl _ _ rfl ⟨ rfl,(aI ra _ _ _ rfl ⟨ rfl,SqL.of t1,ata,(aI aa _ 0 _ rfl (aU rfl (SqT.of a2) rfl _ rfl (aJ _ rfl _ _ rfl ⟨ rfl,(aI ra _ _ _ rfl ⟨ rfl,SqL.of t1,atc,(aI ca _ 0 _ rfl ⟨ rfl,(aU (SqT.of c2) rfl rfl _ rfl (cO (fun _=>?_) (fun c=>iU ⟨⟨_,rfl⟩,next (.inl ?_)⟩)))⟩)⟩)⟩)))⟩)⟩)⟩
   ·refine⟨_,rfl,(aJ _ rfl _ _ rfl ⟨ rfl,(aI ra _ _ _ rfl ⟨ rfl,SqL.of t1,ata,(aI aa _ 1 _ rfl (aU rfl (SqT.of a2) rfl _ rfl (aJ _ rfl _ _ rfl ⟨ rfl,(aI ra _ _ _ rfl ⟨ rfl,SqL.of t1,atc,(aI ca _ 1 _ rfl ⟨ rfl,(aU (SqT.of c2) rfl rfl _ rfl (cO (fun _=>?_) (fun c=>⟨⟨_,rfl⟩,next (.inr ?_)⟩)))⟩)⟩)⟩)))⟩)⟩)⟩
    ·have gp:=tg (1+i) (by lia);refine(bE _ rfl (.inl ⟨rfl,_,SqL.of hls⟩) _ rfl ⟨ _,rfl,(aI D _ _ _ rfl ⟨ rfl,SqL.of (g3 _ _ e1),(cF (by rw[show 1+(i:Int)=((1+i:Nat):Int) by lia];exact cE (by rw[Zk,gp];rfl)) f _ _ rfl (bF rfl hls (Xq (by rw[Zq];simp;lia:_≤100) (by decide)) ⟨_,rfl⟩ (g3.fresh hf _) (a9 (ix++[j]) (i+1) ?_ (kp.snoc (by lia) (by lia) st) (Nat.le_refl _) ⟨ St.one pth (by lia),by simp;lia⟩)))⟩)⟩);rw[aB,Zt (l₂:=[i+1]),Nat.add_comm 1 i];rfl
    ·rw[qa,qc];simp only[Bool.not_eq_true',decide_eq_false_iff_not,Classical.not_not]at c;exact V.int.inj c
   ·rw[qa,qc];simp only[Bool.not_eq_true',decide_eq_false_iff_not,Classical.not_not]at c;exact V.int.inj c
  ·rintro σ H2 ⟨h,g3,ix,j,hls,kp,ji,st,li⟩;have e:((r.length:Int)-1-1).toNat+1=r.length-1:=by lia
   rw[e]at st;exact n1 _ _ (aN h g3 ix j hls ⟨ kp,by lia,st,by lia⟩)
 rintro σ' H2 ⟨⟨v5,rfl⟩,g3,ix,j,hls,kp,jl,st,li⟩;have e2:=g3 _ _ e1;refine⟨_,(bJ rfl _ rfl _ rfl (aJ _ rfl D _ rfl ⟨ SqL.of e2,fun e he=>?_⟩))⟩;rw[cn];have g4:=aH he (.lst [V.ref (tr.getD (r.length-1) 0)]);refine(aI f e _ _ rfl ⟨ rfl,g4 _ _ hls,aB,?_,fun z hz=>?_⟩)
 ·rw[Zq];exact YQ (by simp;lia:_≤100) (by decide)
 ·have kp2:=kp.snoc (k:=r.length-1) (by lia) (by lia) st;have el:(ix++[j]).map (fun i=>V.ref (tr.getD i 0))++[V.ref (tr.getD (r.length-1) 0)]=((ix++[j]++[r.length-1]).map fun i=>tr.getD i 0).map V.ref:=by
   rw[Yb,Zt (l₂:=[r.length-1])];rfl
  rw[el];have ll2:2≤(ix++[j]++[r.length-1]).length∧(ix++[j]++[r.length-1]).length≤36:=by simp;lia
  generalize ix++[j]++[r.length-1]=kx at kp2 ll2 ⊢;have g5:=aH hz (.lst ((kx.map fun i=>tr.getD i 0).map V.ref));have gg:=(g1.trans g3).trans (g4.trans g5);refine q z _ gg (((g1.trans g3).trans g4).free hz) (lQ (kx.map fun i=>pJ xs ys (g0 r i)) ⟨_,aB,by rw[Zq,Zq],fun i p e'=>?_⟩ (by rw[Zq];exact ll2.1) (by rw[Zq];exact ll2.2) (fun i p p' e1' e2'=>?_) (fun p hp=>?_))
  ·rw[Zk]at e';obtain⟨m,hm,rfl⟩:=Xk.mp e';have ml:=kp2.lt m (Zg hm);refine⟨tr.getD m 0,by rw[Zk,hm];rfl,?_⟩;obtain⟨o,rfl,h⟩:=p1 m _ (tg m ml);exact g5 _ _ (g4 _ _ (g3 _ _ h))
  ·rw[Zk]at e1' e2';obtain⟨m,hm,rfl⟩:=Xk.mp e1';obtain⟨m',hm',rfl⟩:=Xk.mp e2';obtain⟨lt,s⟩:=kp2.st i m m' hm hm';have cg:∀k,k<r.length→IC xs ys (g0 r k):=fun k hk=>by rw[eV (GR.aK hk)];exact hC _ (Zp hk)
   exact QN ixs iys lt s (cg m (kp2.lt m (Zg hm))) (cg m' (kp2.lt m' (Zg hm')))
  ·obtain⟨m,hm,rfl⟩:=Zh.mp hp;have ml:=kp2.lt m hm;exact⟨r[m],Zp ml,by rw[eV (GR.aK ml)]⟩
end K75
namespace L2
open PySem PySem.Spec PyProof.Rows GR
theorem VS{X:Cx}{es rest:List Expr}{k}{pos:Pos}{te:TE}{t:TA}(ha:PE X (.Tuple es k pos) te)(hr:PA X rest t):PA X (.Tuple es k pos::rest) (uT te t):=aA ha hr rfl
theorem NV{X:Cx}{i j:Int}{k}{p q pos:Pos}{a b}:PE X (.Tuple [.Constant (.int i) a p,.Constant (.int j) b q] k pos) (QK (uT (tC (.int i)) (uT (tC (.int j)) MX))):=cS (aA aE (aA aE aC rfl) rfl)
inductive Prs:List Expr→List (Int×Int)→Prop
 |nil:Prs [] []
 |cons {i j:Int}{k} {p q pos:Pos}{a b} {es:List Expr}{ps:List (Int×Int)}:Prs es ps→Prs (.Tuple [.Constant (.int i) a p,.Constant (.int j) b q] k pos::es) ((i,j)::ps)
def DW:List (Int×Int)→TA
 |[]=>MX
 |p::ps=>uT (QK (uT (tC (.int p.1)) (uT (tC (.int p.2)) MX))) (DW ps)
theorem JY{X:Cx}:∀{es:List Expr}{ps:List (Int×Int)},Prs es ps→PA X es (DW ps)
 |_,_,.nil=>aC
 |_,_,.cons h=>VS NV (JY h)
theorem RA{X:Cx}{es:List Expr}{ps:List (Int×Int)}{pos:Pos}(h:Prs es ps):PE X (.List es pos) (GL (DW ps)):=bI (JY h)
theorem E5:∀(ps:List (Int×Int)) {σ:St}{H:Hp}{Q:List V→Hp→Prop},(∀(tr:List Addr) (H':Hp),aO H H'→tr.length=ps.length→(∀(i:Nat) p,ps[i]?=some p→∃r,tr[i]?=some r∧H' r=some (.tup [.int p.1,.int p.2]))→Q (tr.map V.ref) H')→DW ps σ H Q
 |[],σ,H,Q,h=>h [] H (aO.refl _) rfl fun i p e=>by simp at e
 |p::ps,σ,H,Q,h=>by
  refine⟨(by show 2≤ZW;decide),fun a ha=>E5 ps fun tr H' g l e=>?_⟩;refine h (a::tr) H' ((aH ha _).trans g) (by simp[l]) fun i p' e'=>?_
  match i with
  |0=>cases e';exact⟨a,rfl,g _ _ aB⟩
  |i+1=>exact e i p' (by simpa using e')
theorem NT{ps:List (Int×Int)}{σ:St}{H:Hp}{Q:VK}(hl:ps.length≤100)(h:∀(a:Addr) (H':Hp),aO H H'→TsI H' a ps→Q (.ref a) H'):GL (DW ps) σ H Q:=by
 refine E5 ps fun tr H' g l e=>⟨YQ (by rw[Zq,l];exact hl) (by decide),fun a ha=>?_⟩
 have k:=aH ha (.lst (tr.map V.ref));exact h a _ (g.trans k) ⟨tr,aB,l,fun i p e'=>let⟨r,q1,q2⟩:=e i p e';⟨r,q1,k _ _ q2⟩⟩
theorem NS{ps:List (Int×Int)}{i:Nat}{r:TS}{D:Ends}{σ:St}{H:Hp}(hl:ps.length≤100)(h:∀(a:Addr) (H':Hp),aO H H'→TsI H' a ps→r D (σ.set i (some (.ref a))) H'):DV (GM (GL (DW ps)) (bT i)) r D σ H:=by
 show GL (DW ps) σ H fun x H1=>bT i x σ H1 (r D);exact NT hl h
theorem zX{tt r:TS}{D:Ends}{σ σ':L2.St}{H:Hp}(e:σ=σ')(h:DV tt r D σ' H):DV tt r D σ H:=e▸h
end L2
namespace GR
def dom(a b:Nat):List Pt:=(List.range b).flatMap fun (y:Nat)=>(List.range a).map fun (x:Nat)=>((x:Int),(y:Int))
theorem uH{a b:Nat}{p:Pt}(h:Ins a b p):p∈dom a b:=by
 obtain⟨⟨h1,h2⟩,h3,h4⟩:=h;refine Yk.mpr ⟨p.2.toNat,Zs.mpr (by lia),Zh.mpr ⟨p.1.toNat,Zs.mpr (by lia),?_⟩⟩;exact Prod.ext (by show(p.1.toNat:Int)=p.1;lia) (by show(p.2.toNat:Int)=p.2;lia)
theorem AI{a b:Nat}{p:Pt}(h:p∈dom a b):Ins a b p:=by
 obtain⟨y,hy,h⟩:=Yk.mp h;obtain⟨x,hx,rfl⟩:=Zh.mp h;have:=Zs.mp hy;have:=Zs.mp hx;exact⟨⟨by show(0:Int)≤x;lia,by show(x:Int)<a;lia⟩,by show(0:Int)≤y;lia,by show(y:Int)<b;lia⟩
theorem CF{α β:Type}{f:α→List β}{n:Nat}:∀(l:List α),(∀x∈l,(f x).length=n)→(l.flatMap f).length=n*l.length
 |[],_=>by simp
 |x::l,h=>by
  rw[List.flatMap_cons,Zm,h x (Zd ..),CF l fun y hy=>h y (Zw _ hy),Yq,Nat.mul_succ,Nat.add_comm]
theorem OX(a b:Nat):(dom a b).length=a*b:=by
 unfold dom;rw[CF (n:=a) _ fun x _=>by simp,Yj]
theorem En.all{S:Sts}{Pl:List Pt}{r:List Pt}(e:En S Pl r){p:Pt}(h:p∈r):∃q,Adj S p q:=by
 obtain⟨i,hi,rfl⟩:=Yg.mp h;have hl:=e.t.len;rcases Nat.lt_or_ge (i+1) r.length with z | z
 ·exact⟨_,e.t.adj i _ _ (aK hi) (aK z)⟩
 ·obtain⟨j,rfl⟩:∃j,i=j+1:=⟨i-1,by lia⟩
  exact⟨_,(e.t.adj j _ _ (aK (by lia)) (aK hi)).symm⟩
end GR
namespace K75
open PySem L2 PyProof.Rows TX GR
def S9:List (Int×Int):=[(3,3),(2,5),(5,2),(3,3),(2,2),(3,2),(2,3),(4,2),(1,4),(5,1),(2,4),(3,3)]
theorem MY:∀k,k<12→∃a b:Nat,S9[k]?=some ((a:Int),(b:Int))∧0<a∧0<b∧a≤5∧b≤5∧(1<a∨1<b)∧a*b≤10:=fun k hk=>match k,hk with
 |0,_=>⟨3,3,rfl,by decide⟩
 |1,_=>⟨2,5,rfl,by decide⟩
 |2,_=>⟨5,2,rfl,by decide⟩
 |3,_=>⟨3,3,rfl,by decide⟩
 |4,_=>⟨2,2,rfl,by decide⟩
 |5,_=>⟨3,2,rfl,by decide⟩
 |6,_=>⟨2,3,rfl,by decide⟩
 |7,_=>⟨4,2,rfl,by decide⟩
 |8,_=>⟨1,4,rfl,by decide⟩
 |9,_=>⟨5,1,rfl,by decide⟩
 |10,_=>⟨2,4,rfl,by decide⟩
 |11,_=>⟨3,3,rfl,by decide⟩
 |k+12,h=>absurd h (by lia)
theorem four{v1 v2 v3 v4:Int}{k:Int}:∃v:Int,atI [V.int v1,V.int v2,V.int v3,V.int v4] (k%4)=some (.int v):=by
 have h1:0≤k%4:=Xv _ (by decide);have h2:k%4<4:=Xw _ (by decide);obtain⟨n,hn⟩:=Xx h1;rw[hn]at h2 ⊢
 match n,h2 with
 |0,_=>exact⟨_,rfl⟩
 |1,_=>exact⟨_,rfl⟩
 |2,_=>exact⟨_,rfl⟩
 |3,_=>exact⟨_,rfl⟩
 |n+4,h=>exact absurd h (by omega)
structure GB(f:Int)(l:List Pt):Prop where
 two:2≤l.length
 most:l.length≤36
 rct:Rct l
 sml:∀p∈l,(-(33*f)≤p.1∧p.1≤33*f)∧-(33*f)≤p.2∧p.2≤33*f
def DrB(H:Hp)(da:Addr)(sp:List Pt)(ll:List (List Pt)):Prop:=∃(pa la:Addr),H da=some (.tup [.ref pa,.ref la])∧TsI H pa sp∧LsI H la ll
theorem DrB.same{H H':Hp}{da:Addr}{sp:List Pt}{ll:List (List Pt)}(h:DrB H da sp ll)(g:aO H H'):DrB H' da sp ll:=let⟨pa,la,h1,h2,h3⟩:=h;⟨pa,la,g _ _ h1,h2.same g,h3.same g⟩
structure GD(f:Int)(sp:List Pt)(ll:List (List Pt)):Prop where
 s1:1≤sp.length
 s10:sp.length≤10
 l1:1≤ll.length
 l20:ll.length≤20
 g:∀l∈ll,GB f l
 s:∀p∈sp,(-(33*f)≤p.1∧p.1≤33*f)∧-(33*f)≤p.2∧p.2≤33*f
def M8(K:PySem.W.Frag):Sp:=fun vs H Q _=>∃(sa:Addr) (ns:List Int) (st far:Int),vs=[.ref sa,.int st,.int far]∧SqL K H sa (ns.map V.int)∧0≤st∧0<far ∧
 ∀(r wa da:Addr) (n:Nat) (ts:AW.Ts) (os:AW.Os) (sp:List Pt) (ll:List (List Pt)) (H':Hp),aO H H'→H' r=some (.tup [.ref wa,.ref da])→ET H' wa (n:Int) ts os→AW.MP n ts os→n≤10→ts.length≤20→DrB H' da sp ll→GD far sp ll→sp.length=n→ll.length=ts.length→Q (.ref r) H'
theorem KG(T:Txt K mg t):cU P w K mg base CX0 4 t.zN t.zB ["_law_script","_law_start","_law_far"] (M8 K):=by
 refine T.yW.F.ok u7 (fun vs H Q E h=>?_) (fun cdv A outer s H vs Q E hr h=>?_)
 ·obtain⟨sa,ns,st,far,rfl,_⟩:=h;rfl
 obtain⟨sa,ns,st,far,rfl,hS,h0,hf,q⟩:=h;have nd:=u7.nd;have nd_l_row_l_xs_l_ys:(["_law_row","_law_xs","_law_ys"]:List Str).Nodup:=by decide
 have nd_l_x_l_y_l_xs_l_ys:(["_law_x","_law_y","_law_xs","_law_ys"]:List Str).Nodup:=by decide
 refine' ⟨_,?hp,?hq⟩
 case hp =>
  refine' aG ?a ?b
  case a=>exact(aZ 3 nd (bP (fY T) hr T.eO bK (aA (bP (oY T) hr T.iQ bK (aA (pv 0) (aA (pv 1) aC))) (aA aE aC))))
  case b =>
   refine' aG ?a2 ?b2
   case a2 =>
    refine' vI (i:=4) ?n1 ?n2 ?n3 ?n4
    case n1=>exact nd
    case n2=>exact rfl
    case n3=>exact Or.inl rfl
    case n4 =>
     refine' RA ?p
     case p=>exact(.cons (.cons (.cons (.cons (.cons (.cons (.cons (.cons (.cons (.cons (.cons (.cons .nil))))))))))))
   case b2=>exact(aG (aZ 5 nd (aQ aT (pv 4) (aM cJ (pv 3) aE) (fun _ _=>rfl)))
  (aG (aZ 6 nd (bP (fY T) hr T.eO bK (aA (bP (oY T) hr T.iQ bK (aA (pv 0) (aA (aM bM (pv 1) aE) aC))) (aA aE aC))))
  (aG (aZ 7 nd (bP (fY T) hr T.eO bK (aA (bP (oY T) hr T.iQ bK (aA (pv 0) (aA (aM bM (pv 1) aE) aC))) (aA aE aC))))
  (aG (aZ 8 nd (bP (KA T) hr T.yT bK (aA (pv 5) (aA (aQ aT (bI (aA (pv 6) (aA (aM J2 (pv 6) (pv 7)) (aA (aM J2 (aM J2 (pv 6) (pv 7)) (aM c8 (pv 6) aE)) (aA (pv 6) aC))))) (aM cJ (aM c8 (pv 3) aE) aE) (fun _ _=>rfl)) aC))))
  (aG (aZ 8 nd (bP (RG T) hr T.qM bK (aA (pv 8) (aA (aQ aT (pv 8) (aM cJ (aM c8 (pv 3) aE) (aW aV rfl T.cP PySem.boot_len (aA (pv 8) aC))) (fun _ _=>rfl)) aC))))
  (aG (aZ 9 nd (bP (G8 T) hr T.wN bK (aA (pv 8) (aA (bP (fY T) hr T.eO bK (aA (bP (oY T) hr T.iQ bK (aA (pv 0) (aA (aM bM (pv 1) aE) aC))) (aA aE aC))) aC))))
  (aG (aZ 10 nd (bP (N4 T) hr T.CI bK (aA (pv 8) (aA (pv 9) (aA (bP (fY T) hr T.eO bK (aA (bP (oY T) hr T.iQ bK (aA (pv 0) (aA (aM bM (pv 1) aE) aC))) (aA aE aC))) aC)))))
  (aG (aZ 11 nd (bP (KF T) hr T.yV bK (aA (pv 8) (aA (pv 9) (aA (pv 10) (aA (bP (fY T) hr T.eO bK (aA (bP (oY T) hr T.iQ bK (aA (pv 0) (aA (aM bM (pv 1) aE) aC))) (aA aE aC))) aC))))))
  (aG (aZ 12 nd (bP (yP T) hr T.pL bK (aA (aQ bW (pv 5) aE (fun _ _=>rfl)) (aA (bP (fY T) hr T.eO bK (aA (bP (oY T) hr T.iQ bK (aA (pv 0) (aA (aM bM (pv 1) aE) aC))) (aA aE aC))) (aA (pv 2) aC)))))
  (aG (aZ 13 nd (bP (yP T) hr T.pL bK (aA (aQ bW (pv 5) aE (fun _ _=>rfl)) (aA (bP (fY T) hr T.eO bK (aA (bP (oY T) hr T.iQ bK (aA (pv 0) (aA (aM bM (pv 1) aE) aC))) (aA aE aC))) (aA (pv 2) aC)))))
  (aL (a8 (cS (aA (pv 11) (aA (cS (aA (eN (N':=["_law_x","_law_y","_law_xs","_law_ys"]) (js:=[none,none,some 12,some 13]) rfl (cD (pv 9)) (fun _ _ _ _ _=>(qH (K:=K) (n:=2) rfl rfl (b8 (aX (i:=0) nd_l_x_l_y_l_xs_l_ys rfl (Or.inl rfl)) (b8 (aX (i:=1) nd_l_x_l_y_l_xs_l_ys rfl (Or.inl rfl)) e7)))) (fun _ _ _ _ _=>fX) (fun _ _ _ _ _=>(cS (aA (aQ (eP (K:=K) rfl) (pv 2) (pv 0) (fun _ _=>rfl)) (aA (aQ (eP (K:=K) rfl) (pv 3) (pv 1) (fun _ _=>rfl)) aC))))) (aA (eN (N':=["_law_row","_law_xs","_law_ys"]) (js:=[none,some 12,some 13]) rfl (cD (pv 10)) (fun _ _ _ _ _=>(aX (i:=0) nd_l_row_l_xs_l_ys rfl (Or.inl rfl))) (fun _ _ _ _ _=>fX) (fun _ _ _ _ _=>(bP (N7 T) hr T.CK bK (aA (pv 0) (aA (pv 1) (aA (pv 2) aC)))))) aC))) aC)))))))))))))))
 refine⟨_,rfl,_,(cF rfl sa ns _ rfl ⟨ hS,h0,fun c0=>(a9 c0 _ rfl (by decide) (by decide) (fun m0 p0 _=>?_))⟩)⟩
 try dsimp only[bT]
 refine NS (by decide) fun zl H1 g1 hz=>?_;have hz:TsI H1 zl S9:=hz;obtain⟨zr,z1,z2,z3⟩:=id hz;obtain⟨k,hk,ek⟩:∃k:Nat,k<12∧m0%12=(k:Int):=⟨(m0%12).toNat,by lia,by lia⟩
 obtain⟨a,b,ab,ha,hb,ha5,hb5,hab,hab10⟩:=MY k hk;obtain⟨zs,zs1,zs2⟩:=z3 k _ ab
 try dsimp only[bT]
 refine zX (σ':=[some (.ref sa),some (.int st),some (.int far),some (.int m0),some (.ref zl),none,none,none,none,none,none,none,none,none]) rfl ?_;refine⟨_,rfl,(aJ _ rfl _ _ rfl ⟨ rfl,(by show(0:Int)<12;decide),(aI zl _ _ (.ref zs) rfl ⟨ rfl,SqL.of z1,(by show atI _ (m0%12)=_;rw[ek];exact cE (by rw[Zk,zs1];rfl)),?_⟩)⟩)⟩;refine⟨_,rfl,(aJ _ rfl _ _ rfl (cF rfl sa ns _ rfl ⟨ g1.seq hS,by lia,fun c1=>(a9 c1 _ rfl (by decide) (by decide) (fun bits _ _=>?_))⟩))⟩;refine⟨_,rfl,(aJ _ rfl _ _ rfl (cF rfl sa ns _ rfl ⟨ g1.seq hS,by lia,fun c2=>(a9 c2 _ rfl (by decide) (by decide) (fun more _ _=>?_))⟩))⟩
 try dsimp only[bT]
 refine zX (σ':=[some (.ref sa),some (.int st),some (.int far),some (.int m0),some (.ref zl),some (.ref zs),some (.int bits),some (.int more),none,none,none,none,none,none]) rfl ?_;refine⟨_,(bJ rfl _ rfl _ rfl (aJ _ rfl _ _ rfl (bJ rfl _ rfl _ rfl ⟨ _,(bE _ rfl rfl _ rfl (a9 _ _ rfl rfl ⟨by decide,by decide⟩ ⟨ _,(bE _ rfl rfl _ rfl ⟨ (by show 4≤ZW;decide),fun l hl=>?_⟩)⟩))⟩)))⟩;obtain⟨v,hv⟩:=four (v1:=bits) (v2:=Builtin.bitOr bits more) (v3:=Builtin.bitOr (Builtin.bitOr bits more) (bits / 7)) (v4:=bits) (k:=m0 / 12);have k2:=aH hl (.lst [V.int bits,V.int (Builtin.bitOr bits more),V.int (Builtin.bitOr (Builtin.bitOr bits more) (bits / 7)),V.int bits]);refine(aJ _ rfl _ _ rfl (aN rfl ⟨by decide,by decide⟩ _ _ rfl ⟨ rfl,(by show(0:Int)<4;decide),(aI l _ _ _ rfl ⟨ rfl,SqL.of aB,hv,?_⟩)⟩));refine(aI zs a b v rfl (bF (k2 _ _ zs2) ha hb ha5 hb5 ⟨ hab,fun S0 S H2 g2 hS0 Sne S60 Sok=>?_⟩));have zs3:=g2 _ _ (k2 _ _ zs2);have g02:=g1.trans (k2.trans g2);clear k2 zs2 hv hl z1 z3 g1 hz;obtain⟨sr,s1,s2,s3⟩:=id hS0;have sl:((sr.map V.ref).length:Int)=(S.length:Int):=by rw[Zq,s2]
 have sp:0<S.length:=List.length_pos_iff.mpr Sne;have hm:0≤m0 / 48%(S.length:Int)∧m0 / 48%(S.length:Int)<(S.length:Int):=⟨Xv _ (by lia),Xw _ (by lia)⟩
 obtain⟨j,hj⟩:=Xx hm.1;have hj2:j<S.length:=by rw[hj]at hm;lia
 obtain⟨fa,f1,f2⟩:=s3 j _ (GR.aK hj2)
 try dsimp only[bT]
 refine zX (σ':=[some (.ref sa),some (.int st),some (.int far),some (.int m0),some (.ref zl),some (.ref zs),some (.int bits),some (.int more),some (.ref S0),none,none,none,none,none]) rfl ?_;refine⟨_,(bJ rfl _ rfl _ rfl (a9 _ _ rfl rfl ⟨by decide,by decide⟩ (aJ _ rfl S0 _ rfl (bN (.inl (SqL.of s1)) _ _ rfl rfl ⟨ (by rw[sl];lia),(aI S0 _ _ (.ref fa) rfl ⟨ rfl,SqL.of s1,(by show atI _ (m0 / 48%(((sr.map V.ref).length:Nat):Int))=_;rw[sl,hj];exact cE (by rw[Zk,f1];rfl)),?_⟩)⟩))))⟩;refine(dB S0 fa S (S[j].1) (S[j].2) (bF rfl hS0 f2 (Zp hj2) S60 (fun S1 S' H3 g3 hS1 sub mem whl S60'=>?_)));have zs4:=g3 _ _ zs3;have g03:=g02.trans g3;have Sok':∀s∈S',IB a b s:=fun s hs=>Sok s (sub s hs);have adom:∀p q,Adj S' p q→p∈dom a b:=fun p q h=>h.elim (fun z=>uH (Sok' _ z).2.1) (fun z=>uH (Sok' _ z).2.2);have dl:(dom a b).length≤10:=by rw[OX];exact hab10
 clear s1 s2 s3 sl f1 f2 zs3 g02 hm hj hS0
 try dsimp only[bT]
 refine zX (σ':=[some (.ref sa),some (.int st),some (.int far),some (.int m0),some (.ref zl),some (.ref zs),some (.int bits),some (.int more),some (.ref S1),none,none,none,none,none]) rfl ?_;refine⟨_,(bJ rfl _ rfl _ rfl ⟨ _,_,rfl,(cF rfl sa ns _ rfl ⟨ g03.seq hS,by lia,fun c3=>(a9 c3 _ rfl (by decide) (by decide) (fun m2 _ _=>?_))⟩)⟩)⟩;refine(aI S1 m2 S' (dom a b) rfl (bF hS1 (fun p q h=>(Sok' _ h).1) (List.ne_nil_of_mem mem) S60' (fun s hs=>⟨uH (Sok' s hs).2.1,uH (Sok' s hs).2.2⟩) ⟨ dl,fun P0 Pl H4 g4 hP pls Pne P10 Pdom=>?_⟩));have g04:=g03.trans g4;have hS2:=hS1.same g4;have zs5:=g4 _ _ zs4
 try dsimp only[bT]
 refine zX (σ':=[some (.ref sa),some (.int st),some (.int far),some (.int m0),some (.ref zl),some (.ref zs),some (.int bits),some (.int more),some (.ref S1),some (.ref P0),none,none,none,none]) rfl ?_;refine⟨_,(bJ rfl _ rfl _ rfl (aJ _ rfl _ _ rfl (cF rfl sa ns _ rfl ⟨ g04.seq hS,by lia,fun c4=>(a9 c4 _ rfl (by decide) (by decide) (fun m3 _ _=>?_))⟩)))⟩;refine(dB S1 P0 m3 S' Pl (lQ (dom a b) rfl hS2 hP pls ⟨ P10,adom,by lia,fun R0 F H5 g5 hF rows F40 F32=>?_⟩));have g05:=g04.trans g5;have hS3:=hS2.same g5;have hP2:=hP.same g5;have zs6:=g5 _ _ zs5
 try dsimp only[bT]
 refine zX (σ':=[some (.ref sa),some (.int st),some (.int far),some (.int m0),some (.ref zl),some (.ref zs),some (.int bits),some (.int more),some (.ref S1),some (.ref P0),some (.ref R0),none,none,none]) rfl ?_;refine⟨_,(bJ rfl _ rfl _ rfl ⟨ _,rfl,(aJ _ rfl _ _ rfl (cF rfl sa ns _ rfl ⟨ g05.seq hS,by lia,fun c5=>(a9 c5 _ rfl (by decide) (by decide) (fun m4 _ _=>?_))⟩))⟩)⟩;refine(dB S1 P0 R0 m4 S' (a9 Pl F rfl hS3 hP2 ⟨ hF,pls,rows,P10,fun wa os H6 g6 hW ol op=>?_⟩));have g06:=g05.trans g6;have hP3:=hP2.same g6;have hF2:=hF.same g6;have zs7:=g6 _ _ zs6
 try dsimp only[bT]
 refine zX (σ':=[some (.ref sa),some (.int st),some (.int far),some (.int m0),some (.ref zl),some (.ref zs),some (.int bits),some (.int more),some (.ref S1),some (.ref P0),some (.ref R0),some (.ref wa),none,none]) rfl ?_;refine⟨_,rfl,(aI zs _ 0 (vn a) rfl (aU rfl (SqT.of zs7) rfl _ rfl (aJ _ rfl _ _ rfl (cF rfl sa ns _ rfl ⟨ g06.seq hS,by lia,fun c6=>(a9 c6 _ rfl (by decide) (by decide) (fun m5 _ _=>⟨_,(cF rfl a m5 far rfl ⟨ ha,ha5,hf,fun X xs H7 g7 hX lX incX bX=>?_⟩)⟩))⟩))))⟩;have g07:=g06.trans g7
 try dsimp only[bT]
 refine zX (σ':=[some (.ref sa),some (.int st),some (.int far),some (.int m0),some (.ref zl),some (.ref zs),some (.int bits),some (.int more),some (.ref S1),some (.ref P0),some (.ref R0),some (.ref wa),some (.ref X),none]) rfl ?_;refine⟨_,rfl,(aI zs _ 1 (vn b) rfl (aU rfl (SqT.of (g7 _ _ zs7)) rfl _ rfl (aJ _ rfl _ _ rfl (cF rfl sa ns _ rfl ⟨ g07.seq hS,by lia,fun c7=>(a9 c7 _ rfl (by decide) (by decide) (fun m6 _ _=>⟨_,(cF rfl b m6 far rfl ⟨ hb,hb5,hf,fun Y ys H8 g8 hY lY incY bY=>?_⟩)⟩))⟩))))⟩;have g08:=g07.trans g8;have g68:=g7.trans g8;have hX2:=g8 _ _ hX;have hP4:=hP3.same g68;have hF4:=hF2.same g68;have hW4:=hW.same g68;have cols:∀p,Ins a b p→IC xs ys p:=fun p ⟨⟨h1,h2⟩,h3,h4⟩=>⟨⟨h1,by rw[lX];exact h2⟩,h3,by rw[lY];exact h4⟩
 have smp:∀p,IC xs ys p→(-(33*far)≤(pJ xs ys p).1∧(pJ xs ys p).1≤33*far)∧-(33*far)≤(pJ xs ys p).2∧(pJ xs ys p).2≤33*far:=fun p ⟨⟨h1,h2⟩,h3,h4⟩=>by
  have b1:=bX _ (uN (show p.1.toNat<xs.length by lia));have b2:=bY _ (uN (show p.2.toNat<ys.length by lia));exact⟨⟨by show _≤at0 xs p.1.toNat;lia,by show at0 xs p.1.toNat≤_;lia⟩,by show _≤at0 ys p.2.toNat;lia,by show at0 ys p.2.toNat≤_;lia⟩
 clear hX g7 g8 g07 g68 hP hP2 hP3 hF hF2 hW zs4 zs5 zs6 zs7 hS1 hS2 hS3 g3 g4 g5 g6 g03 g04 g05 g06;obtain⟨pr,p1,p2,p3⟩:=id hP4;refine⟨_,(bJ rfl _ rfl P0 rfl ⟨ ⟨_,SqL.of p1⟩,fun D hD=>?_⟩)⟩;refine j6 Pl.length (fun i o=>o=.tup [.int (pJ xs ys (Pl.getD i (0,0))).1,.int (pJ xs ys (Pl.getD i (0,0))).2]) hD (by lia) (fun i H' hi g=>⟨_,.ref (pr[i]'(by lia)),SqL.of (g _ _ p1),by rw[Zk,Zz (by lia)];rfl⟩) (fun H' g=>⟨_,SqL.of (g _ _ p1),by rw[Zq,p2];exact Nat.le_refl _⟩) ?_ ?_
 ·rintro i H' x H'' k hi g ⟨rfl,hx⟩ hk;have hx:=hx _ (SqL.of (g _ _ p1));obtain⟨pa,a1,a2⟩:=p3 i _ (GR.aK hi);rw[Zk,a1]at hx;cases hx;have gd:Pl.getD i (0,0)=Pl[i]:=getD_some (GR.aK hi);obtain⟨⟨c1,c2⟩,c3,c4⟩:=cols _ (AI (Pdom _ (Zp hi)));refine(a9 pa _ rfl (SqT.of (g _ _ a2)) rfl ⟨ _,(aJ _ rfl _ _ rfl ⟨ rfl,(bJ (((Fills.refl _).set _ rfl).set _ rfl) _ rfl _ rfl (aI X _ _ _ rfl (aU rfl (SqL.of (g _ _ hX2)) (A8 c1 c2) _ rfl ⟨ _,rfl,(aI Y _ _ _ rfl ⟨ rfl,SqL.of (g _ _ hY),A8 c3 c4,(by show 2≤ZW;decide),fun a ha=>hk a _ _ ?_ ha (aH ha _) aB⟩)⟩)))⟩)⟩);rw[gd];rfl
 intro tr H9 l1 pp1 k1 e1;have pts:TsI H9 D (Pl.map (pJ xs ys)):=by
  refine⟨tr,e1,by rw[l1,Zq],fun i p e=>?_⟩;rw[Zk]at e;cases er:Pl[i]? with
  |none=>rw[er]at e;cases e
  |some p' =>
   rw[er]at e;cases e;have hi:i<tr.length:=by rw[l1];exact(Zj.mp er).1
   obtain⟨o,rfl,h⟩:=pp1 i _ (GR.aK hi);refine⟨_,GR.aK hi,?_⟩;rw[getD_some er]at h;exact h
 obtain⟨rr,r1,r2,_,r3⟩:=hF4.same k1;refine(cL _ rfl R0 rfl ⟨_,SqL.of r1⟩ (fun D2 hD2=>?_));refine w6 F.length (fun i H' a=>∃ls:List Pt,TsI H' a ls∧GB far ls) (fun i H H' a g ⟨ls,h1,h2⟩=>⟨ls,h1.same g,h2⟩) (fun i H ys o a h ne ⟨ls,h1,h2⟩=>⟨ls,h1.other' h ne o,h2⟩) hD2 (by lia) (fun i H' hi g=>⟨_,.ref (rr[i]'(by lia)),SqL.of (g _ _ r1),by rw[Zk,Zz (by lia)];rfl⟩) (fun H' g=>⟨_,SqL.of (g _ _ r1),by rw[Zq,r2];exact Nat.le_refl _⟩) ?_ ?_
 ·rintro i H' x H'' k hi g ⟨rfl,hx⟩ hk;have hx:=hx _ (SqL.of (g _ _ r1));obtain⟨ra,a1,a2⟩:=r3 i _ (GR.aK hi);rw[Zk,a1]at hx;cases hx;have hin:F[i]∈F:=Zp hi;have en:=rows.en _ hin;exact(bJ ((Fills.refl _).set _ rfl) _ rfl _ rfl ⟨ _,rfl,(dB ra X Y (F[i]) xs (lQ ys rfl (a2.same g) (g _ _ (k1 _ _ hX2)) (g _ _ (k1 _ _ hY)) (bF (fun p hp=>let⟨q,hq⟩:=en.all hp;cols _ (AI (adom _ _ hq))) (en.t.pth pls.u) incX incY (F32 _ hin) (fun D' H4 g4 n4 ⟨ls,e4,v1,v2,v3,v4⟩=>hk D' H4 ⟨ls,e4,v1,v2,v3,fun p hp=>by
   obtain⟨c,hc,rfl⟩:=v4 p hp;obtain⟨q',hq⟩:=en.all hc;exact smp _ (cols _ (AI (adom _ _ hq)))⟩ n4 g4))))⟩)
 intro tr2 H10 l2 n2 pp2 k2 e2;obtain⟨ll,ll1,ll2⟩:=mL (fun i (l:List Pt)=>∃a,tr2[i]?=some a∧TsI H10 a l∧GB far l) F.length fun i hi=>let⟨ls,h⟩:=pp2 i _ (GR.aK (by lia));⟨ls,_,GR.aK (by lia),h⟩;have hL:LsI H10 D2 ll:=⟨tr2,e2,by lia,fun z=>(n2 _ z).2 rfl,fun i r e=>let⟨a,h1,h2,_⟩:=ll2 i r e;⟨a,h1,h2⟩⟩
 have hL2:∀l∈ll,GB far l:=fun l hl=>by
  obtain⟨i,hi,rfl⟩:=Yg.mp hl;obtain⟨_,_,_,h⟩:=ll2 i _ (GR.aK hi);exact h
 refine⟨(by show 2≤ZW;decide),fun da hda=>⟨(by show 2≤ZW;decide),fun r hr'=>?_⟩⟩;have k3:=aH hda (.tup [.ref D,.ref D2]);have k4:=aH hr' (.tup [.ref wa,.ref da]);have kk:=k1.trans (k2.trans (k3.trans k4));have fw:=few pls rows;have tl:(tsO Pl F).length=F.length:=by unfold tsO;rw[Zq]
 have im:=RX pls rows whl Pne P10 ol op;have tl1:=im.1.2.1;have Pl1:1≤Pl.length:=List.length_pos_iff.mpr Pne;exact q r wa da Pl.length (tsO Pl F) os (Pl.map (pJ xs ys)) ll _ (g08.trans kk) aB (hW4.same kk) im P10 (by lia) ⟨D,D2,k4 _ _ aB,pts.same (k2.trans (k3.trans k4)),hL.same (k3.trans k4)⟩ ⟨by rw[Zq];exact Pl1,by rw[Zq];exact P10,by lia,by lia,hL2,fun p hp=>by
  obtain⟨c,hc,rfl⟩:=Zh.mp hp;exact smp _ (cols _ (AI (Pdom _ hc)))⟩ (by rw[Zq]) (by lia)
end K75
namespace K75
open PySem L2 PyProof.Rows TX GR
def Drw(H:Hp)(da:Addr)(n m:Nat):Prop:=∃(pa la:Addr) (sp:List Pt) (ll:List (List Pt)),H da=some (.tup [.ref pa,.ref la])∧TsI H pa sp∧sp.length=n∧LsI H la ll∧ll.length=m∧∀l∈ll,2≤l.length∧l.length≤36
theorem Drw.same{H H':Hp}{da:Addr}{n m:Nat}(h:Drw H da n m)(g:aO H H'):Drw H' da n m:=let⟨pa,la,sp,ll,h1,h2,h3,h4,h5⟩:=h;⟨pa,la,sp,ll,g _ _ h1,h2.same g,h3,h4.same g,h5⟩
theorem DrB.drw{H:Hp}{da:Addr}{sp:List Pt}{ll:List (List Pt)}{f:Int}(h:DrB H da sp ll)(g:GD f sp ll):Drw H da sp.length ll.length:=let⟨pa,la,h1,h2,h3⟩:=h;⟨pa,la,sp,ll,h1,h2,rfl,h3,rfl,fun l hl=>⟨(g.g l hl).two,(g.g l hl).most⟩⟩
end K75
namespace K75
open PySem L2 PyProof.Rows TX GR
theorem xF{α:Type}{xs:List α}{j:Nat}{k:Int}{v:α}(hk:k=(j:Int))(h:xs[j]?=some v):atI xs k=some v:=by subst hk;exact cE h
def hdg(p q:Pt):Int:=if p.2=q.2 then 2*(if q.1<p.1 then 1 else 0) else 1+2*(if q.2<p.2 then 1 else 0)
def GS:Sp:=fun vs H Q _=>∃(a b:Addr) (p q:Pt),vs=[.ref a,.ref b]∧PtA H a p∧PtA H b q∧Q (.int (hdg p q)) H
theorem vQ(T:Txt K mg t):cU P w K mg base CX0 1 t.tZ t.tR ["_law_here","_law_there"] GS:=by
 refine T.mW.F.ok zY (fun vs H Q E h=>?_) (fun cdv A outer s H vs Q E hr h=>?_)
 ·obtain⟨a,b,p,q,rfl,_⟩:=h;rfl
 obtain⟨a,b,p,r,rfl,ha,hb,q⟩:=h;refine⟨_,(aG (cH (aS dO (aQ bW (pv 0) aE (fun _ _=>rfl)) (aQ bW (pv 1) aE (fun _ _=>rfl)) (bA _)) (aL (a8 (aM cW aE (b9 j9 rfl T.oP boot_int (aA (cZ p9 (aQ bW (pv 1) aE (fun _ _=>rfl)) (aQ bW (pv 0) aE (fun _ _=>rfl)) (bA _)) aC))))) bG)
  (aL (a8 (aM bM aE (aM cW aE (b9 j9 rfl T.oP boot_int (aA (cZ p9 (aQ bW (pv 1) aE (fun _ _=>rfl)) (aQ bW (pv 0) aE (fun _ _=>rfl)) (bA _)) aC))))))),?_⟩
 refine⟨_,rfl,(aI a _ 1 _ rfl (aU rfl (SqT.of ha) rfl _ rfl (aI b _ 1 _ rfl ⟨ rfl,(aU (SqT.of hb) rfl rfl _ rfl (cO (fun c=>?_) (fun c=>?_)))⟩)))⟩
 ·have c:p.2=r.2:=V.int.inj (of_decide_eq_true c);refine⟨_,rfl,(aI b _ 0 _ rfl (aU rfl (SqT.of hb) rfl _ rfl (aI a _ 0 _ rfl ⟨ rfl,(aN (SqT.of ha) rfl _ _ rfl ⟨ rfl,.inr (aJ _ rfl _ _ rfl ⟨ rfl,.inl ⟨by decide,by decide⟩,?_⟩)⟩)⟩)))⟩;have e:hdg p r=2*(if decide (r.1<p.1)=true then 1 else 0):=by unfold hdg;rw[if_pos c];simp
  rw[e]at q;exact q
 ·have c:¬p.2=r.2:=fun z=>c (decide_eq_true (congrArg V.int z));refine⟨_,rfl,(aI b _ 1 _ rfl (aU rfl (SqT.of hb) rfl _ rfl (aI a _ 1 _ rfl ⟨ rfl,(aN (SqT.of ha) rfl _ _ rfl ⟨ rfl,.inr (aJ _ rfl _ _ rfl (aN rfl (.inl ⟨by decide,by decide⟩) _ _ rfl ⟨ rfl,?_⟩))⟩)⟩)))⟩;have e:hdg p r=1+2*(if decide (r.2<p.2)=true then 1 else 0):=by unfold hdg;rw[if_neg c];simp
  rw[e]at q;exact q
theorem TsI.rev{H:Hp}{a:Addr}{ls:List Pt}{tr:List Addr}(h2:tr.length=ls.length)(h3:∀(i:Nat) t,ls[i]?=some t→∃r,tr[i]?=some r∧H r=some (.tup [.int t.1,.int t.2]))(ha:H a=some (.lst (tr.map V.ref).reverse)):TsI H a ls.reverse:=by
 refine⟨tr.reverse,by rw[ha,List.map_reverse],by rw[Yt,Yt,h2],fun i z e=>?_⟩;have hi:i<ls.length:=by have:=(Zj.mp e).1;simpa using this
 rw[Yd hi]at e;obtain⟨r,r1,r2⟩:=h3 _ _ e;exact⟨r,by rw[Yd (by lia),h2];exact r1,r2⟩
theorem T1(e:Int):atI [V.int 1,V.int (-1)] (e%2)=some (.int (if e%2=0 then 1 else -1)):=by
 by_cases h:e%2=0
 ·rw[h];rfl
 ·have:e%2=1:=by lia
  rw[this];rfl
def HV(e:Int)(ls:List Pt):List Pt:=if e%2=0 then ls else ls.reverse
theorem L5(e:Int)(ls:List Pt):(HV e ls).length=ls.length:=by unfold HV;split<;>simp
def M6:Sp:=fun vs H Q _=>∃(da:Addr) (e:Int) (n m:Nat),vs=[.ref da,.int e]∧Drw H da n m∧0≤e∧e<2*m ∧
 ∀(D:Addr) (hs:List Int) (H':Hp),aO H H'→H D=none→H' D=some (.lst (hs.map V.int))→1≤hs.length→hs.length≤35→Q (.ref D) H'
theorem B3(T:Txt K mg t):cU P w K mg base CX0 2 t.zL t.y9 ["_law_drawing","_law_end"] M6:=by
 refine T.sI.F.ok u5 (fun vs H Q E h=>?_) (fun cdv A outer s H vs Q E hr h=>?_)
 ·obtain⟨da,e,n,m,rfl,_⟩:=h;rfl
 obtain⟨da,e,n,m,rfl,hD,e0,e1,q⟩:=h;have nd:=u5.nd;have nd_l_k_l_line_here:(["_law_k","_law_line_here"]:List Str).Nodup:=by decide
 refine⟨_,(aG (aZ 2 nd (yO (aQ aT (aQ bW (pv 0) aE (fun _ _=>rfl)) (aM c8 (pv 1) aE) (fun _ _=>rfl)) bB bB (bH (aQ aT (bI (aA aE (aA (iH e8 aE) aC))) (aM cJ (pv 1) aE) (fun _ _=>rfl)))))
  (aL (a8 (eN (N':=["_law_k","_law_line_here"]) (js:=[none,some 2]) rfl (dC rfl T.eJ (aA (aM eG (aW aV rfl T.cP PySem.boot_len (aA (pv 2) aC)) aE) aC)) (fun _ _ _ _ _=>(aX (i:=0) nd_l_k_l_line_here rfl (Or.inl rfl))) (fun _ _ _ _ _=>fX) (fun _ _ _ _ _=>(bP (vQ T) hr T.mW bK (aA (aQ (eP (K:=K) rfl) (pv 1) (pv 0) (fun _ _=>rfl)) (aA (aQ (eP (K:=K) rfl) (pv 1) (aM bM (pv 0) aE) (fun _ _=>rfl)) aC)))))))),?_⟩
 obtain⟨pa,la,spts,ll,d1,d2,d3,⟨lr,d4,d5,d6,d7⟩,d8,d9⟩:=hD;obtain⟨k,hk,ek⟩:∃k:Nat,k<ll.length∧e / 2=(k:Int):=⟨(e / 2).toNat,by lia,by lia⟩
 obtain⟨x,x1,x2⟩:=d7 k _ (GR.aK hk);obtain⟨tr,t1,t2,t3⟩:=id x2;have l2:=d9 _ (Zp hk);refine⟨_,rfl,(aI da _ 1 _ rfl (aU rfl (SqT.of d1) rfl _ rfl (a9 _ _ rfl rfl ⟨by decide,by decide⟩ (aI la _ _ (.ref x) rfl (aU rfl (SqL.of d4) (by rw[ek];exact cE (by rw[Zk,x1];rfl)) _ rfl ⟨ (by show 2≤ZW;decide),fun l hl=>?_⟩)))))⟩;have k1:=aH hl (.lst [V.int 1,V.int (-1)]);refine(aJ _ rfl _ _ rfl ⟨ rfl,(by show(0:Int)<2;decide),(aI l _ _ _ rfl (aU rfl (SqL.of aB) (T1 e) _ rfl (cQ x _ _ rfl (SqL.of (k1 _ _ t1)) ⟨ rfl,rfl,rfl,(by by_cases h:e%2=0<;>simp[h]),fun y hy=>?_⟩)))⟩);have k2:=aH hy (.lst (if (if e%2=0 then (1:Int) else -1)=1 then tr.map V.ref else (tr.map V.ref).reverse));have g2:=k1.trans k2;have hY:TsI (upd (upd H l (.lst [V.int 1,V.int (-1)])) y (.lst (if (if e%2=0 then (1:Int) else -1)=1 then tr.map V.ref else (tr.map V.ref).reverse))) y (HV e ll[k]):=by
  by_cases h:e%2=0
  ·unfold HV;rw[if_pos h,if_pos h,if_pos rfl];exact⟨tr,aB,t2,fun i t e=>let⟨r,r1,r2⟩:=t3 i t e;⟨r,r1,by rw[if_pos h,if_pos rfl]at g2;exact g2 _ _ r2⟩⟩
  ·unfold HV;rw[if_neg h,if_neg h,if_neg (by decide)];exact TsI.rev t2 (fun i t e=>let⟨r,r1,r2⟩:=t3 i t e;⟨r,r1,by rw[if_neg h,if_neg (by decide)]at g2;exact g2 _ _ r2⟩) aB
 generalize upd (upd H l (.lst [V.int 1,V.int (-1)])) y (.lst (if (if e%2=0 then (1:Int) else -1)=1 then tr.map V.ref else (tr.map V.ref).reverse))=H2 at g2 hY ⊢;clear k1 k2;have ly:=L5 e ll[k];generalize HV e ll[k]=ls at hY ly;obtain⟨yr,y1,y2,y3⟩:=id hY;have yl:(((yr.map V.ref).length:Nat):Int)=(ls.length:Int):=by rw[Zq,y2]
 refine(aJ _ rfl y _ rfl (bN (.inl (SqL.of y1)) _ _ rfl rfl ⟨ (ls.length:Int)-1,by rw[yl],by lia,by lia,fun D hD=>?_⟩));refine wZ (ls.length-1) (fun i v=>∃z:Int,v=.int z) hD (by lia) (fun i H' hi g=>?_) (fun H' g=>?_) ?_ ?_
 ·show i<((ls.length:Int)-1).toNat
  lia
 ·show((ls.length:Int)-1).toNat≤ls.length-1
  lia
 ·rintro i H' z H'' kk hi g ⟨rfl,rfl⟩ hk';obtain⟨ra,a1,a2⟩:=y3 i _ (GR.aK (by lia));obtain⟨rb,b1,b2⟩:=y3 (i+1) _ (GR.aK (by lia));refine(bJ ((Fills.refl _).set _ rfl) _ rfl _ rfl (aI y _ _ (.ref ra) rfl (aU rfl (SqL.of (g _ _ y1)) ?_ _ rfl (aJ _ rfl _ _ rfl ⟨ rfl,(aI y _ _ (.ref rb) rfl ⟨ rfl,SqL.of (g _ _ y1),?_,(aI ra rb _ _ rfl ⟨ g _ _ a2,g _ _ b2,hk' _ _ ⟨_,rfl⟩ (aO.refl _)⟩)⟩)⟩))))
  ·exact xF (j:=i) (by lia) (by rw[Zk,a1];rfl)
  ·exact xF (j:=i+1) (by lia) (by rw[Zk,b1];rfl)
 ·intro vs H' hlv hP g eD;obtain⟨hs,rfl,_⟩:=BS hP;rw[Zq]at hlv;exact q D hs H' (g2.trans g) (g2.free hD) eD (by lia) (by lia)
structure Ch(N:Nat)(os:AW.Os):Prop where
 all:∀e:Int,0≤e→e<2*N→∃o∈os,e∈o
 inn:∀o∈os,∀e∈o,0≤e∧e<2*N
theorem UR{m:Int}{ts:AW.Ts}{os:AW.Os}(h:AW.MP m ts os):Ch ts.length os:=by
 obtain⟨h1,h2,h3,h4,h5⟩:=h;refine⟨fun e e0 e1=>?_,fun o ho e he=>?_⟩
 ·have hp:=AW.Q8 h2 e0 e1;have hl:(AW.plc ts e.toNat).toNat<os.length:=by lia
  refine⟨os[(AW.plc ts e.toNat).toNat],Zp hl,?_⟩;have:=(h4 _ _ (GR.aK hl)).2;exact this.mem_iff.mpr (AW.vV.mpr ⟨⟨e0,e1⟩,by lia⟩)
 ·obtain⟨i,hi,rfl⟩:=Yg.mp ho;exact(AW.vV.mp ((h4 _ _ (GR.aK hi)).2.mem_iff.mp he)).1
theorem B5:∀{o:List Int},(∀e∈o,0≤e)→∃ns:List Nat,o=ns.map fun n:Nat=>(n:Int)
 |[],_=>⟨[],rfl⟩
 |a::o,h=>by
  obtain⟨ns,rfl⟩:=B5 fun e he=>h e (Zw _ he);exact⟨a.toNat::ns,by rw[List.map_cons];congr 1;have:=h a Zd;lia⟩
def QT:Sp:=fun vs H Q _=>∃(ca:Addr) (e n:Int) (ts:AW.Ts) (os:AW.Os),vs=[.ref ca,.int e]∧ET H ca n ts os∧Ch ts.length os∧os.length≤20∧0≤e∧e<2*ts.length ∧
 ∀(r:Int) (H':Hp),aO H H'→0≤r→r<2*ts.length→Q (.int r) H'
theorem N5(T:Txt K mg t):cU P w K mg base CX0 1 t.DJ t.CV ["_law_chart_here","_law_end"] QT:=by
 refine T.CJ.F.ok yA (fun vs H Q E h=>?_) (fun cdv A outer s H vs Q E hr h=>?_)
 ·obtain⟨ca,e,n,ts,os,rfl,_⟩:=h;rfl
 obtain⟨ca,e,n,ts,os,rfl,hW,hC,o20,e0,e1,q⟩:=h;have nd:=yA.nd;have nd_l_some_l_other:(["_law_some","_law_other"]:List Str).Nodup:=by decide
 refine⟨_,(aG (aZ 2 nd (aM eG (aM bM (pv 1) aE) (aM cW (aM cJ (pv 1) aE) aE)))
  (aG (aZ 3 nd (aQ aT (eN (N':=["_law_some","_law_other"]) (js:=[none,some 2]) rfl (cD (aQ bW (pv 0) aE (fun _ _=>rfl))) (fun _ _ _ _ _=>(aX (i:=0) nd_l_some_l_other rfl (Or.inl rfl))) (fun _ _ _ _ _=>(rW (aS (K4 (K:=K) rfl) (pv 1) (pv 0) rfl))) (fun _ _ _ _ _=>(pv 0))) aE (fun _ _=>rfl)))
  (aL (a8 (aQ aT (pv 3) (aM eG (lI PySem.F.plainAttrs_list PySem.F.slot_list_index PySem.F.type_list_index KO (pv 3) (aA (pv 2) aC)) aE) (fun _ _=>rfl)))))),?_⟩
 obtain⟨tA,oA,w1,_,⟨orr,o1,o2,o3⟩⟩:=id hW;refine(aJ _ rfl _ _ rfl ⟨ rfl,(aJ _ rfl _ _ rfl (aN rfl (by show(0:Int)<2;decide) _ _ rfl (aN rfl (.inl ?_) _ _ rfl ⟨ rfl,?_⟩)))⟩)
 ·have:0≤e%2∧e%2<2:=⟨Xv _ (by decide),Xw _ (by decide)⟩
  exact⟨by lia,by lia⟩
 have f0:0≤e+1-e%2*2:=by lia
 have f1:e+1-e%2*2<2*(ts.length:Int):=by lia
 obtain⟨f,hf⟩:∃f:Nat,e+1-e%2*2=(f:Int):=⟨(e+1-e%2*2).toNat,by lia⟩
 show DV _ _ _ [some (.ref ca),some (.int e),some (.int (e+1-e%2*2)),none] H;rw[hf]at f0 f1 ⊢;obtain⟨o0,h0,m0⟩:=hC.all f f0 f1;refine⟨_,rfl,(aI ca _ 2 _ rfl (aU rfl (SqT.of w1) rfl oA rfl ⟨ ⟨_,SqL.of o1⟩,fun D hD=>?_⟩))⟩
 let Pv1:Nat→List L2.V→L2.Hp→Prop:=fun i ys H'=>aO H H'∧H' D=some (.lst ys)∧ys.length≤i∧(∀v∈ys,∃(a:Addr) (o:List Int),v=.ref a∧o∈os∧(f:Int)∈o∧H a=some (.lst (o.map V.int)))∧((∃o∈os.take i,(f:Int)∈o)→ys≠[])
 refine uK os.length Pv1 ⟨aH hD _,aB,by simp,fun v hv=>by simp at hv,fun ⟨o,ho,_⟩=>by simp at ho⟩ ?_ ?_
 ·rintro i ys H' hi ⟨g,eD,ly,hy,hn⟩;refine⟨⟨_,_,SqL.of (g _ _ o1),by rw[Zk,GR.aK (by lia:i<orr.length)];rfl⟩,?_⟩;rintro x H2 ⟨rfl,hx⟩;obtain⟨o,r,e1,rfl,e2⟩:=OsI.nth o2 o3 (hx _ (SqL.of (g _ _ o1)));have hm:o∈os:=Zg e1;refine(bJ ((Fills.refl _).set _ rfl) _ rfl _ rfl (a9 r _ rfl (.inl (SqL.of (g _ _ e2))) rfl ⟨ HR _,_,rfl,?_⟩));show if (inV (.int (f:Int)) (o.map V.int))=true then _ else _
  rw[LG];refine cO (fun c=>(lQ _ rfl eD (Xq (by lia:ys.length≤20) (by decide)) (g.fresh hD _) ⟨ aB,by simp;lia,fun v hv=>?_,fun _=>by simp⟩)) (fun c=>⟨g,eD,by lia,hy,fun ⟨o',ho',hf'⟩=>hn ?_⟩)
  ·rcases Zf.mp hv with z | z
   ·exact hy v z
   ·exact(a9 r o (Zb.mp z) hm (of_decide_eq_true c) e2)
  ·rw[List.take_add_one,e1]at ho';rcases Zf.mp ho' with z | z
   ·exact⟨o',z,hf'⟩
   ·have:o'=o:=by simpa using z
    subst this;exact absurd (decide_eq_true hf') c
 ·rintro ys H' ⟨g,eD,ly,hy,hn⟩;refine⟨⟨_,SqL.of (g _ _ o1),by rw[Zq,o2];exact Nat.le_refl _⟩,?_⟩;have ne:=hn ⟨o0,by rw[Yw];exact h0,m0⟩
  match ys,ne,hy,eD with
  |v::ys,_,hy,eD =>
  obtain⟨a,o,rfl,ho,hfo,ha⟩:=hy v Zd;obtain⟨ns,rfl⟩:=B5 fun e he=>(hC.inn o ho e he).1;have hfn:f∈ns:=by
   obtain⟨n',h1,h2⟩:=Zh.mp hfo;have:n'=f:=by lia
   exact this▸h1
  have ha':H' a=some (.lst (vns ns)):=by rw[IM];exact g _ _ ha
  have pm:((MM.vK ns f:Nat):Int)∈ns.map fun n:Nat=>(n:Int):=Zh.mpr ⟨_,MM.D7 hfn,rfl⟩;have pb:=hC.inn _ ho _ pm;refine(aI D _ 0 (.ref a) rfl ⟨ rfl,SqL.of eD,xF (j:=0) rfl rfl,?_⟩);exact(cL _ rfl _ rfl (.inl ⟨rfl,_,SqL.of ha'⟩) ⟨ _,(cF rfl a ns f rfl ⟨ rfl,(aN ha' hfn _ _ rfl ⟨ rfl,(aI a _ _ _ rfl ⟨ rfl,SqL.of ha',O2 hfn,q _ _ g pb.1 pb.2⟩)⟩)⟩)⟩)
def DC(H:Hp)(ca da:Addr):Prop:=∃(n:Nat) (ts:AW.Ts) (os:AW.Os),ET H ca n ts os∧Ch ts.length os∧os.length≤20∧1≤ts.length∧ts.length≤20∧Drw H da n ts.length
def SpI(H:Hp)(r:Addr)(cs ls:List Int):Prop:=∃cA lA:Addr,H r=some (.tup [.ref cA,.ref lA])∧H cA=some (.lst (cs.map V.int))∧H lA=some (.lst (ls.map V.int))
theorem SpI.same{H H':Hp}{r:Addr}{cs ls:List Int}(h:SpI H r cs ls)(g:aO H H'):SpI H' r cs ls:=let⟨a,b,h1,h2,h3⟩:=h;⟨a,b,g _ _ h1,g _ _ h2,g _ _ h3⟩
def SpN(H H':Hp)(r:Addr)(cs ls:List Int):Prop:=∃cA lA:Addr,H cA=none∧H lA=none∧H' r=some (.tup [.ref cA,.ref lA])∧H' cA=some (.lst (cs.map V.int))∧H' lA=some (.lst (ls.map V.int))
structure Shp(k:Nat)(cs ls:List Int):Prop where
 cl:cs.length=2*k
 ll:ls.length=2*k
 k1:1≤k
 k20:k≤20
 c:∀c∈cs,1≤c∧c≤4
 l:∀l∈ls,0≤l∧l≤34
def M1:Sp:=fun vs H Q _=>∃(ca da:Addr),vs=[.ref ca,.ref da]∧DC H ca da∧∀(r:Addr) (k:Nat) (cs ls:List Int) (H':Hp),aO H H'→SpN H H' r cs ls→Shp k cs ls→Q (.ref r) H'
theorem KB(T:Txt K mg t):cU P w K mg base CX0 3 t.zJ t.y0 ["_law_chart_here","_law_drawing"] M1:=by
 refine T.yU.F.ok u0 (fun vs H Q E h=>?_) (fun cdv A outer s H vs Q E hr h=>?_)
 ·obtain⟨ca,da,rfl,_⟩:=h;rfl
 obtain⟨ca,da,rfl,⟨n,ts,os,hW,hC,o20,t1,t20,hDr⟩,q⟩:=h;have nd:=u0.nd;have nd_l_k_l_heads_here:(["_law_k","_law_heads_here"]:List Str).Nodup:=by decide
 refine⟨_,(aG (aZ 2 nd (bI aC))
  (aG (aZ 3 nd (bI aC))
  (aG (cR PassesOwn.never rfl (dC rfl T.eJ (aA (aM cW aE (aW aV rfl T.cP PySem.boot_len (aA (aQ bW (pv 0) aE (fun _ _=>rfl)) aC))) aC)) (aX (i:=4) nd rfl (Or.inl rfl)) (aG (aZ 5 nd (bP (B3 T) hr T.sI bK (aA (pv 1) (aA (pv 4) aC))))
  (aG (aZ 6 nd (aQ aT (bP (B3 T) hr T.sI bK (aA (pv 1) (aA (bP (N5 T) hr T.CJ bK (aA (pv 0) (aA (pv 4) aC))) aC))) aE (fun _ _=>rfl)))
  (aG (bQ (dE mAp bR (pv 2) (aA (aM bM (aM cJ (aM eG (aM eG (aM bM (aQ aT (pv 5) (iH e8 aE) (fun _ _=>rfl)) aE) (pv 6)) aE) aE) aE) aC)))
  (aL (bQ (dE mAp bR (pv 3) (aA (aW aV rfl T.cP PySem.boot_len (aA (eN (N':=["_law_k","_law_heads_here"]) (js:=[none,some 5]) rfl (yM rfl T.eJ (aA aE (aA (aW aV rfl T.cP PySem.boot_len (aA (pv 5) aC)) aC))) (fun _ _ _ _ _=>(aX (i:=0) nd_l_k_l_heads_here rfl (Or.inl rfl))) (fun _ _ _ _ _=>(rW (aS dO (aM cJ (aM eG (aQ (eP (K:=K) rfl) (pv 1) (pv 0) (fun _ _=>rfl)) (aQ (eP (K:=K) rfl) (pv 1) (aM eG (pv 0) aE) (fun _ _=>rfl))) aE) aE (bA _)))) (fun _ _ _ _ _=>(pv 0))) aC)) aC))))))))
  (aL (a8 (cS (aA (pv 2) (aA (pv 3) aC)))))))),?_⟩
 obtain⟨tA,oA,w1,⟨tr,w2,w3,w4⟩,_⟩:=id hW;refine⟨(by show 0≤ZW;decide),fun C hC'=>?_⟩;have b1:=aH hC' (.lst []);refine⟨(by show 0≤ZW;decide),fun L hL=>?_⟩;have b2:=aH hL (.lst []);have b12:=b1.trans b2;have CL:C≠L:=fun z=>by rw[←z,aB]at hL;cases hL
 have tl:(((tr.map V.ref).length:Nat):Int)=(ts.length:Int):=by rw[Zq,w3]
 refine⟨_,rfl,(aI ca _ 1 _ rfl ⟨ rfl,(aN (SqT.of (b12 _ _ w1)) rfl tA _ rfl (bN (.inl (SqL.of (b12 _ _ w2))) _ _ rfl rfl (uQ (.inl ⟨by decide,by decide⟩) (2*(ts.length:Int)) (by rw[tl]) (by lia) (by lia) ?_)))⟩)⟩
 let Pv1:Nat→L2.St→L2.Hp→Prop:=fun i σ H'=>(∃v4 v5 v6,σ=[some (.ref ca),some (.ref da),some (.ref C),some (.ref L),v4,v5,v6])∧aO H H'∧∃cs ls:List Int,(H' C=some (.lst (cs.map V.int))∧H' L=some (.lst (ls.map V.int)))∧(cs.length=i∧ls.length=i)∧(∀c∈cs,1≤c∧c≤4)∧∀l∈ls,0≤l∧l≤34
 refine dD (lo:=0) (n:=(2*(ts.length:Int)).toNat) Pv1 (aN ⟨_,_,_,rfl⟩ b12 ([]) ([]) ⟨b2 _ _ aB,aB⟩ ⟨ ⟨rfl,rfl⟩,fun c h=>by simp at h,fun c h=>by simp at h⟩) ?_ ?_
 ·rintro i σ H1 hi ⟨⟨v4,v5,v6,rfl⟩,g1,cs,ls,⟨hCs,hLs⟩,⟨lc,ll⟩,bc,bl⟩;refine⟨_,rfl,_,rfl,(aI da _ n ts.length rfl ⟨ hDr.same g1,by lia,by lia,fun D hs H2 g2 nD eD h1 h35=>?_⟩)⟩;refine⟨_,(bJ rfl _ rfl _ rfl (dB ca _ n ts os (bF rfl (hW.same (g1.trans g2)) hC o20 (by lia) ⟨ by lia,fun r H3 g3 r0 r1=>?_⟩)))⟩;refine(aI da r n ts.length rfl ⟨ hDr.same (g1.trans (g2.trans g3)),r0,r1,fun D2 hs2 H4 g4 _ eD2 h1' _=>?_⟩);have g24:=g2.trans (g3.trans g4);have eD4:=(g3.trans g4) _ _ eD;refine(aI D2 _ 0 (.int (at0 hs2 0)) rfl ⟨ rfl,SqL.of eD2,gT (by lia) rfl,?_⟩);clear eD2 g3 g4;have ae:atI (hs.map V.int) (-1)=some (.int (hs[hs.length-1]'(by lia))):=xE (k:=1) (by decide) (by rw[Zq];lia) (by rw[Zq,Zk,GR.aK (by lia)];rfl);refine(bE _ rfl (.inl ⟨rfl,_,SqL.of (g24 _ _ hCs)⟩) _ rfl ⟨ _,rfl,(aI D _ _ _ rfl ⟨ rfl,(aN (SqL.of eD4) ae _ _ rfl ⟨ rfl,(aJ _ rfl _ _ rfl (bN rfl _ _ rfl rfl (a9 _ _ rfl rfl (by show(0:Int)<4;decide) ⟨ _,_,rfl,(cF rfl C _ _ rfl ⟨ rfl,g24 _ _ hCs,Xq (by rw[Zq];lia:_≤100) (by decide),?_⟩)⟩)))⟩)⟩)⟩);have zb:1≤((hs[hs.length-1]+2-at0 hs2 0-1)%4+1)∧((hs[hs.length-1]+2-at0 hs2 0-1)%4+1)≤4:=by
   have:=Xv (hs[hs.length-1]+2-at0 hs2 0-1) (show(4:Int)≠0 by decide);have:=Xw (hs[hs.length-1]+2-at0 hs2 0-1) (show(0:Int)<4 by decide)
   lia
  have eC5:upd H4 C (.lst (cs.map V.int++[.int ((hs[hs.length-1]+2-at0 hs2 0-1)%4+1)])) C=some (.lst ((cs++[((hs[hs.length-1]+2-at0 hs2 0-1)%4+1)]).map V.int)):=by rw[aB,Zt];rfl
  have eL5:upd H4 C (.lst (cs.map V.int++[.int ((hs[hs.length-1]+2-at0 hs2 0-1)%4+1)])) L=some (.lst (ls.map V.int)):=by rw[aP (Ne.symm CL)];exact g24 _ _ hLs
  have DC':D≠C:=fun y=>by rw[y,hCs]at nD;cases nD
  have eD5:upd H4 C (.lst (cs.map V.int++[.int ((hs[hs.length-1]+2-at0 hs2 0-1)%4+1)])) D=some (.lst (hs.map V.int)):=by rw[aP DC'];exact eD4
  have g5:aO H (upd H4 C (.lst (cs.map V.int++[.int ((hs[hs.length-1]+2-at0 hs2 0-1)%4+1)]))):=(g1.trans g24).fresh hC' _;generalize upd H4 C (.lst (cs.map V.int++[.int ((hs[hs.length-1]+2-at0 hs2 0-1)%4+1)]))=H5 at eC5 eL5 eD5 g5 ⊢;generalize ((hs[hs.length-1]+2-at0 hs2 0-1)%4+1)=z at eC5 zb;have hl:(((hs.map V.int).length:Nat):Int)=(hs.length:Int):=by rw[Zq]
  refine(bE _ rfl (.inl ⟨rfl,_,SqL.of eL5⟩) _ rfl ⟨ D,_,(aN rfl (.inl (SqL.of eD5)) 1 (hs.length:Int) (by rw[hl]) ⟨ ⟨by lia,by lia,by lia,by lia⟩,fun D3 hD3=>?_⟩)⟩)
  let Pv2:Nat→List L2.V→L2.Hp→Prop:=fun j ys H'=>aO H5 H'∧H' D3=some (.lst ys)∧ys.length≤j
  refine uK ((hs.length:Int)-1).toNat Pv2 ⟨aH hD3 _,aB,by simp⟩ ?_ ?_
  ·rintro j ys H' hj ⟨g,e3,ly⟩;refine⟨hj,?_⟩;rintro x H6 ⟨rfl,rfl⟩;refine(bJ ((Fills.refl _).set _ rfl) _ rfl _ rfl (aI D _ _ _ rfl (aU rfl (SqL.of (g _ _ eD5)) (gT (j:=1+j) (by lia) (by lia)) _ rfl (aJ _ rfl _ _ rfl ⟨ rfl,(aI D _ _ _ rfl ⟨ rfl,(aN (SqL.of (g _ _ eD5)) (gT (j:=j) (by lia) (by lia)) _ _ rfl (bN rfl _ _ rfl rfl ⟨ (by show(0:Int)<4;decide),rfl,_,rfl,cO (fun _=>(lQ _ rfl e3 (Xq (by lia:ys.length≤100) (by decide)) (g.fresh hD3 _) ⟨ aB,by simp;lia⟩)) (fun _=>⟨g,e3,by lia⟩)⟩))⟩)⟩))))
  ·rintro ys H' ⟨g,e3,ly⟩;refine(bN (Nat.le_refl _) D3 ys rfl (.inl (SqL.of e3)) (cQ L _ _ rfl rfl ⟨ g _ _ eL5,Xq (by rw[Zq];lia:_≤100) (by decide),(aN ⟨_,_,_,rfl⟩ ?_ (cs++[z]) (ls++[(ys.length:Int)]) ⟨by rw[aP CL];exact g _ _ eC5,by rw[aB,Zt];rfl⟩ ⟨ ⟨by simp[lc],by simp[ll]⟩,fun c hc=>?_,fun l hl=>?_⟩)⟩))
   ·exact(g5.trans g).fresh (b1.free hL) _
   ·rcases Zf.mp hc with y | y
    ·exact bc c y
    ·rw[Zb.mp y];exact zb
   ·rcases Zf.mp hl with y | y
    ·exact bl l y
    ·rw[Zb.mp y];lia
 ·rintro σ H1 ⟨⟨v4,v5,v6,rfl⟩,g1,cs,ls,⟨hCs,hLs⟩,⟨lc,ll⟩,bc,bl⟩;refine(cL _ rfl _ rfl (by show 2≤ZW;decide) (fun r hr'=>?_));have k:=aH hr' (.tup [.ref C,.ref L]);exact q r ts.length cs ls _ (g1.trans k) (a9 C L hC' (b1.free hL) aB ⟨ k _ _ hCs,k _ _ hLs⟩) ⟨by lia,by lia,t1,t20,bc,bl⟩
end K75
namespace TX
open PySem L2
theorem AX:ZT "turns " = sT (jV++[32]):=by decide +kernel
theorem rep1(n c:Nat):(List.replicate n [c]).flatten=List.replicate n c:=by
 induction n with
 |zero=>rfl
 |succ n ih=>rw[List.replicate_succ,List.flatten_cons,ih];rfl
def wrd(l r:Nat):List Nat:=if l+r=0 then [45] else List.replicate l 108++List.replicate r 114
theorem QB(l r:Nat):List.replicate l 108++List.replicate r 114++List.replicate (if l+r=0 then 1 else 0) 45=wrd l r:=by
 unfold wrd;by_cases h:l+r=0
 ·have h1:l=0:=by lia
  have h2:r=0:=by lia
  subst h1 h2;rfl
 ·rw[if_neg h,if_neg h,List.replicate_zero,List.append_nil]
theorem zQ(l r:Nat):(wrd l r).length≤l+r+1:=by
 unfold wrd;split
 ·simp
 ·simp
theorem IJ{l r c:Nat}(h:c∈wrd l r):c=45∨c=108∨c=114:=by
 unfold wrd at h;split at h
 ·exact .inl (by simpa using h)
 ·rcases Zf.mp h with z | z
  ·exact .inr (.inl (List.eq_of_mem_replicate z))
  ·exact .inr (.inr (List.eq_of_mem_replicate z))
def kM(c d:Int)(w:List Nat):List Nat:=jn 32 [jV,bS c,w,bS d]
def txS(cs:List Int)(W:List (List Nat)):List Nat:=jn 10 ((List.range W.length).map fun i=>kM (at0 cs (2*i)) (at0 cs (2*i+1)) (W.getD i []))
def wds(k:Nat)(ls:List Int):List (List Nat):=(List.range k).map fun i=>wrd (at0 ls (2*i)).toNat (at0 ls (2*i+1)).toNat
theorem pT(k:Nat)(ls:List Int):(wds k ls).length=k:=by unfold wds;simp
theorem zT{k i:Nat}{ls:List Int}(h:i<k):(wds k ls).getD i []=wrd (at0 ls (2*i)).toNat (at0 ls (2*i+1)).toNat:=by
 unfold wds;rw[Zv,Zk,Yv h];rfl
theorem C9{c:Int}(h1:1≤c)(h4:c≤4):∃d,bS c=[d]∧49≤d∧d≤52:=by
 have:c=1∨c=2∨c=3∨c=4:=by lia
 rcases this with rfl | rfl | rfl | rfl
 ·exact⟨49,by decide +kernel,by decide,by decide⟩
 ·exact⟨50,by decide +kernel,by decide,by decide⟩
 ·exact⟨51,by decide +kernel,by decide,by decide⟩
 ·exact⟨52,by decide +kernel,by decide,by decide⟩
theorem BQ{c d:Int}{w:List Nat}(hc:1≤c∧c≤4)(hd:1≤d∧d≤4):(kM c d w).length=w.length+10:=by
 obtain⟨x,hx,_⟩:=C9 hc.1 hc.2;obtain⟨y,hy,_⟩:=C9 hd.1 hd.2;unfold kM;rw[hx,hy];simp[jn,jV]
end TX
namespace K75
open PySem L2 PyProof.Rows TX
def QP:Sp:=fun vs H Q _=>∃l r:Nat,vs=[vn l,vn r]∧l≤100∧r≤100∧Q (vx (wrd l r)) H
theorem N2(T:Txt K mg t):cU P w K mg base CX0 1 t.DI t.CT ["_law_left","_law_right_here"] QP:=by
 refine T.CH.F.ok GX (fun vs H Q E h=>?_) (fun cdv A outer s H vs Q E hr h=>?_)
 ·obtain⟨l,r,rfl,_⟩:=h;rfl
 obtain⟨l,r,rfl,hl,hr',q⟩:=h;refine⟨_,(aL (a8 (aM bO (aM bO (aM iJ aY (pv 0)) (aM iJ aY (pv 1))) (aM iJ aY (b9 j9 rfl T.oP boot_int (aA (cZ dO (aM bM (pv 0) (pv 1)) aE (bA _)) aC)))))),?_⟩;have la:∀n c:Nat,(List.replicate n [c]).flatten.length=n:=fun n c=>by rw[rep1,List.length_replicate]
 refine⟨_,(cF rfl _ ([108]) l rfl ⟨ e_l,(aU rfl (by simp;lia) (by lia) _ rfl (cQ _ ([114]) r rfl e_r ⟨ rfl,(aN (by simp;lia) (by lia) _ _ rfl ⟨ rfl,(bJ (szT (by rw[la,la];lia)) _ rfl _ rfl (a9 _ _ rfl rfl rfl (.inr ⟨_,(cF rfl _ ([45]) (if l+r=0 then 1 else 0) rfl ⟨ sJ,?_,(aN ?_ ?_ _ _ rfl ⟨ rfl,?_,?_⟩)⟩)⟩)))⟩)⟩))⟩)⟩
 ·show V.int (if decide (V.int ((l:Int)+(r:Int))=V.int 0)=true then 1 else 0)=_;by_cases h:l+r=0
  ·rw[if_pos h,if_pos (decide_eq_true (congrArg V.int (by lia)))];rfl
  ·rw[if_neg h,if_neg (fun z=>h (by have:=V.int.inj (of_decide_eq_true z);lia))];rfl
 ·split<;>simp
 ·split<;>simp
 ·rw[bZ];refine szT ?_;rw[Zm,la,la,la];split<;>lia
 ·show Q (.str (sT _++sT _++sT _)) _;rw[bZ,bZ,rep1,rep1,rep1,QB];exact q
def M3:Sp:=fun vs H Q _=>∃(r:Addr) (k:Nat) (cs ls:List Int),vs=[.ref r]∧SpI H r cs ls∧Shp k cs ls∧∀H',aO H H'→Q (vx (txS cs (wds k ls))) H'
theorem qV{k:Nat}{cs ls:List Int}(h:Shp k cs ls){j:Nat}(hj:j<2*k):(1≤at0 cs j∧at0 cs j≤4)∧(at0 cs j).natAbs.log2<1920:=by
 have:=h.c _ (uN (by rw[h.cl];exact hj));exact⟨this,(JE (n:=at0 cs j) ⟨by lia,by lia⟩).2.2.2.2⟩
theorem tU{k:Nat}{cs ls:List Int}(h:Shp k cs ls){j:Nat}(hj:j<2*k):∃a:Nat,at0 ls j=(a:Int)∧a≤34:=by
 have:=h.l _ (uN (by rw[h.ll];exact hj));exact⟨(at0 ls j).toNat,by lia,by lia⟩
theorem QH{k:Nat}{cs ls:List Int}(hS:Shp k cs ls):(((List.range k).map fun j=>kM (at0 cs (2*j)) (at0 cs (2*j+1)) ((wds k ls).getD j [])).map List.length).sum+((List.range k).map fun j=>kM (at0 cs (2*j)) (at0 cs (2*j+1)) ((wds k ls).getD j [])).length≤1000000:=by
 have k20:=hS.k20;rw[Yb,Zq,Yj];have s:=lS (f:=List.length∘fun j=>kM (at0 cs (2*j)) (at0 cs (2*j+1)) ((wds k ls).getD j [])) (B:=100) (l:=List.range k) fun j hj=>by
  have hj:=Zs.mp hj;obtain⟨a,ha,a34⟩:=tU hS (j:=2*j) (by lia);obtain⟨b,hb,b34⟩:=tU hS (j:=2*j+1) (by lia);have wl:=zQ a b;show(kM _ _ _).length≤100;rw[BQ (qV hS (by lia)).1 (qV hS (by lia)).1,zT hj,ha,hb,Int.toNat_natCast,Int.toNat_natCast]
  lia
 rw[Yj]at s
 lia
theorem J9(T:Txt K mg t):cU P w K mg base CX0 2 t.nK t.m9 ["_law_shape_here"] M3:=by
 refine T.mU.F.ok lG (fun vs H Q E h=>?_) (fun cdv A outer s H vs Q E hr h=>?_)
 ·obtain⟨r,k,cs,ls,rfl,_⟩:=h;rfl
 obtain⟨r,k,cs,ls,rfl,⟨cA,lA,h1,h2,h3⟩,hS,q⟩:=h;have nd:=lG.nd;refine⟨_,(aG (D5 (pv 0) (mE rfl (b8 (aX (i:=1) nd rfl (Or.inl rfl)) (b8 (aX (i:=2) nd rfl (Or.inl rfl)) e7))))
  (aG (aZ 3 nd (bI aC))
  (aG (cR PassesOwn.never rfl (dC rfl T.eJ (aA (aM c8 (aW aV rfl T.cP PySem.boot_len (aA (pv 1) aC)) aE) aC)) (aX (i:=4) nd rfl (Or.inl rfl)) (aG (aZ 5 nd (aM bO (aM bO (aM bO aY (b9 dJ rfl T.sS boot_str (aA (aQ aT (pv 1) (aM cW aE (pv 4)) (fun _ _=>rfl)) aC))) aY) (bP (N2 T) hr T.CH bK (aA (aQ aT (pv 2) (aM cW aE (pv 4)) (fun _ _=>rfl)) (aA (aQ aT (pv 2) (aM bM (aM cW aE (pv 4)) aE) (fun _ _=>rfl)) aC)))))
  (aL (bQ (dE mAp bR (pv 3) (aA (aM bO (aM bO (pv 5) aY) (b9 dJ rfl T.sS boot_str (aA (aQ aT (pv 1) (aM bM (aM cW aE (pv 4)) aE) (fun _ _=>rfl)) aC))) aC))))))
  (aL (a8 (dE mJn gG aY (aA (pv 3) aC))))))),?_⟩
 refine(aJ _ rfl r _ rfl (aN (SqT.of h1) rfl _ _ rfl ⟨ _,_,rfl,rfl,?_⟩));refine⟨(by show 0≤ZW;decide),fun D hD=>?_⟩;have b1:=aH hD (.lst []);have cl:(((cs.map V.int).length:Nat):Int) / 2=(k:Int):=by rw[Zq,hS.cl];lia
 refine(aJ _ rfl cA _ rfl (bN (.inl (SqL.of (b1 _ _ h2))) _ _ rfl rfl (uQ ⟨by decide,by decide⟩ (k:Int) (congrArg (fun z=>[V.int z]) cl) (by lia) (by have:=hS.k20;lia) ?_)))
 let Pv1:Nat→L2.St→L2.Hp→Prop:=fun i σ H'=>(∃v4 v5,σ=[some (.ref r),some (.ref cA),some (.ref lA),some (.ref D),v4,v5])∧aO H H'∧H' D=some (.lst (vxs ((List.range i).map fun j=>kM (at0 cs (2*j)) (at0 cs (2*j+1)) ((wds k ls).getD j []))))
 refine dD (lo:=0) (n:=(k:Int).toNat) Pv1 ⟨⟨_,_,rfl⟩,b1,aB⟩ ?_ ?_
 ·rintro i σ H1 hi ⟨⟨v4,v5,rfl⟩,g1,hd⟩;have k20:=hS.k20;have hik:i<k:=by lia
  obtain⟨cb1,cg1⟩:=qV hS (j:=2*i) (by lia);obtain⟨cb2,cg2⟩:=qV hS (j:=2*i+1) (by lia);obtain⟨a,ha,a34⟩:=tU hS (j:=2*i) (by lia);obtain⟨b,hb,b34⟩:=tU hS (j:=2*i+1) (by lia);have wl:=zQ a b;obtain⟨x,hx,_⟩:=C9 cb1.1 cb1.2;obtain⟨y,hy,_⟩:=C9 cb2.1 cb2.2;have eW:(wds k ls).getD i []=wrd a b:=by rw[zT hik,ha,hb,Int.toNat_natCast,Int.toNat_natCast]
  refine⟨_,rfl,(aJ _ rfl _ _ rfl ⟨ rfl,.inl ⟨by decide,by decide⟩,(aI cA _ _ _ rfl (aU rfl (SqL.of (g1 _ _ h2)) (gT (j:=2*i) (by rw[hS.cl];lia) (by lia)) _ rfl (bN cg1 _ _ rfl rfl (bN ?_ _ _ rfl rfl ⟨ ?_,?_⟩))))⟩)⟩
  ·show _+(ZT (toString (at0 cs (2*i)))).length≤ZW;rw[AX,cT,hx];exact szT (by simp[jV])
  ·show(ZT "turns "++ZT (toString (at0 cs (2*i)))).length+_≤ZW;rw[AX,cT,hx,bZ,qO];exact szT (by simp[jV])
  refine⟨_,rfl,(aJ _ rfl _ _ rfl ⟨ rfl,.inl ⟨by decide,by decide⟩,(aI lA _ _ _ rfl (aU rfl (SqL.of (g1 _ _ h3)) (gT (j:=2*i) (by rw[hS.ll];lia) (by lia)) _ rfl (aJ _ rfl _ _ rfl (aN rfl (.inl ⟨by decide,by decide⟩) _ _ rfl ⟨ rfl,(aI lA _ _ _ rfl ⟨ rfl,(aN (SqL.of (g1 _ _ h3)) (gT (j:=2*i+1) (by rw[hS.ll];lia) (by lia)) a b (by rw[ha,hb];rfl) (aN (by lia) (by lia) _ _ rfl ⟨ rfl,?_,?_⟩))⟩)⟩))))⟩)⟩
  ·show(ZT "turns "++ZT (toString (at0 cs (2*i)))++ZT " ").length+_≤ZW;rw[AX,cT,hx,bZ,qO,bZ];exact szT (by simp[jV];lia)
  show bT 5 (V.str (ZT "turns "++ZT (toString (at0 cs (2*i)))++ZT " "++sT (wrd a b))) _ _ _;rw[AX,cT,bZ,qO,bZ,bZ];have el:(jV++[32]++bS (at0 cs (2*i))++[32]++wrd a b).length≤200:=by rw[hx];simp[jV];lia
  have er:jV++[32]++bS (at0 cs (2*i))++[32]++wrd a b++[32]++bS (at0 cs (2*i+1))=kM (at0 cs (2*i)) (at0 cs (2*i+1)) (wrd a b):=by simp[kM,jn]
  refine(bE _ rfl (.inl ⟨rfl,_,SqL.of hd⟩) _ rfl (a9 _ _ rfl rfl ?_ ⟨ _,rfl,(aJ _ rfl _ _ rfl (aN rfl (.inl ⟨by decide,by decide⟩) _ _ rfl ⟨ rfl,(aI cA _ _ _ rfl (aU rfl (SqL.of (g1 _ _ h2)) (gT (j:=2*i+1) (by rw[hS.cl];lia) (by lia)) _ rfl (bN cg2 _ _ rfl rfl (cF ?_ D _ _ rfl (bF rfl hd (Xq (by rw[Zq,Zq,Yj];lia:_≤100) (by decide)) ⟨_,_,rfl⟩ (g1.fresh hD _) ?_)))))⟩))⟩))
  ·exact szT (by simp only[ZQ];lia)
  ·show(sT _++sT [32]).length+(ZT (toString (at0 cs (2*i+1)))).length≤ZW;rw[bZ,cT,hy];exact szT (by simp only[Zm,ZQ]at el ⊢;lia)
  ·rw[aB,List.range_succ,Zt];show some (HO.lst (vxs _++[V.str (sT _++sT [32]++ZT (toString (at0 cs (2*i+1))))]))=_;rw[bZ,cT,bZ,er,vxs,vxs,Zt,List.map_cons,eW];rfl
 ·rintro σ H1 ⟨⟨v4,v5,rfl⟩,g1,hd⟩;rw[Int.toNat_natCast]at hd;have k20:=hS.k20;refine⟨rfl,_,rfl,(aI _ 10 D ((List.range k).map fun j=>kM (at0 cs (2*j)) (at0 cs (2*j+1)) ((wds k ls).getD j [])) rfl ⟨ P5,rfl,SqL.of hd,?_,?_⟩)⟩
  ·exact QH hS
  ·have:=q _ g1;unfold txS at this;rw[pT]at this;exact this
end K75
namespace TX
open PySem L2
structure Wok(cs:List Int)(W:List (List Nat)):Prop where
 k1:1≤W.length
 k20:W.length≤20
 c:∀j,j<2*W.length→1≤at0 cs j∧at0 cs j≤4
 w:∀w∈W,w.length≤100∧∀c∈w,c=45∨c=108∨c=114
theorem NG{c d:Int}{w:List Nat}(hc:1≤c∧c≤4)(hd:1≤d∧d≤4)(hw:∀c∈w,c=45∨c=108∨c=114):sp 32 (kM c d w)=[jV,bS c,w,bS d]:=by
 obtain⟨x,hx,x1,x2⟩:=C9 hc.1 hc.2;obtain⟨y,hy,y1,y2⟩:=C9 hd.1 hd.2;unfold kM;refine x6 (by simp) fun p hp=>?_;simp only[Zn,List.not_mem_nil,or_false]at hp;rcases hp with rfl | rfl | rfl | rfl
 ·decide
 ·rw[hx];simp;lia
 ·intro z;have:=hw _ z;lia
 ·rw[hy];simp;lia
theorem E2{c d:Int}{w:List Nat}(hc:1≤c∧c≤4)(hd:1≤d∧d≤4)(hw:∀c∈w,c=45∨c=108∨c=114){z:Nat}(hz:z∈kM c d w):z≠10∧z<128:=by
 obtain⟨x,hx,x1,x2⟩:=C9 hc.1 hc.2;obtain⟨y,hy,y1,y2⟩:=C9 hd.1 hd.2;unfold kM at hz;rw[hx,hy]at hz;simp only[jn,jV,Zf,Zn,List.not_mem_nil,or_false]at hz;rcases hz with z | z | z | z | z | z | z | z
 all_goals first | lia | (have:=hw _ z;lia)
def iX(cs:List Int)(W:List (List Nat)):List (List Nat):=(List.range W.length).map fun i=>kM (at0 cs (2*i)) (at0 cs (2*i+1)) (W.getD i [])
theorem jR(cs:List Int)(W:List (List Nat)):(iX cs W).length=W.length:=by unfold iX;simp
theorem GZ{cs:List Int}{W:List (List Nat)}{i:Nat}(h:i<W.length):(iX cs W)[i]?=some (kM (at0 cs (2*i)) (at0 cs (2*i+1)) W[i]):=by
 unfold iX;rw[Zk,Yv h,Option.map_some,Zv,Zz h];rfl
theorem rQ{cs:List Int}{W:List (List Nat)}{p:List Nat}(h:p∈iX cs W):∃i,∃hi:i<W.length,p=kM (at0 cs (2*i)) (at0 cs (2*i+1)) W[i]:=by
 obtain⟨i,hi,rfl⟩:=Yg.mp h;rw[jR]at hi;refine⟨i,hi,?_⟩;have:=GZ (cs:=cs) hi;rw[Zz (by rw[jR];exact hi)]at this;exact Option.some.inj this
theorem Wok.sp{cs:List Int}{W:List (List Nat)}(h:Wok cs W):TX.sp 10 (txS cs W)=iX cs W:=by
 have k1:=h.k1;refine x6 (fun z=>?_) fun p hp=>?_
 ·have:=congrArg List.length (show iX cs W=[] from z);rw[jR]at this;have:W.length=0:=this
  lia
 ·obtain⟨i,hi,rfl⟩:=rQ hp;intro z;exact(E2 (h.c _ (by lia)) (h.c _ (by lia)) (h.w _ (Zp hi)).2 z).1 rfl
theorem Wok.rl{cs:List Int}{W:List (List Nat)}(h:Wok cs W){p:List Nat}(hp:p∈iX cs W):p.length≤110:=by
 obtain⟨i,hi,rfl⟩:=rQ hp;rw[BQ (h.c _ (by lia)) (h.c _ (by lia))];have:=(h.w _ (Zp hi)).1
 lia
theorem Wok.sum{cs:List Int}{W:List (List Nat)}(h:Wok cs W):((iX cs W).map List.length).sum+(iX cs W).length≤3000:=by
 have s:=lS (f:=List.length) (B:=110) (l:=iX cs W) fun p hp=>h.rl hp;rw[jR]at s ⊢;have:=h.k20
 lia
theorem Wok.len{cs:List Int}{W:List (List Nat)}(h:Wok cs W):(txS cs W).length≤3000:=by
 have k1:=h.k1;have:=jG 10 (ps:=iX cs W) (fun z=>by have:=congrArg List.length z;rw[jR]at this;have:W.length=0:=this;lia);have:=h.sum;show(jn 10 (iX cs W)).length≤3000
 lia
end TX
namespace K75
open PySem L2 PyProof.Rows TX
theorem zR{k:Nat}{cs ls:List Int}(h:Shp k cs ls):Wok cs (wds k ls):=by
 refine⟨by rw[pT];exact h.k1,by rw[pT];exact h.k20,fun j hj=>(qV h (by rw[pT]at hj;exact hj)).1,fun w hw=>?_⟩;unfold wds at hw;obtain⟨i,hi,rfl⟩:=Zh.mp hw;have hi:=Zs.mp hi;obtain⟨a,ha,a34⟩:=tU h (j:=2*i) (by lia);obtain⟨b,hb,b34⟩:=tU h (j:=2*i+1) (by lia);have wl:=zQ a b;rw[ha,hb,Int.toNat_natCast,Int.toNat_natCast];exact⟨by lia,fun c hc=>IJ hc⟩
end K75
namespace K75
open PySem L2 PyProof.Rows TX GR
def U9:Sp:=fun vs H Q _=>∃(a b:Addr) (p q:Pt),vs=[.ref a,.ref b]∧PtA H a p∧PtA H b q∧Stp p q∧Bg (lnP p q)∧Q (vx (stW p q)) H
theorem RH(T:Txt K mg t):cU P w K mg base CX0 2 t.pB t.o9 ["_law_here","_law_there"] U9:=by
 refine T.o7.F.ok lW (fun vs H Q E h=>?_) (fun cdv A outer s H vs Q E hr h=>?_)
 ·obtain⟨a,b,p,q,rfl,_⟩:=h;rfl
 obtain⟨a,b,p,r,rfl,ha,hb,hs,hg,q⟩:=h;have nd:=lW.nd;refine⟨_,(aG (aZ 2 nd (aM bM (aW DB rfl T.O7 boot_abs (aA (aM eG (aQ bW (pv 1) aE (fun _ _=>rfl)) (aQ bW (pv 0) aE (fun _ _=>rfl))) aC)) (aW DB rfl T.O7 boot_abs (aA (aM eG (aQ bW (pv 1) aE (fun _ _=>rfl)) (aQ bW (pv 0) aE (fun _ _=>rfl))) aC))))
  (aL (a8 (aM bO (aQ wC aY (bP (vQ T) hr T.mW bK (aA (pv 0) (aA (pv 1) aC))) (fun _ _=>rfl)) (b9 dJ rfl T.sS boot_str (aA (pv 2) aC)))))),?_⟩
 have bc:=cY hg;refine⟨_,rfl,(aI b _ 0 _ rfl (aU rfl (SqT.of hb) rfl _ rfl (aI a _ 0 _ rfl ⟨ rfl,(aN (SqT.of ha) rfl _ _ rfl (bJ rfl _ rfl _ rfl (aI b _ 1 _ rfl (aU rfl (SqT.of hb) rfl _ rfl (aI a _ 1 _ rfl ⟨ rfl,(aN (SqT.of ha) rfl _ _ rfl ⟨ rfl,(aJ _ rfl _ _ rfl ⟨ rfl,?_⟩)⟩)⟩)))))⟩)))⟩;refine⟨_,rfl,_,rfl,(aI a b p r rfl ⟨ ha,(cF hb _ _ _ rfl (aU rfl (by rw[LZ,cG];show 4≤ZW;decide) (RO (AS p r)) _ rfl ⟨ _,(aN rfl bc.2.2.2.1 _ _ rfl ⟨ rfl,?_,?_⟩)⟩))⟩)⟩
 ·show(sT [ltr (hdP p r)]).length+(ZT (toString (lnP p r))).length≤ZW;rw[cT];exact szT (by have:=bc.2.1;simp only[ZQ];lia)
 ·show Q (.str (sT [ltr (hdP p r)]++ZT (toString (lnP p r)))) _;rw[cT,bZ];exact q
def VH:Sp:=fun vs H Q _=>∃(d:Addr) (sp:List Pt) (ll:List (List Pt)),vs=[.ref d]∧DrB H d sp ll∧Wdr sp ll∧∀H',aO H H'→Q (vx (txD sp ll)) H'
theorem IZ(p:Pt):cB++[32]++bS p.1++[32]++bS p.2=jn 32 (fA p):=by simp[fA,jn]
theorem map_getD{α:Type}(f:Pt→α)(sp:List Pt):((List.range sp.length).map fun i=>f (g0 sp i))=sp.map f:=by
 refine Ys (by simp) fun i h1 h2=>?_;have hi:i<sp.length:=by simpa using h1
 simp[g0,Zv,Zz hi]
theorem UB(T:Txt K mg t):cU P w K mg base CX0 3 t.kC t.j5 ["_law_drawing"] VH:=by
 refine T.j0.F.ok iW (fun vs H Q E h=>?_) (fun cdv A outer s H vs Q E hr h=>?_)
 ·obtain⟨d,sp,ll,rfl,_⟩:=h;rfl
 obtain⟨d,sp,ll,rfl,⟨pa,la,d1,hP,hL⟩,hW,q⟩:=h;have nd:=iW.nd;have nd_l_x_l_y:(["_law_x","_law_y"]:List Str).Nodup:=by decide
 refine⟨_,(aG (vH (i:=1) nd rfl (Or.inl rfl)  (N':=["_law_x","_law_y"]) (js:=[none,none]) rfl (cD (aQ bW (pv 0) aE (fun _ _=>rfl))) (fun _ _ _ _ _=>(qH (K:=K) (n:=2) rfl rfl (b8 (aX (i:=0) nd_l_x_l_y rfl (Or.inl rfl)) (b8 (aX (i:=1) nd_l_x_l_y rfl (Or.inl rfl)) e7)))) (fun _ _ _ _ _=>fX) (fun _ _ _ _ _=>(aM bO (aM bO (aM bO aY (b9 dJ rfl T.sS boot_str (aA (pv 0) aC))) aY) (b9 dJ rfl T.sS boot_str (aA (pv 1) aC)))))
  (aG (cR PassesOwn.never rfl (cD (aQ bW (pv 0) aE (fun _ _=>rfl))) (aX (i:=2) nd rfl (Or.inl rfl)) (aG (aZ 3 nd (aM bO (aM bO (aM bO aY (b9 dJ rfl T.sS boot_str (aA (aQ bW (aQ aT (pv 2) aE (fun _ _=>rfl)) aE (fun _ _=>rfl)) aC))) aY) (b9 dJ rfl T.sS boot_str (aA (aQ bW (aQ aT (pv 2) aE (fun _ _=>rfl)) aE (fun _ _=>rfl)) aC))))
  (aG (cR PassesOwn.never rfl (dC rfl T.eJ (aA (aM eG (aW aV rfl T.cP PySem.boot_len (aA (pv 2) aC)) aE) aC)) (aX (i:=4) nd rfl (Or.inl rfl)) (aL (aZ 3 nd (aM bO (aM bO (pv 3) aY) (bP (RH T) hr T.o7 bK (aA (aQ aT (pv 2) (pv 4) (fun _ _=>rfl)) (aA (aQ aT (pv 2) (aM bM (pv 4) aE) (fun _ _=>rfl)) aC)))))))
  (aL (bQ (dE mAp bR (pv 1) (aA (pv 3) aC)))))))
  (aL (a8 (dE mJn gG aY (aA (pv 1) aC)))))),?_⟩
 obtain⟨pr,p1,p2,p3⟩:=id hP;obtain⟨lr,l1,l2,l3,l4⟩:=id hL;have s10:=hW.s10;have l20:=hW.l20;refine⟨_,rfl,(aI d _ 0 _ rfl (aU rfl (SqT.of d1) rfl pa rfl ⟨ ⟨_,SqL.of p1⟩,fun D hD=>?_⟩))⟩;refine oM sp.length (fun i=>vx (jn 32 (fA (g0 sp i)))) hD (by lia) (fun i H' hi g=>⟨_,.ref (pr[i]'(by lia)),SqL.of (g _ _ p1),by rw[Zk,Zz (by lia)];rfl⟩) (fun H' g=>⟨_,SqL.of (g _ _ p1),by rw[Zq,p2];exact Nat.le_refl _⟩) ?_ ?_
 ·rintro i H' x H'' k hi g ⟨rfl,hx⟩ hk;have hx:=hx _ (SqL.of (g _ _ p1));obtain⟨ra,a1,a2⟩:=p3 i _ (GR.aK hi);rw[Zk,a1]at hx;cases hx;have hk:=hk _ (aO.refl _);rw[eV (GR.aK hi)]at hk;have b:=(hW.s _ (Zp hi)).bg;generalize sp[i]=p at a2 hk b;have b1:=cY b.1;have b2:=cY b.2;refine(a9 ra _ rfl (SqT.of (g _ _ a2)) rfl ⟨ _,(aJ _ rfl _ _ rfl ⟨ rfl,(bJ (((Fills.refl _).set _ rfl).set _ rfl) _ rfl _ rfl (bN b1.2.2.2.1 _ _ rfl rfl (bN ?_ _ _ rfl rfl (bJ ?_ _ rfl _ rfl (bN b2.2.2.2.1 _ _ rfl rfl ⟨ ?_,?_⟩)))))⟩)⟩)
  ·show _+(ZT (toString p.1)).length≤ZW;rw[uI,cT];exact szT (by have:=b1.2.1;simp[cB];lia)
  ·show(ZT "spot "++ZT (toString p.1)).length+_≤ZW;rw[uI,cT,bZ,qO];exact szT (by have:=b1.2.1;simp[cB];lia)
  ·show(ZT "spot "++ZT (toString p.1)++ZT " ").length+(ZT (toString p.2)).length≤ZW;rw[uI,cT,cT,bZ,qO,bZ];exact szT (by have:=b1.2.1;have:=b2.2.1;simp[cB];lia)
  ·show k (V.str (ZT "spot "++ZT (toString p.1)++ZT " "++ZT (toString p.2))) _;rw[uI,cT,cT,bZ,qO,bZ,bZ,IZ];exact hk
 intro H1 g1 e1;rw[map_getD (fun p=>vx (jn 32 (fA p)))]at e1;have e1':H1 D=some (.lst (vxs (sp.map (jn 32∘fA)++(ll.take 0).map (jn 32∘fC)))):=by rw[e1,List.take_zero,List.map_nil,List.append_nil,vxs,Yb];rfl
 dsimp only[bT];refine⟨_,rfl,(aI d _ 1 _ rfl (aU rfl (SqT.of (g1 _ _ d1)) rfl la rfl ⟨ ⟨_,SqL.of (g1 _ _ l1)⟩,dR (xs:=lr.map V.ref) (fun i σ H'=>(∃v2 v3 v4,σ=[some (.ref d),some (.ref D),v2,v3,v4])∧aO H H'∧H' D=some (.lst (vxs (sp.map (jn 32∘fA)++(ll.take i).map (jn 32∘fC))))) ⟨⟨_,_,_,rfl⟩,g1,e1'⟩ (fun _ _ _ _ ⟨_,g,_⟩=>SqL.of (g _ _ l1)) ?_ ?_⟩))⟩
 ·rintro i x σ H2 hx ⟨⟨v2,v3,v4,rfl⟩,g2,hd⟩;have hi:i<ll.length:=by have:=(Zj.mp hx).1;rw[Zq,l2]at this;exact this
  obtain⟨lx,x1,x2⟩:=l4 i _ (GR.aK hi);rw[Zk,x1]at hx;cases hx;have hWl:=hW.g _ (Zp hi);have tk:ll.take (i+1)=ll.take i++[ll[i]]:=by rw[List.take_add_one,GR.aK hi];rfl
  rw[tk];generalize ll[i]=l at x2 hWl;have two:=hWl.two;have most:=hWl.most;obtain⟨tr,t1,t2,t3⟩:=id (x2.same g2);have atp:∀m,m<l.length→∃a,atI (tr.map V.ref) (m:Int)=some (.ref a)∧PtA H2 a (g0 l m):=fun m hm=>by
   obtain⟨a,a1,a2⟩:=t3 m _ (GR.aK hm);exact⟨a,cE (by rw[Zk,a1];rfl),by rw[eV (GR.aK hm)];exact a2⟩
  obtain⟨a0,c0,c1⟩:=atp 0 (by lia);have b:=(hWl.at (show 0<l.length by lia)).bg;have b1:=cY b.1;have b2:=cY b.2;refine⟨_,rfl,(aI lx _ 0 (.ref a0) rfl ⟨ rfl,SqL.of t1,c0,(aI a0 _ 0 _ rfl (aU rfl (SqT.of c1) rfl _ rfl (bN b1.2.2.2.1 _ _ rfl rfl (bN ?_ _ _ rfl rfl ⟨ ?_,_,rfl,(aI lx _ 0 (.ref a0) rfl ⟨ rfl,SqL.of t1,c0,(aI a0 _ 1 _ rfl (aU rfl (SqT.of c1) rfl _ rfl (bN b2.2.2.2.1 _ _ rfl rfl ⟨ ?_,?_⟩)))⟩)⟩))))⟩)⟩
  ·show _+(ZT (toString (g0 l 0).1)).length≤ZW;rw[uJ,cT];exact szT (by have:=b1.2.1;simp[dA];lia)
  ·show(ZT "line "++ZT (toString (g0 l 0).1)).length+_≤ZW;rw[uJ,cT,bZ,qO];exact szT (by have:=b1.2.1;simp[dA];lia)
  ·show(ZT "line "++ZT (toString (g0 l 0).1)++ZT " ").length+(ZT (toString (g0 l 0).2)).length≤ZW;rw[uJ,cT,cT,bZ,qO,bZ];exact szT (by have:=b1.2.1;have:=b2.2.1;simp[dA];lia)
  show bT 3 (V.str (ZT "line "++ZT (toString (g0 l 0).1)++ZT " "++ZT (toString (g0 l 0).2))) _ _ _;rw[uJ,cT,cT,bZ,qO,bZ,bZ];have e0:dA++[32]++bS (g0 l 0).1++[32]++bS (g0 l 0).2=jn 32 (iK l 0):=by simp[iK,rE,jn]
  rw[e0];dsimp only[bT];refine zX (σ':=[some (.ref d),some (.ref D),some (.ref lx),some (vx (jn 32 (iK l 0))),v4]) rfl ?_;have tl:(((tr.map V.ref).length:Nat):Int)=(l.length:Int):=by rw[Zq,t2]
  refine t7 (fun σ' H'=>H'=H2∧∃v4,σ'=[some (.ref d),some (.ref D),some (.ref lx),some (vx (jn 32 (fC l))),v4]) (fun N n1=>?_) ?_
  ·refine(aJ _ rfl lx _ rfl (bN (.inl (SqL.of t1)) _ _ rfl rfl ⟨ (l.length:Int)-1,by rw[tl],by lia,by lia,dD (lo:=0) (n:=((l.length:Int)-1).toNat) (fun k σ' H'=>H'=H2∧∃v4,σ'=[some (.ref d),some (.ref D),some (.ref lx),some (vx (jn 32 (iK l k))),v4]) ⟨rfl,_,rfl⟩ ?_ ?_⟩))
   ·rintro k σ H3 hk ⟨rfl,v4,rfl⟩;obtain⟨a,a1,a2⟩:=atp k (by lia);obtain⟨a',a3,a4⟩:=atp (k+1) (by lia);have wk:=hWl.word (k:=k) (by lia);have js:=PY 32 (ws:=iK l k) fun w hw=>(wk w hw).1;rw[sE]at js;have lg:=(hWl.ln (show k+1<l.length by lia)).1;have sl:=IX lg;refine(aJ _ rfl _ _ rfl ⟨ rfl,(bJ (szT (by simp only[ZQ];lia)) _ rfl _ rfl (aI lx _ _ (.ref a) rfl (aU rfl (SqL.of t1) (by rw[Int.zero_add];exact a1) _ rfl (aJ _ rfl _ _ rfl ⟨ rfl,(aI lx _ _ (.ref a') rfl ⟨ rfl,SqL.of t1,(by rw[Int.zero_add];exact a3),(aI a a' _ _ rfl ⟨ a2,a4,(aN (hWl.st (by lia)) lg _ _ rfl ⟨ rfl,?_,rfl,some (.int (0+(k:Int))),?_⟩)⟩)⟩)⟩))))⟩)
    ·rw[bZ];exact szT (by simp only[Zm,ZQ];lia)
    ·show[some (V.ref d),some (V.ref D),some (V.ref lx),some (V.str (sT (jn 32 (iK l k))++sT [32]++sT (stW (g0 l k) (g0 l (k+1))))),some (V.int (0+(k:Int)))]=_;rw[bZ,bZ,ED,Yf];rfl
   ·rintro σ H3 ⟨rfl,v4,rfl⟩;refine n1 _ _ ⟨rfl,v4,?_⟩;rw[show((l.length:Int)-1).toNat=l.length-1 by lia];rfl
  rintro σ' H3 ⟨rfl,v4,rfl⟩;refine(bE _ rfl (.inl ⟨rfl,_,SqL.of hd⟩) _ rfl (cQ D _ _ rfl rfl ⟨ hd,Xq (by simp;lia:_≤100) (by decide),⟨_,_,_,rfl⟩,g2.fresh hD _,?_⟩));rw[aB,Zt,←Yf,vxs,vxs,Zt (l₂:=[l].map (jn 32∘fC))];rfl
 ·rintro σ H2 ⟨⟨v2,v3,v4,rfl⟩,g2,hd⟩;rw[Zq,l2,Yw]at hd;have er:sp.map (jn 32∘fA)++ll.map (jn 32∘fC)=(eK sp ll).map (jn 32):=by unfold eK;rw[Zt,Yb,Yb]
  rw[er]at hd;exact⟨rfl,_,rfl,(aI _ 10 D ((eK sp ll).map (jn 32)) rfl ⟨ P5,rfl,SqL.of hd,YQ hW.sum (by decide),q _ g2⟩)⟩
end K75
namespace TX
open PySem L2 GR
theorem uL{c:Int}(h1:1≤c)(h4:c≤4):Cn (bS c)=true∧cv (bS c)=c:=by
 have:c=1∨c=2∨c=3∨c=4:=by lia
 rcases this with rfl | rfl | rfl | rfl<;>exact⟨by decide +kernel,by decide +kernel⟩
theorem IL(a b:Nat):rdT (wrd a b)=some ((a:Int),(b:Int)):=by
 unfold wrd rdT;by_cases h:a+b=0
 ·have ha:a=0:=by lia
  have hb:b=0:=by lia
  subst ha;subst hb;rfl
 ·rw[if_neg h];have c1:(List.replicate a 108++List.replicate b 114).count 108=a:=by rw[List.count_append,List.count_replicate_self,List.count_replicate];simp
  have c2:(List.replicate a 108++List.replicate b 114).count 114=b:=by rw[List.count_append,List.count_replicate_self,List.count_replicate];simp
  rw[c1,c2,if_neg,if_pos]
  ·refine⟨fun z=>?_,by simp⟩;have:=congrArg List.length z;simp at this
   lia
  ·intro z;have h0:45∈List.replicate a 108++List.replicate b 114:=by rw[z];simp
   rcases Zf.mp h0 with y | y
   ·exact absurd (List.eq_of_mem_replicate y) (by decide)
   ·exact absurd (List.eq_of_mem_replicate y) (by decide)
theorem BF{cs:List Int}{n:Nat}(h:2*n+2≤cs.length):cs.take (2*(n+1))=cs.take (2*n)++[at0 cs (2*n),at0 cs (2*n+1)]:=by
 have e:2*(n+1)=2*n+1+1:=by lia
 have g:∀{j},j<cs.length→cs[j]?=some (at0 cs j):=fun {j} hj=>by unfold at0;rw[Zv,Zz hj];rfl
 rw[e,List.take_add_one,List.take_add_one,g (by lia),g (by lia),Yf];rfl
end TX
namespace K75
open PySem L2 PyProof.Rows TX GR
theorem BL{k:Nat}{cs ls:List Int}(h:Shp k cs ls):∀n,n≤k→fK ((List.range n).map fun i=>[jV,bS (at0 cs (2*i)),wrd (at0 ls (2*i)).toNat (at0 ls (2*i+1)).toNat,bS (at0 cs (2*i+1))])=some (cs.take (2*n),ls.take (2*n))
 |0,_=>rfl
 |n+1,hn=>by
  have cl:=h.cl;have ll:=h.ll;rw[List.range_succ,Zt,List.map_cons,List.map_nil,kN,BL h n (by lia),BF (by lia),BF (by lia)];obtain⟨⟨a1,a2⟩,_⟩:=qV h (j:=2*n) (by lia);obtain⟨⟨b1,b2⟩,_⟩:=qV h (j:=2*n+1) (by lia);obtain⟨x,hx,_⟩:=tU h (j:=2*n) (by lia);obtain⟨y,hy,_⟩:=tU h (j:=2*n+1) (by lia);have e:rd1 [jV,bS (at0 cs (2*n)),wrd (at0 ls (2*n)).toNat (at0 ls (2*n+1)).toNat,bS (at0 cs (2*n+1))]=some ([at0 cs (2*n),at0 cs (2*n+1)],[at0 ls (2*n),at0 ls (2*n+1)]):=by
   unfold rd1;rw[if_pos ⟨rfl,rfl,(uL a1 a2).1,(uL b1 b2).1⟩];show(rdT (wrd _ _)).map (fun p=>([cv (bS (at0 cs (2*n))),cv (bS (at0 cs (2*n+1)))],[p.1,p.2]))=_;rw[IL,(uL a1 a2).2,(uL b1 b2).2,hx,hy];rfl
  rw[e];rfl
theorem DY{k:Nat}{cs ls:List Int}(h:Shp k cs ls):fK (TX.rows (txS cs (wds k ls)))=some (cs,ls):=by
 have W:=zR h;have e:TX.rows (txS cs (wds k ls))=(List.range k).map fun i=>[jV,bS (at0 cs (2*i)),wrd (at0 ls (2*i)).toNat (at0 ls (2*i+1)).toNat,bS (at0 cs (2*i+1))]:=by
  unfold TX.rows;rw[W.sp];unfold iX;rw[Yb,pT];refine Yp fun i hi=>?_;have hi:=Zs.mp hi;show TX.sp 32 (kM _ _ _)=_;rw[zT hi,NG (qV h (by lia)).1 (qV h (by lia)).1 fun c hc=>IJ hc]
 rw[e,BL h k (Nat.le_refl k),List.take_of_length_le (by rw[h.cl];exact Nat.le_refl _),List.take_of_length_le (by rw[h.ll];exact Nat.le_refl _)]
theorem GU{k:Nat}{cs ls:List Int}(h:Shp k cs ls):∀c∈txS cs (wds k ls),c<128:=fun c hc=>by
 have W:=zR h;rcases sD hc with z | ⟨p,hp,h2⟩
 ·lia
 ·obtain⟨i,hi,rfl⟩:=rQ (cs:=cs) (W:=wds k ls) hp;exact(E2 (W.c _ (by lia)) (W.c _ (by lia)) (W.w _ (Zp hi)).2 h2).2
end K75
namespace K75
open PySem L2 PyProof.Rows TX GR
def Lb:Nat→Nat
 |0=>4200
 |n+1=>2*Lb n+46
def EZ(K:PySem.W.Frag)(b:Bool):Sp:=fun vs H Q _=>∃(z:Str) (l:List Nat),vs=[.str z]∧z=sT l∧Asc l∧l.length≤19000∧∀v H',aO H H'→Due K H' v (rdX b (rows l))→Q v H'
theorem HU{vs:List V}{H:Hp}{Q:VK}{E:XK}(h:EZ K false vs H Q E):PJ vs H Q E:=by
 obtain⟨z,l,h1,h2,h3,h4,q⟩:=h;refine⟨z,l,h1,h2,h3,h4,fun cs ls hs r C L H' g e1 hC hL=>q _ _ g ?_,fun hn H' g=>q _ _ g ?_⟩
 ·have e:rdX false (rows l)=some (dSp cs ls):=by unfold rdX;rw[if_neg (by decide),hs];rfl
  rw[e];exact⟨r,rfl,fun H'' g'=>I0 (g' _ _ e1) (g' _ _ hC) (g' _ _ hL)⟩
 ·have e:rdX false (rows l)=none:=by unfold rdX;rw[if_neg (by decide),hn];rfl
  rw[e];rfl
theorem L3{vs:List V}{H:Hp}{Q:VK}{E:XK}(h:EZ K true vs H Q E):PK vs H Q E:=by
 obtain⟨z,l,h1,h2,h3,h4,q⟩:=h;refine⟨z,l,h1,h2,h3,h4,fun sp ll hs r pa la H' g e1 hP hL=>q _ _ g ?_,fun hn H' g=>q _ _ g ?_⟩
 ·have e:rdX true (rows l)=some (dDr sp ll):=by unfold rdX;rw[if_pos rfl,hs];rfl
  rw[e];exact⟨r,rfl,fun H'' g'=>L4 (g' _ _ e1) (hP.same g') (let⟨rr,r1,r2,r3⟩:=hL;⟨rr,g' _ _ r1,r2,fun i r e=>let⟨x,x1,x2⟩:=r3 i r e;⟨x,x1,x2.same g'⟩⟩)⟩
 ·have e:rdX true (rows l)=none:=by unfold rdX;rw[if_pos rfl,hn];rfl
  rw[e];rfl
def EY(K:PySem.W.Frag):Sp:=fun vs H Q _=>∃(a:Addr) (ns:List Int),vs=[.ref a]∧SqL K H a (ns.map V.int)∧ns.length≤63∧∀H',Q (.bl true) H'
theorem RK(T:Txt K mg t):cU P w K mg base CX0 lawK t.P8 t.P6 ["_law_script"] (EY K):=by
 have xO:=(RI (P:=P) (w:=w) (base:=base) T).imp (sp':=EZ K false) fun _ _ _ _ h=>HU h;have sQ:=(RJ (P:=P) (w:=w) (base:=base) T).imp (sp':=EZ K true) fun _ _ _ _ h=>L3 h;refine T.UQ.F.ok JF (fun vs H Q E h=>?_) (fun cdv A outer s H vs Q E hr h=>?_)
 ·obtain⟨a,ns,rfl,_⟩:=h;rfl
 obtain⟨a,ns,rfl,hS,_,q⟩:=h;have nd:=JF.nd;refine⟨_,(aG (D5 (bP (KG T) hr T.yW bK (aA (pv 0) (aA aE (aA aE aC)))) (mE rfl (b8 (aX (i:=1) nd rfl (Or.inl rfl)) (b8 (aX (i:=2) nd rfl (Or.inl rfl)) e7))))
  (aG (aZ 3 nd (bP (KB T) hr T.yU bK (aA (pv 1) (aA (pv 2) aC))))
  (aG (aZ 4 nd (bP (J9 T) hr T.mU bK (aA (pv 3) aC)))
  (aG (aZ 5 nd (bP (UB T) hr T.j0 bK (aA (pv 2) aC)))
  (aG (cR PassesOwn.never rfl (dC rfl T.eJ (aA aE aC)) (aX (i:=6) nd rfl (Or.inl rfl)) (aG (aZ 7 nd (bP (oY T) hr T.iQ bK (aA (pv 0) (aA (aM bM aE (aM cW aE (pv 6))) aC))))
  (aG (aZ 8 nd (bP (oY T) hr T.iQ bK (aA (pv 0) (aA (aM bM aE (aM cW aE (pv 6))) aC))))
  (aG (aZ 9 nd (pv 4))
  (aG (aZ 10 nd (pv 5))
  (aL (cR PassesOwn.never rfl (dC rfl T.eJ (aA aE aC)) (aX (i:=11) nd rfl (Or.inl rfl)) (aG (aZ 9 nd (bP (FE T) hr T.wO bK (aA (pv 9) (aA (bP (fY T) hr T.eO bK (aA (pv 7) (aA (pv 11) aC))) (aA (bP (fY T) hr T.eO bK (aA (pv 8) (aA (pv 11) aC))) aC)))))
  (aG (aZ 10 nd (bP (FE T) hr T.wO bK (aA (pv 10) (aA (bP (fY T) hr T.eO bK (aA (pv 8) (aA (pv 11) aC))) (aA (bP (fY T) hr T.eO bK (aA (pv 7) (aA (pv 11) aC))) aC)))))
  (aG (cH (rS (gL (bP (qA T) hr T.jY bK (aA (pv 9) (aA (bP xO hr T.mV bK (aA (pv 9) aC)) (aA tH aC)))) (fun _=>rfl))) (aL (a8 tH)) bG)
  (aL (cH (rS (gL (bP (qA T) hr T.jY bK (aA (pv 10) (aA (bP sQ hr T.jZ bK (aA (pv 10) aC)) (aA tH aC)))) (fun _=>rfl))) (aL (a8 tH)) bG))))))))))))
  (aL (a8 (vN (bP (qA T) hr T.jY bK (aA (pv 4) (aA (pv 3) (aA tH aC)))) (rX (bP (qA T) hr T.jY bK (aA (pv 5) (aA (pv 2) (aA tH aC))))))))))))),?_⟩
 refine⟨_,rfl,(aI a ns 0 1 rfl ⟨ hS,by decide,by decide,fun r wa da n ts os sp ll H1 g1 e1 hW hM n10 t20 hB hG sn lt=>?_⟩)⟩;have dc:DC H1 wa da:=(cQ n ts os hW (UR hM) ⟨ by have:=hM.2.2.1;lia,hM.1.2.1,t20,by have:=hB.drw hG;rw[sn,lt]at this;exact this⟩)
 have near:∀p:Pt,((-(33*1)≤p.1∧p.1≤33*1)∧-(33*1)≤p.2∧p.2≤33*1)→Nr p:=fun p h=>h;have sml:∀p:Pt,Nr p→Sml p:=fun p h=>⟨⟨by have:=h.1.1;lia,by have:=h.1.2;lia⟩,by have:=h.2.1;lia,by have:=h.2.2;lia⟩
 have wd:Wdr sp ll:=⟨hG.s1,hG.s10,hG.l1,hG.l20,fun l hl=>⟨(hG.g l hl).two,(hG.g l hl).most,(hG.g l hl).rct,fun p hp=>sml p ((hG.g l hl).sml p hp)⟩,fun p hp=>sml p (hG.s p hp)⟩
 have few:=wd.few (fun p hp=>hG.s p hp) fun l hl p hp=>(hG.g l hl).sml p hp;have back:=wd.back;have ascd:=wd.asc;refine(a9 r _ rfl (SqT.of e1) rfl ⟨ _,(aJ _ rfl _ _ rfl ⟨ rfl,?_⟩)⟩);refine⟨_,rfl,(aJ _ rfl wa da rfl ⟨ dc,fun sr k cs ls H2 g2 ⟨cA,lA,_,_,z1,z2,z3⟩ hSh=>?_⟩)⟩;have sW:=zR hSh;have sback:=DY hSh;have sasc:=GU hSh;have slen:=sW.len;refine⟨_,rfl,(aI sr k cs ls rfl ⟨ ⟨cA,lA,z1,z2,z3⟩,hSh,fun H3 g3=>?_⟩)⟩;refine⟨_,(cF rfl da sp ll rfl ⟨ hB.same (g2.trans g3),wd,fun H4 g4=>?_⟩)⟩;have g34:=g3.trans g4;have g14:=g2.trans g34;have g04:=g1.trans g14;generalize txS cs (wds k ls)=one at sback sasc slen;generalize txD sp ll=other at few back ascd;have o1:TF 4200 one:=⟨sasc,by lia⟩
 have o2:TF 4200 other:=⟨ascd,few⟩
 have fin:∀H',aO H4 H'→DrB H' da sp ll∧SpI H' sr cs ls:=fun H' g=>⟨hB.same (g14.trans g),(SpI.same ⟨cA,lA,z1,z2,z3⟩ g34).same g⟩
 have hS4:=g04.seq hS;clear hW hM dc z1 z2 z3 e1 g1 g2 g3 g4 g34 g14
 let Pv1:Nat→L2.St→L2.Hp→Prop:=fun i σ H'=>(∃v6 v7 v8 v9 v10 v11,σ=[some (.ref a),some (.ref wa),some (.ref da),some (.ref sr),some (vx one),some (vx other),v6,v7,v8,v9,v10,v11])∧aO H4 H'
 refine⟨6,rfl,by decide,by decide,dD (lo:=0) (n:=6) Pv1 ⟨(dB _ _ _ _ _ ⟨ _,rfl⟩),aO.refl _⟩ ?_ ?_⟩
 ·rintro i σ H5 hi ⟨⟨v6,v7,v8,v9,v10,v11,rfl⟩,g5⟩;refine⟨_,rfl,(aJ _ rfl _ _ rfl (aN rfl (.inl ⟨by decide,by lia⟩) _ _ rfl (cF rfl a ns _ rfl ⟨ g5.seq hS4,by lia,fun num=>?_⟩)))⟩;refine⟨_,rfl,(aJ _ rfl _ _ rfl (aN rfl (.inl ⟨by decide,by lia⟩) _ _ rfl (cF rfl a ns _ rfl ⟨ g5.seq hS4,by lia,fun cell=>?_⟩)))⟩;refine⟨_,rfl,?_⟩;refine⟨_,rfl,?_⟩
  let Pv2:Nat→L2.St→L2.Hp→Prop:=fun j σ H'=>(∃(l1 l2:List Nat) (v11:Option V),σ=[some (.ref a),some (.ref wa),some (.ref da),some (.ref sr),some (vx one),some (vx other),some (.int (0+(i:Int))),some (.int num),some (.int cell),some (vx l1),some (vx l2),v11]∧TF (Lb j) l1∧TF (Lb j) l2)∧aO H4 H'
  refine⟨2,rfl,by decide,by decide,dD (lo:=0) (n:=2) Pv2 ⟨(cQ one other _ rfl o1 o2),g5⟩ ?_ ?_⟩
  ·rintro j σ H6 hj ⟨⟨l1,l2,v11,rfl,t1,t2⟩,g6⟩;have lb:Lb j≤9000∧2*Lb j+46≤19000:=by
    match j,hj with
    |0,_=>decide
    |1,_=>decide
   refine⟨_,(bJ rfl _ rfl _ rfl (a9 num _ rfl (by lia) (by lia) (fun m1 _ _=>⟨_,rfl,(aJ _ rfl cell _ rfl ⟨ by lia,by lia,fun m2 _ _=>?_⟩)⟩)))⟩;refine(dB _ l1 m1 m2 (Lb j) ⟨ rfl,rfl,t1,lb.1,fun l1' H7 g7 t1'=>?_⟩);refine⟨_,(bJ rfl _ rfl _ rfl (a9 cell _ rfl (by lia) (by lia) (fun m3 _ _=>⟨_,rfl,(aJ _ rfl num _ rfl ⟨ by lia,by lia,fun m4 _ _=>?_⟩)⟩)))⟩;refine(dB _ l2 m3 m4 (Lb j) ⟨ rfl,rfl,t2,lb.1,fun l2' H8 g8 t2'=>?_⟩);have n1:l1'.length≤19000:=YQ t1'.n lb.2;have n2:l2'.length≤19000:=YQ t2'.n lb.2;refine⟨_,rfl,(aJ _ rfl _ l1' rfl ⟨ rfl,t1'.a,n1,fun d1 H9 g9 due1=>?_⟩)⟩;refine(aI _ l1' d1 false rfl ⟨ rfl,t1'.a,n1,due1,fun HA gA=>⟨_,rfl,jC (by rfl) ?_⟩⟩);refine⟨_,rfl,(aJ _ rfl _ l2' rfl ⟨ rfl,t2'.a,n2,fun d2 HB gB due2=>?_⟩)⟩;refine(aI _ l2' d2 true rfl ⟨ rfl,t2'.a,n2,due2,fun HC gC=>⟨_,rfl,jC (by rfl) ?_⟩⟩);exact⟨(cQ l1' l2' _ rfl t1' t2'),g6.trans (g7.trans (g8.trans (g9.trans (gA.trans (gB.trans gC)))))⟩
  ·rintro σ H6 ⟨⟨l1,l2,v11,rfl,_⟩,g6⟩;exact⟨(dB _ _ _ _ _ ⟨ _,rfl⟩),g6⟩
 ·rintro σ H5 ⟨⟨v6,v7,v8,v9,v10,v11,rfl⟩,g5⟩;refine⟨_,rfl,_,rfl,(aI _ one (.ref sr) false rfl ⟨ rfl,o1.a,by have:=o1.n;lia,?_,fun H6 g6=>⟨true,rfl,fR ?_⟩⟩)⟩
  ·have e:rdX false (rows one)=some (dSp cs ls):=by unfold rdX;rw[if_neg (by decide),sback];rfl
   rw[e];exact⟨sr,rfl,fun H' g=>let⟨_,_,h1,h2,h3⟩:=(fin H' (g5.trans g)).2;I0 h1 h2 h3⟩
  ·refine⟨_,rfl,_,rfl,(aI _ other (.ref da) true rfl ⟨ rfl,o2.a,by have:=o2.n;lia,?_,fun H7 g7=>q _⟩)⟩;have e:rdX true (rows other)=some (dDr sp ll):=by unfold rdX;rw[if_pos rfl,back];rfl
   rw[e];exact⟨da,rfl,fun H' g=>let⟨_,_,h1,h2,⟨rr,r1,r2,_,r3⟩⟩:=(fin H' (g5.trans (g6.trans g))).1;L4 h1 h2 ⟨rr,r1,r2,r3⟩⟩
end K75
namespace PySem.W.Fast
def tw2976035214307700811:Nat:=0
def tw10219336618690995789:Nat:=0
def tw9349493573178251730:Nat:=0
def tw18009784094756508847:Nat:=0
def tw12496797481270470909:Nat:=0
def tw13710577730817603579:Nat:=0
def tw3407589411920414961:Nat:=0
def tw1430613049299760147:Nat:=0
def tw16530977773940418734:Nat:=0
def tw3653553423311621604:Nat:=0
def tw2029410735999234931:Nat:=0
def tw9072345024981747858:Nat:=0
def tw14322321039119615350:Nat:=0
def tw11268433451746763422:Nat:=0
def tw3728716572015895819:Nat:=0
def tw3705357800845369488:Nat:=0
def tw14795994005345613333:Nat:=0
def tw2802328692975220507:Nat:=0
def tw5158668475011335632:Nat:=0
def tw7034025078802185311:Nat:=0
def tw16503275195834174790:Nat:=0
def tw13927135909009626282:Nat:=0
def tw17481941991103310125:Nat:=0
def tw8232647277368401033:Nat:=0
def tw8854989437955939317:Nat:=0
def tw4078005525654430995:Nat:=0
def tw6284863172620539586:Nat:=0
def tw5562977969303124494:Nat:=0
def tw537041492323350160:Nat:=0
def tw17090828431122748472:Nat:=0
def tw6145392403681356737:Nat:=0
def tw5046931092243913999:Nat:=0
def tw14281028330306374871:Nat:=0
def tw7498845522004452765:Nat:=0
def tw2673838156150121985:Nat:=0
def tw1259028665051386437:Nat:=0
def tw297112638225995654:Nat:=0
def tw11077544734554248433:Nat:=0
def tw2796514474638844155:Nat:=0
def tw4326777284578481261:Nat:=0
def tw10147604457090849867:Nat:=0
def tw16276006669785337785:Nat:=0
def tw14754038351933235385:Nat:=0
def tw12903139223329312750:Nat:=0
def tw4137306695257604991:Nat:=0
def tw2944913674822913905:Nat:=0
def tw3579047607979940727:Nat:=0
def tw13096980948046091577:Nat:=0
def tw16806345687702461110:Nat:=0
def tw10220000860618933324:Nat:=0
def tw6094895499795858483:Nat:=0
def tw7272155307898650018:Nat:=0
def tw4712925056409412556:Nat:=0
def tw13278280876330705300:Nat:=0
def tw8893000436350935786:Nat:=0
def tw3235233518604033766:Nat:=0
def tw15152549398428095027:Nat:=0
def tw9859784655546758003:Nat:=0
def tw9457728784181060725:Nat:=0
def tw10632048750035238980:Nat:=0
def tw1102871724129779050:Nat:=0
def tw8259880332995109490:Nat:=0
def tw4229270803044177049:Nat:=0
def tw7478232589893333712:Nat:=0
def tw10828264785719970846:Nat:=0
def tw8860214372124398348:Nat:=0
def tw10847212511386189241:Nat:=0
def tw16361684328151416002:Nat:=0
def tw1986435410628500484:Nat:=0
def tw17260545275166627760:Nat:=0
def tw8238183157958659344:Nat:=0
def tw2951147618909898224:Nat:=0
def tw930931794034808647:Nat:=0
def tw4240357673836098311:Nat:=0
def tw8570790851300940572:Nat:=0
def tw9214772045834504179:Nat:=0
def tw1353200206941980458:Nat:=0
def tw2062255304910632230:Nat:=0
def tw3454768529934245596:Nat:=0
def tw9612739826741076456:Nat:=0
def tw12028920259675339777:Nat:=0
def tw5321073975167104894:Nat:=0
def tw14578153034891634417:Nat:=0
def tw3890411374765868891:Nat:=0
def tw17232363010478363474:Nat:=0
def tw597036309427476713:Nat:=0
def tw8272068335984546818:Nat:=0
def tw12205002090603314775:Nat:=0
def tw11015890253260146118:Nat:=0
def tw647946298178062840:Nat:=0
def tw4740723819827976257:Nat:=0
def tw1675126178475416848:Nat:=0
def tw17239788662567991109:Nat:=0
def tw16530624209111640283:Nat:=0
def tw11035146773603915491:Nat:=0
def tw15384023269056934288:Nat:=0
def tw3293832260769450321:Nat:=0
def tw1047406770658860806:Nat:=0
def tw17557867066663581287:Nat:=0
def tw4015586548958194947:Nat:=0
def tw14216824805934791930:Nat:=0
def tw17470646407994259998:Nat:=0
def tw1440716702883013516:Nat:=0
def tw9168454263504777854:Nat:=0
def tw18214969271417575297:Nat:=0
def tw12897273760026551189:Nat:=0
def tw11034154851398103693:Nat:=0
def tw6826126075880877192:Nat:=0
def tw2413085591992968912:Nat:=0
def tw10118358536589249528:Nat:=0
def tw17621409936112049009:Nat:=0
def tw9527630159185107608:Nat:=0
def tw2593163690196869683:Nat:=0
def tw9800542993341124367:Nat:=0
def tw4385115836277965715:Nat:=0
def tw4703969449832175544:Nat:=0
def tw8900441778265589642:Nat:=0
def tw8525386314828319710:Nat:=0
def tw4218453291586074959:Nat:=0
def tw6047253318537871263:Nat:=0
def tw13066836724312743150:Nat:=0
def tw4190825711871960400:Nat:=0
def tw2838798691529895691:Nat:=0
def tw17499123525593208845:Nat:=0
def tw4085943030953654856:Nat:=0
def tw14111467441062657999:Nat:=0
def tw8481914744321246423:Nat:=0
def tw3920128392850536810:Nat:=0
def tw680704958162621856:Nat:=0
def tw10349783939186703880:Nat:=0
def tw7846449015734860558:Nat:=0
def tw12248408723490381716:Nat:=0
def tw2412491843674955510:Nat:=0
def tw4392264673437328704:Nat:=0
def tw7604382033975258862:Nat:=0
end PySem.W.Fast
namespace L2
open PySem
theorem len0{p:List Value→Prop}(h:p []):∀us:List Value,us.length=0→p us
 |[],_=>h
theorem xS{n:Nat}{p:List Value→Prop}(h:∀a us,us.length=n→p (a::us)):∀us:List Value,us.length=n+1→p us
 |a::us,e=>h a us (Nat.succ.inj e)
theorem mM{p:List Value→Prop}(h:∀a,p [a]):∀us:List Value,us.length=1→p us:=xS fun a=>len0 (h a)
theorem qF{p:List Value→Prop}(h:∀a b,p [a,b]):∀us:List Value,us.length=2→p us:=xS fun a=>xS fun b=>len0 (h a b)
theorem AK{p:List Value→Prop}(h:∀a b c,p [a,b,c]):∀us:List Value,us.length=3→p us:=xS fun a=>xS fun b=>xS fun c=>len0 (h a b c)
theorem UH{p:List Value→Prop}(h:∀a b c d,p [a,b,c,d]):∀us:List Value,us.length=4→p us:=xS fun a=>xS fun b=>xS fun c=>xS fun d=>len0 (h a b c d)
end L2
namespace K75
open PySem L2
theorem all_mk{l:PySem.W.OpenLaw}{w:World}{K:PySem.W.Frag}{h:Heap}{mg:Str→Option Value}{fa:Addr}(X:K.In h)(G:h.Ns ZV mg)(hfa:mg "law" = some (.ref fa)){fD kZ dZ eX gI eB iS a7 eT gH eA:Addr}{fL n6 eM oD oB n9 n8 n5 nZ nY nX kR kQ kP kO:Tok}{fQ:Addr}{oJ:Option Addr}{nT:Nat}{nV:Array (Option Value)}{fP:Addr}{oI:Option Addr}{nQ:Nat}{nU:Array (Option Value)}{dU:Addr}{kT:Option Addr}{kE:Nat}{kF:Array (Option Value)}
  (hs:FnX K "point_beyond" iE∧FnX K "read_number" jD∧FnX K "read_numbers" iC∧FnX K "refuse_unless" gU∧FnX K "rows_of" rF∧FnX K "rows_from" lZ∧FnX K "read_so_many" iB∧FnX K "read_pair" l5∧FnX K "read_shape" kH∧FnX K "read_turns" kG∧FnX K "read_drawing" iD∧FnX K "read_line" l7∧FnX K "read_step" l0∧FnX K "_law_at" DZ∧FnX K "_law_mix" zZ∧FnX K "_law_steps" rH∧FnX K "_law_together" kI∧FnX K "_law_beside" pG∧FnX K "_law_places" kJ∧FnX K "_law_gone" vD∧FnX K "_law_ways" pY∧FnX K "_law_chart" rM∧FnX K "_law_rising" pD∧FnX K "_law_line" vB∧FnX K "_law_built" rN∧FnX K "_law_heading" l8∧FnX K "_law_heads" rL∧FnX K "_law_next" vA∧FnX K "_law_shape" rJ∧FnX K "_law_word" u9∧FnX K "_law_shape_text" iF∧FnX K "_law_step_text" jE∧FnX K "_law_drawing_text" fV∧FnX K "_law_bent_row" kK∧FnX K "_law_bent" vE∧FnX K "_law_number" pF∧FnX K "_law_read_shape" iG∧FnX K "_law_points" pE∧FnX K "_law_read_drawing" fU∧FnX K "_law_kind" vC∧FnX K "_law_right" rK∧FnX K "law" JG)
  (z0:PySem.W.nsIn K ZV "abs" = some none)
  (z1:PySem.W.nsIn K ZV "all" = some none)
  (z2:PySem.W.nsIn K ZV "enumerate" = some none)
  (z3:PySem.W.nsIn K ZV "int" = some none)
  (z4:PySem.W.nsIn K ZV "isinstance" = some none)
  (z5:PySem.W.nsIn K ZV "len" = some none)
  (z6:PySem.W.nsIn K ZV "list" = some none)
  (z7:PySem.W.nsIn K ZV "range" = some none)
  (z8:PySem.W.nsIn K ZV "set" = some none)
  (z9:PySem.W.nsIn K ZV "sorted" = some none)
  (z10:PySem.W.nsIn K ZV "str" = some none)
  (z11:PySem.W.nsIn K ZV "sum" = some none)
  (z12:PySem.W.nsIn K ZV "tuple" = some none)
  (eQ:PySem.W.nsIn K ZV "MOST_FIGURES" = some (some (.int 40 fL)))
  (jX:PySem.W.nsIn K ZV "FIGURES" = some (some (.str (ZT "0123456789") n6)))
  (dI:PySem.W.nsIn K ZV "HEADING_LETTERS" = some (some (.str (ZT "enws") eM)))
  (mP:PySem.W.nsIn K ZV "ACROSS" = some (some (.ref fQ)))
  (mB:K.lookup fQ=some ⟨.type "tuple",oJ,.seq #[.int 1 oD,.int 0 oB,.int (-1) n9,.int 0 n8] nT,nV⟩)
  (mO:PySem.W.nsIn K ZV "UPWARD" = some (some (.ref fP)))
  (l9:K.lookup fP=some ⟨.type "tuple",oI,.seq #[.int 0 n5,.int 1 nZ,.int 0 nY,.int (-1) nX] nQ,nU⟩)
  (hV:PySem.W.nsIn K ZV "CORNERS" = some (some (.ref dU)))
  (jQ:K.lookup dU=some ⟨.type "tuple",kT,.seq #[.str (ZT "1") kR,.str (ZT "2") kQ,.str (ZT "3") kP,.str (ZT "4") kO] kE,kF⟩)
  (gR:PySem.W.nsIn K ZV "BendError" = some (some (.ref fD)))
  (qE:PySem.W.nsIn K ZV "NoMap" = some (some (.ref kZ)))
  (jS:PySem.W.nsIn K ZV "NotFlat" = some (some (.ref dZ)))
  (mJ:PySem.W.nsIn K ZV "NoLand" = some (some (.ref eX)))
  (qD:PySem.W.nsIn K ZV "NoNet" = some (some (.ref gI)))
  (jU:PySem.W.nsIn K ZV "NoShape" = some (some (.ref eB)))
  (mK:PySem.W.nsIn K ZV "NoLaid" = some (some (.ref iS)))
  (gP:PySem.W.nsIn K ZV "NoText" = some (some (.ref a7)))
  (gQ:PySem.W.nsIn K ZV "NoPicture" = some (some (.ref eT)))
  (qC:PySem.W.nsIn K ZV "NoRow" = some (some (.ref gH)))
  (jT:PySem.W.nsIn K ZV "NoThing" = some (some (.ref eA)))
  (DP:PySem.W.excIn K a7 [.type "ValueError",.type "Exception",.type "BaseException",.type "object"] "ValueError.__new__" = true)
  (IF:L2.O6 K a7 fD)
  (IE:PySem.W.subIn K (.ref a7) (.type "ValueError")=some true)
  (pR:L2.jJ K a7 kZ)
  (jK:L2.jJ K a7 dZ)
  (lN:L2.jJ K a7 eX)
  (pQ:L2.jJ K a7 gI)
  (jM:L2.jJ K a7 eB)
  (lP:L2.jJ K a7 iS)
  (gK:L2.jJ K a7 eT)
  (pP:L2.jJ K a7 gH)
  (jL:L2.jJ K a7 eA)
  (y_K:L2.xU K a7)
  (fH:PySem.W.nsIn K ZV "ValueError" = some none)
  : ∃fd:FuncData,(∀(s:Shared) (v:Value),BindsTo s fd ⟨[v],[]⟩ [("_law_script",v)])∧∀base:Heap,K.In base→base.Ns ZV mg→cU l.prog w K mg base CX0 lawK fa fd ["_law_script"] (EY K):=by
 obtain⟨h0,h1,h2,h3,h4,h5,h6,h7,h8,h9,h10,h11,h12,h13,h14,h15,h16,h17,h18,h19,h20,h21,h22,h23,h24,h25,h26,h27,h28,h29,h30,h31,h32,h33,h34,h35,h36,h37,h38,h39,h40,h41⟩:=hs;obtain⟨f0,d0,i0⟩:=cN (ps:=["point","head","by"]) X G h0 fun _ _ _ _ _ _=>AK fun _ _ _=>rfl;obtain⟨f1,d1,i1⟩:=cN (ps:=["word"]) X G h1 fun _ _ _ _ _ _=>mM fun _=>rfl;obtain⟨f2,d2,i2⟩:=cN (ps:=["words"]) X G h2 fun _ _ _ _ _ _=>mM fun _=>rfl;obtain⟨f3,d3,i3⟩:=cN (ps:=["told"]) X G h3 fun _ _ _ _ _ _=>mM fun _=>rfl;obtain⟨f4,d4,i4⟩:=cN (ps:=["text"]) X G h4 fun _ _ _ _ _ _=>mM fun _=>rfl;obtain⟨f5,d5,i5⟩:=cN (ps:=["rows","place","word"]) X G h5 fun _ _ _ _ _ _=>AK fun _ _ _=>rfl;obtain⟨f6,d6,i6⟩:=cN (ps:=["words","count"]) X G h6 fun _ _ _ _ _ _=>qF fun _ _=>rfl;obtain⟨f7,d7,i7⟩:=cN (ps:=["words"]) X G h7 fun _ _ _ _ _ _=>mM fun _=>rfl;obtain⟨f8,d8,i8⟩:=cN (ps:=["text"]) X G h8 fun _ _ _ _ _ _=>mM fun _=>rfl;obtain⟨f9,d9,i9⟩:=cN (ps:=["word"]) X G h9 fun _ _ _ _ _ _=>mM fun _=>rfl;obtain⟨f10,d10,i10⟩:=cN (ps:=["text"]) X G h10 fun _ _ _ _ _ _=>mM fun _=>rfl;obtain⟨f11,d11,i11⟩:=cN (ps:=["words"]) X G h11 fun _ _ _ _ _ _=>mM fun _=>rfl;obtain⟨f12,d12,i12⟩:=cN (ps:=["point","word"]) X G h12 fun _ _ _ _ _ _=>qF fun _ _=>rfl;obtain⟨f13,d13,i13⟩:=cN (ps:=["_law_script","_law_k"]) X G h13 fun _ _ _ _ _ _=>qF fun _ _=>rfl;obtain⟨f14,d14,i14⟩:=cN (ps:=["_law_cell","_law_place"]) X G h14 fun _ _ _ _ _ _=>qF fun _ _=>rfl;obtain⟨f15,d15,i15⟩:=cN (ps:=["_law_size","_law_bits"]) X G h15 fun _ _ _ _ _ _=>qF fun _ _=>rfl;obtain⟨f16,d16,i16⟩:=cN (ps:=["_law_steps_here","_law_first"]) X G h16 fun _ _ _ _ _ _=>qF fun _ _=>rfl;obtain⟨f17,d17,i17⟩:=cN (ps:=["_law_steps_here","_law_point"]) X G h17 fun _ _ _ _ _ _=>qF fun _ _=>rfl;obtain⟨f18,d18,i18⟩:=cN (ps:=["_law_steps_here","_law_number_here"]) X G h18 fun _ _ _ _ _ _=>qF fun _ _=>rfl;obtain⟨f19,d19,i19⟩:=cN (ps:=["_law_steps_here","_law_places_here","_law_one","_law_other"]) X G h19 fun _ _ _ _ _ _=>UH fun _ _ _ _=>rfl;obtain⟨f20,d20,i20⟩:=cN (ps:=["_law_steps_here","_law_places_here","_law_number_here"]) X G h20 fun _ _ _ _ _ _=>AK fun _ _ _=>rfl;obtain⟨f21,d21,i21⟩:=cN (ps:=["_law_steps_here","_law_places_here","_law_rows","_law_number_here"]) X G h21 fun _ _ _ _ _ _=>UH fun _ _ _ _=>rfl;obtain⟨f22,d22,i22⟩:=cN (ps:=["_law_many","_law_number_here","_law_far"]) X G h22 fun _ _ _ _ _ _=>AK fun _ _ _=>rfl;obtain⟨f23,d23,i23⟩:=cN (ps:=["_law_row","_law_xs","_law_ys"]) X G h23 fun _ _ _ _ _ _=>AK fun _ _ _=>rfl;obtain⟨f24,d24,i24⟩:=cN (ps:=["_law_script","_law_start","_law_far"]) X G h24 fun _ _ _ _ _ _=>AK fun _ _ _=>rfl;obtain⟨f25,d25,i25⟩:=cN (ps:=["_law_here","_law_there"]) X G h25 fun _ _ _ _ _ _=>qF fun _ _=>rfl;obtain⟨f26,d26,i26⟩:=cN (ps:=["_law_drawing","_law_end"]) X G h26 fun _ _ _ _ _ _=>qF fun _ _=>rfl;obtain⟨f27,d27,i27⟩:=cN (ps:=["_law_chart_here","_law_end"]) X G h27 fun _ _ _ _ _ _=>qF fun _ _=>rfl;obtain⟨f28,d28,i28⟩:=cN (ps:=["_law_chart_here","_law_drawing"]) X G h28 fun _ _ _ _ _ _=>qF fun _ _=>rfl;obtain⟨f29,d29,i29⟩:=cN (ps:=["_law_left","_law_right_here"]) X G h29 fun _ _ _ _ _ _=>qF fun _ _=>rfl;obtain⟨f30,d30,i30⟩:=cN (ps:=["_law_shape_here"]) X G h30 fun _ _ _ _ _ _=>mM fun _=>rfl;obtain⟨f31,d31,i31⟩:=cN (ps:=["_law_here","_law_there"]) X G h31 fun _ _ _ _ _ _=>qF fun _ _=>rfl;obtain⟨f32,d32,i32⟩:=cN (ps:=["_law_drawing"]) X G h32 fun _ _ _ _ _ _=>mM fun _=>rfl;obtain⟨f33,d33,i33⟩:=cN (ps:=["_law_row","_law_number_here","_law_cell"]) X G h33 fun _ _ _ _ _ _=>AK fun _ _ _=>rfl;obtain⟨f34,d34,i34⟩:=cN (ps:=["_law_text","_law_number_here","_law_cell"]) X G h34 fun _ _ _ _ _ _=>AK fun _ _ _=>rfl;obtain⟨f35,d35,i35⟩:=cN (ps:=["_law_word_here"]) X G h35 fun _ _ _ _ _ _=>mM fun _=>rfl;obtain⟨f36,d36,i36⟩:=cN (ps:=["_law_text"]) X G h36 fun _ _ _ _ _ _=>mM fun _=>rfl;obtain⟨f37,d37,i37⟩:=cN (ps:=["_law_words"]) X G h37 fun _ _ _ _ _ _=>mM fun _=>rfl;obtain⟨f38,d38,i38⟩:=cN (ps:=["_law_text"]) X G h38 fun _ _ _ _ _ _=>mM fun _=>rfl;obtain⟨f39,d39,i39⟩:=cN (ps:=["_law_kept"]) X G h39 fun _ _ _ _ _ _=>mM fun _=>rfl;obtain⟨f40,d40,i40⟩:=cN (ps:=["_law_text","_law_due","_law_drawn_one"]) X G h40 fun _ _ _ _ _ _=>AK fun _ _ _=>rfl;obtain⟨f41,d41,i41,bL⟩:=RY (ps:=["_law_script"]) X G h41 fun _ _ _ _ _ _=>mM fun _=>rfl;have e:=hfa.symm.trans i41.m;cases e;have T:Txt K mg ⟨fD,kZ,dZ,eX,gI,eB,iS,a7,eT,gH,eA,fL,n6,eM,fQ,oJ,nT,nV,oD,oB,n9,n8,fP,oI,nQ,nU,n5,nZ,nY,nX,dU,kT,kE,kF,kR,kQ,kP,kO,f0,d0,f1,d1,f2,d2,f3,d3,f4,d4,f5,d5,f6,d6,f7,d7,f8,d8,f9,d9,f10,d10,f11,d11,f12,d12,f13,d13,f14,d14,f15,d15,f16,d16,f17,d17,f18,d18,f19,d19,f20,d20,f21,d21,f22,d22,f23,d23,f24,d24,f25,d25,f26,d26,f27,d27,f28,d28,f29,d29,f30,d30,f31,d31,f32,d32,f33,d33,f34,d34,f35,d35,f36,d36,f37,d37,f38,d38,f39,d39,f40,d40,fa,d41⟩:=⟨i0,i1,i2,i3,i4,i5,i6,i7,i8,i9,i10,i11,i12,i13,i14,i15,i16,i17,i18,i19,i20,i21,i22,i23,i24,i25,i26,i27,i28,i29,i30,i31,i32,i33,i34,i35,i36,i37,i38,i39,i40,i41,PySem.W.mg_none_of X G z0,PySem.W.mg_none_of X G z1,PySem.W.mg_none_of X G z2,PySem.W.mg_none_of X G z3,PySem.W.mg_none_of X G z4,PySem.W.mg_none_of X G z5,PySem.W.mg_none_of X G z6,PySem.W.mg_none_of X G z7,PySem.W.mg_none_of X G z8,PySem.W.mg_none_of X G z9,PySem.W.mg_none_of X G z10,PySem.W.mg_none_of X G z11,PySem.W.mg_none_of X G z12,PySem.W.mg_of X G eQ,PySem.W.mg_of X G jX,PySem.W.mg_of X G dI,PySem.W.mg_of X G mP,mB,PySem.W.mg_of X G mO,l9,PySem.W.mg_of X G hV,jQ,PySem.W.mg_of X G gR,PySem.W.mg_of X G qE,PySem.W.mg_of X G jS,PySem.W.mg_of X G mJ,PySem.W.mg_of X G qD,PySem.W.mg_of X G jU,PySem.W.mg_of X G mK,PySem.W.mg_of X G gP,PySem.W.mg_of X G gQ,PySem.W.mg_of X G qC,PySem.W.mg_of X G jT,DP,IF,IE,pR,jK,lN,pQ,jM,lP,gK,pP,jL,y_K,PySem.W.mg_none_of X G fH⟩
 exact⟨_,fun s v=>bL s [v] rfl,fun base _ _=>RK T⟩
theorem walk{l:PySem.W.OpenLaw}{q:Program}{loose:List Str}{XP:(Str→Option Value)→Heap→Prop}{YP:World→Heap→Prop}{d:DefRec}{K:Params→PySem.W.Frag}(hn:l.most=some 63)(hdf:d.params.defaults=[])
  (hY:∀(w:World) (h:Heap),YP w h→(K w.params).In h)
  (F:∀(w:World) (mg:Str→Option Value) (fa:Addr) (h:Heap),(K w.params).In h→h.Ns ZV mg→mg d.name=some (.ref fa) →
   ∃fd:FuncData,(∀(s:Shared) (u:Value),BindsTo s fd ⟨[u],[]⟩ [("_law_script",u)])∧∀base:Heap,(K w.params).In base→base.Ns ZV mg→cU l.prog w (K w.params) mg base CX0 lawK fa fd ["_law_script"] (EY (K w.params))) :
  PySem.W.WalkO q loose XP YP l.row.toRowW d [] (fun f vs=>PySem.call f vs) :=
 L2.MU (n:=63) (k:=lawK) (x:="_law_script") (CX:=fun _=>CX0) (sp:=fun w=>EY (K w.params)) hn (by decide) hdf ⟨rfl,by decide,by decide⟩ hY F (fun _ _ a ns hl _ hS=>⟨a,ns,rfl,hS,hl,fun _=>rfl⟩) fun _ _ _ _ _ z=>z
end K75
open PySem PySem.W PyProof.Rows
set_option maxRecDepth 100000 in
set_option maxHeartbeats 0 in
theorem PySem.Challenge.cw_fewbends_k75_other_texts_that_are_none_holds : PySem.Challenge.rw_fewbends_k75_other_texts_that_are_none.Holds := by
 w_on;o_law;k_head;(case hw=>w_witness2)
 k_fill
 refine K75.walk (l:=PySem.Challenge.rw_fewbends_k75_other_texts_that_are_none) rfl rfl (fun w h Y=>PySem.W.kIn_of Y) ?F
 case F =>
  intro w mg fa h KX G hmg;refine' K75.all_mk KX G hmg ?hs ?z0 ?z1 ?z2 ?z3 ?z4 ?z5 ?z6 ?z7 ?z8 ?z9 ?z10 ?z11 ?z12 ?eQ ?jX ?dI ?mP ?mB ?mO ?l9 ?hV ?jQ ?gR ?qE ?jS ?mJ ?qD ?jU ?mK ?gP ?gQ ?qC ?jT ?DP ?IF ?IE ?pR ?jK ?lN ?pQ ?jM ?lP ?gK ?pP ?jL ?y_K ?fH
  (case hs=>refine⟨?_,?_,?_,?_,?_,?_,?_,?_,?_,?_,?_,?_,?_,?_,?_,?_,?_,?_,?_,?_,?_,?_,?_,?_,?_,?_,?_,?_,?_,?_,?_,?_,?_,?_,?_,?_,?_,?_,?_,?_,?_,?_⟩<;>exact⟨_,by k_is,_,_,_,_,_,_,_,_,_,by k_is,by k_is,by k_is⟩)
  (case z0=>k_is);(case z1=>k_is);(case z2=>k_is);(case z3=>k_is);(case z4=>k_is);(case z5=>k_is);(case z6=>k_is);(case z7=>k_is);(case z8=>k_is);(case z9=>k_is);(case z10=>k_is);(case z11=>k_is);(case z12=>k_is)
  (case eQ=>k_is)
  (case jX=>k_is)
  (case dI=>k_is)
  (case mP=>k_is)
  (case mB=>k_is)
  (case mO=>k_is)
  (case l9=>k_is)
  (case hV=>k_is)
  (case jQ=>k_is)
  (case gR=>k_is)
  (case qE=>k_is)
  (case jS=>k_is)
  (case mJ=>k_is)
  (case qD=>k_is)
  (case jU=>k_is)
  (case mK=>k_is)
  (case gP=>k_is)
  (case gQ=>k_is)
  (case qC=>k_is)
  (case jT=>k_is)
  (case DP=>k_exc)
  (case IF=>exact⟨by k_is,by k_is,by k_is,by k_is⟩)
  (case IE=>k_is)
  (case pR=>exact⟨by k_is,by k_is,by k_is,by decide⟩)
  (case jK=>exact⟨by k_is,by k_is,by k_is,by decide⟩)
  (case lN=>exact⟨by k_is,by k_is,by k_is,by decide⟩)
  (case pQ=>exact⟨by k_is,by k_is,by k_is,by decide⟩)
  (case jM=>exact⟨by k_is,by k_is,by k_is,by decide⟩)
  (case lP=>exact⟨by k_is,by k_is,by k_is,by decide⟩)
  (case gK=>exact⟨by k_is,by k_is,by k_is,by decide⟩)
  (case pP=>exact⟨by k_is,by k_is,by k_is,by decide⟩)
  (case jL=>exact⟨by k_is,by k_is,by k_is,by decide⟩)
  (case y_K=>exact⟨by k_is,by k_is,by k_is,by k_is,by k_is,by k_is⟩)
  (case fH=>k_is)
