import PyProof.Rows.All
import Wide.All
import OpenK.AllK
import Wide.FinOn
import Lean
import PyProof.EqAt
import PyProof.EqKinds
import PyProof.TupleCall
import KE.BitLaws
import KE.KSortTup
import PyProof.MeetsSeq3
import PyProof.FactsAll.list_2
import PyProof.Rows.SortRuns
import PyProof.Rows.SortShell
import PyProof.Rows.SortRev
import PyProof.Rows.SortWalk
import PyProof.FactsAll.tuple_1
import PyProof.DictItems
import KE.KDictSum
import PyProof.SetKind
import PyProof.TupleKey
import PyProof.IsRules
import PyProof.DictKinds
import PyProof.Rows.SetFrom
import PyProof.FactsAll.set_1
import PyProof.FactsAll.set_2
import PySem.Challenge.RW_fewbends_k33_outer_lands_refused
open PySem renaming wpAny_bind→ZZ,wpAny_pure→ZY,wpAny_mono→ZX,sizeLine→ZW,mainGlobals→ZV,wpAny_holding→ZU
open PySem.Str renaming ofString→ZT
open Classical renaming byContradiction→ZS
open List renaming length_map→Zq,getElem?_eq_getElem→Zz,getElem?_eq_some_iff→Zj,getElem?_map→Zk,getD_eq_getElem?_getD→Zv,mem_cons_of_mem→Zw,getElem?_append_left→Zx,getElem?_append_right→Zy,mem_of_getElem?→Zg,mem_map→Zh,mem_singleton→Zb,mem_cons_self→Zd,mem_append→Zf,length_append→Zm,mem_cons→Zn,getElem_mem→Zp,getElem?_eq_none→Zr,mem_range→Zs,map_append→Zt,length_singleton→ZQ,length_cons→Yq,mem_filter→Yz,length_range→Yj,getElem?_range→Yk,take_length→Yv,length_take→Yw,getElem?_concat_length→Yx,mem_iff_getElem→Yy,length_eq_zero_iff→Yg,map_map→Yh,append_assoc→Yb,length_drop→Yd,mem_map_of_mem→Yf,map_congr_left→Ym,ext_getElem?→Yn,ext_getElem→Yp
open Nat renaming le_trans→Yr,lt_of_le_of_lt→Ys,lt_of_lt_of_le→Yt,lt_succ_of_lt→YQ,lt_or_ge→Xq
open Option renaming map_eq_some_iff→Xz
open Int renaming emod_nonneg→Xj,emod_lt_of_pos→Xk,eq_ofNat_of_zero_le→Xv
open Bool renaming and_eq_true→Xw,eq_iff_iff→Xx
set_option Elab.async false
set_option linter.all false
set_option maxRecDepth 100000
section
variable{A B C D E F G H I J:Type}
theorem xPP{K L R:Prop}(k:K)(l:L)(r:R):K∧L∧R:=⟨k,l,r⟩
theorem xWW{R:A→B→Prop}(a:A)(b:B)(r:R a b):∃a b,R a b:=⟨a,b,r⟩
theorem xPW{K:Prop}{R:A→Prop}(k:K)(a:A)(r:R a):K∧∃a,R a:=⟨k,a,r⟩
theorem xWP{K R:A→Prop}(a:A)(k:K a)(r:R a):∃a,K a∧R a:=⟨a,k,r⟩
theorem T4{K L M R:Prop}(k:K)(l:L)(m:M)(r:R):K∧L∧M∧R:=⟨k,l,m,r⟩
theorem VQ{R:A→B→C→Prop}(a:A)(b:B)(c:C)(r:R a b c):∃a b c,R a b c:=⟨a,b,c,r⟩
theorem JN{K R:A→B→Prop}(a:A)(b:B)(k:K a b)(r:R a b):∃a b,K a b∧R a b:=⟨a,b,k,r⟩
theorem OQ{K L R:A→Prop}(a:A)(k:K a)(l:L a)(r:R a):∃a,K a∧L a∧R a:=⟨a,k,l,r⟩
theorem OR{K:Prop}{L R:A→Prop}(k:K)(a:A)(l:L a)(r:R a):K∧∃a,L a∧R a:=⟨k,a,l,r⟩
theorem aP{R:A→B→C→D→E→Prop}(a:A)(b:B)(c:C)(d:D)(e:E)(r:R a b c d e):∃a b c d e,R a b c d e:=xWW a b (VQ c d e r)
theorem wB{K:A→B→Prop}{L R:A→B→C→Prop}(a:A)(b:B)(k:K a b)(c:C)(l:L a b c)(r:R a b c):∃a b,K a b∧∃c,L a b c∧R a b c:=JN a b k (xWP c l r)
theorem bG{K L M N O R:Prop}(k:K)(l:L)(m:M)(n:N)(o:O)(r:R):K∧L∧M∧N∧O∧R:=xPP k l (T4 m n o r)
theorem bW{K L:A→Prop}{M R:A→B→Prop}(a:A)(k:K a)(l:L a)(b:B)(m:M a b)(r:R a b):∃a,K a∧L a∧∃b,M a b∧R a b:=xWP a k (OR l b m r)
theorem tF{K:Prop}{L M N R:A→Prop}(k:K)(a:A)(l:L a)(m:M a)(n:N a)(r:R a):K∧∃a,L a∧M a∧N a∧R a:=OR k a l (xPP m n r)
theorem E5{K L:Prop}{M N R:A→Prop}(k:K)(l:L)(a:A)(m:M a)(n:N a)(r:R a):K∧L∧∃a,M a∧N a∧R a:=xPP k l (OQ a m n r)
theorem bH{K L M R:A→B→Prop}(a:A)(b:B)(k:K a b)(l:L a b)(m:M a b)(r:R a b):∃a b,K a b∧L a b∧M a b∧R a b:=JN a b k (xPP l m r)
theorem aR{K L M:Prop}{N R:A→Prop}(k:K)(l:L)(m:M)(a:A)(n:N a)(r:R a):K∧L∧M∧∃a,N a∧R a:=xPP k l (OR m a n r)
theorem bB{K L:Prop}{M R:A→B→Prop}(k:K)(l:L)(a:A)(b:B)(m:M a b)(r:R a b):K∧L∧∃a b,M a b∧R a b:=xPP k l (JN a b m r)
theorem aN{K:A→Prop}{L R:A→B→C→Prop}(a:A)(k:K a)(b:B)(c:C)(l:L a b c)(r:R a b c):∃a,K a∧∃b c,L a b c∧R a b c:=xWP a k (JN b c l r)
theorem aG{K R:A→B→C→D→Prop}(a:A)(b:B)(c:C)(d:D)(k:K a b c d)(r:R a b c d):∃a b c d,K a b c d∧R a b c d:=xWW a b (JN c d k r)
theorem bV{K L R:A→B→C→Prop}(a:A)(b:B)(c:C)(k:K a b c)(l:L a b c)(r:R a b c):∃a b c,K a b c∧L a b c∧R a b c:=xWW a b (OQ c k l r)
theorem cG{K:A→Prop}{L M R:A→B→Prop}(a:A)(k:K a)(b:B)(l:L a b)(m:M a b)(r:R a b):∃a,K a∧∃b,L a b∧M a b∧R a b:=xWP a k (OQ b l m r)
theorem bO{K:Prop}{L:A→Prop}{M R:A→B→Prop}(k:K)(a:A)(l:L a)(b:B)(m:M a b)(r:R a b):K∧∃a,L a∧∃b,M a b∧R a b:=OR k a l (xWP b m r)
theorem cU{K:Prop}{L R:A→B→C→Prop}(k:K)(a:A)(b:B)(c:C)(l:L a b c)(r:R a b c):K∧∃a b c,L a b c∧R a b c:=xPW k a (JN b c l r)
theorem eB{K L M N R:A→Prop}(a:A)(k:K a)(l:L a)(m:M a)(n:N a)(r:R a):∃a,K a∧L a∧M a∧N a∧R a:=xWP a k (T4 l m n r)
theorem cM{K:Prop}{L M R:A→B→Prop}(k:K)(a:A)(b:B)(l:L a b)(m:M a b)(r:R a b):K∧∃a b,L a b∧M a b∧R a b:=xPW k a (OQ b l m r)
end
namespace L2
open PySem PySem.Spec PyProof.Rows
abbrev Key:=Sum Int Str
def uV:Key→Value→Bool
 |.inl k,v=>Value.isInt k v
 |.inr x,v=>Value.isStrOf x v
def WA(w:World):Key→Int
 |.inl k=>hashInt k
 |.inr x=>hashStr w x
theorem dH:∀{k:Key}{v:Value},uV k v=true→(∃i t,k=Sum.inl i∧v=Value.int i t)∨(∃x t,k=Sum.inr x∧v=Value.str x t)
 |.inl i,v,h=>by
  obtain⟨t,e⟩:=Value.isInt_shape (k:=i) (v:=v) h;exact .inl ⟨i,t,rfl,e⟩
 |.inr x,v,h=>by
  obtain⟨t,e⟩:=Value.isStrOf_shape (x:=x) (v:=v) h;exact .inr ⟨x,t,rfl,e⟩
theorem KO(i:Int)(t:Tok):uV (.inl i) (.int i t)=true:=by simp[uV,Value.isInt]
theorem KN(x:Str)(t:Tok):uV (.inr x) (.str x t)=true:=by simp[uV,Value.isStrOf]
theorem S7(a b:Int):decide ((Sum.inl a:Key)=Sum.inl b)=(a==b):=by
 by_cases e:a=b
 ·subst e;simp
 ·have h:¬(Sum.inl a:Key)=Sum.inl b:=fun q=>e (Sum.inl.inj q);rw[decide_eq_false h];exact(beq_eq_false_iff_ne.mpr e).symm
theorem SZ(a b:Str):decide ((Sum.inr a:Key)=Sum.inr b)=decide (a=b):=by
 by_cases e:a=b
 ·subst e;simp
 ·have h:¬(Sum.inr a:Key)=Sum.inr b:=fun q=>e (Sum.inr.inj q);rw[decide_eq_false h,decide_eq_false e]
theorem S6(a:Int)(b:Str):decide ((Sum.inl a:Key)=Sum.inr b)=false:=decide_eq_false (fun q=>nomatch q)
theorem S0(a:Str)(b:Int):decide ((Sum.inr a:Key)=Sum.inl b)=false:=decide_eq_false (fun q=>nomatch q)
def dO(prog:Program)(w:World):PySem.KeyKind prog w Key where
 is:=uV
 hash:=WA w
 inj:=fun v a b ha hb=>by
  rcases dH ha with⟨i,t,rfl,rfl⟩ | ⟨x,t,rfl,rfl⟩
  ·rcases dH hb with⟨j,u,rfl,e⟩ | ⟨y,u,rfl,e⟩
   ·injection e with e1 _;rw[e1]
   ·exact nomatch e
  ·rcases dH hb with⟨j,u,rfl,e⟩ | ⟨y,u,rfl,e⟩
   ·exact nomatch e
   ·injection e with e1 _;rw[e1]
 byValue:=fun k v h=>by
  rcases dH h with⟨i,t,rfl,rfl⟩ | ⟨x,t,rfl,rfl⟩<;>rfl
 pyHash:=fun hv h=>by
  rcases dH hv with⟨i,t,rfl,rfl⟩ | ⟨x,t,rfl,rfl⟩
  ·exact wpAny_pyHash_int h
  ·exact wpAny_pyHash_str h
 eqBool:=fun hu hv h=>by
  rcases dH hu with⟨i,t,rfl,rfl⟩ | ⟨x,t,rfl,rfl⟩
  ·rcases dH hv with⟨j,u,rfl,rfl⟩ | ⟨y,u,rfl,rfl⟩
   ·rw[S7]at h;exact wpAny_eqBool_int h
   ·rw[S6]at h;exact SeqAt.EqAt.int_str i t y u _ _ _ _ h
  ·rcases dH hv with⟨j,u,rfl,rfl⟩ | ⟨y,u,rfl,rfl⟩
   ·rw[S0]at h;exact SeqAt.EqAt.str_int x t j u _ _ _ _ h
   ·rw[SZ]at h;exact wpAny_eqBool_str h
 «strs»:=fun k x t v h=>by
  rcases dH h with⟨i,u,rfl,e⟩ | ⟨y,u,rfl,e⟩
  ·exact nomatch e
  ·injection e with e1 _;subst e1;cases v<;>rfl
theorem DJ(prog:Program)(w:World)(i:Int)(t:Tok):(dO prog w).is (.inl i) (.int i t)=true:=KO i t
theorem DI(prog:Program)(w:World)(x:Str)(t:Tok):(dO prog w).is (.inr x) (.str x t)=true:=KN x t
inductive V where
 |non | bl (b:Bool) | int (i:Int) | str (x:Str) | byt (b:Array UInt8) | flt (b:UInt64) | ref (a:Addr) | ty (n:String)
 deriving DecidableEq
def RelV:V→Value→Prop
 |.non,u=>u=Value.none
 |.bl b,u=>u=Value.bool b
 |.int i,u=>∃t,u=Value.int i t
 |.str x,u=>∃t,u=Value.str x t
 |.byt b,u=>∃t,u=Value.bytes b t
 |.flt b,u=>∃t,u=Value.float b t
 |.ref a,u=>u=Value.ref a
 |.ty n,u=>u=Value.type n
abbrev bY:List V→List Value→Prop:=Paired RelV
theorem bY.length{xs:List V}{us:List Value}(r:bY xs us):xs.length=us.length:=Paired.length r
theorem bY.get:∀{xs:List V}{us:List Value}{i:Nat}{x:V},bY xs us→xs[i]?=some x→∃u,us[i]?=some u∧RelV x u
 |_,_,_,_,.nil,e=>by simp at e
 |_,_,0,_,.cons r _,e=>by simp at e;subst e;exact⟨_,rfl,r⟩
 |_,_,i+1,x,.cons _ t,e=>by
  obtain⟨u,h1,h2⟩:=bY.get (i:=i) (x:=x) t (by simpa using e);exact⟨u,by simpa using h1,h2⟩
theorem bY.set{x:V}{u:Value}(r:RelV x u):∀{xs:List V}{us:List Value}(i:Nat),bY xs us→bY (xs.set i x) (us.set i u)
 |_,_,_,.nil=>.nil
 |_,_,0,.cons _ t=>.cons r t
 |_,_,i+1,.cons q t=>.cons q (bY.set r i t)
theorem bY.append:∀{xs ys:List V}{us ws:List Value},bY xs us→bY ys ws→bY (xs++ys) (us++ws)
 |_,_,_,_,.nil,s=>s
 |_,_,_,_,.cons r t,s=>.cons r (bY.append t s)
theorem bY.take:∀{xs:List V}{us:List Value}(n:Nat),bY xs us→bY (xs.take n) (us.take n)
 |_,_,0,_=>.nil
 |_,_,_+1,.nil=>.nil
 |_,_,n+1,.cons r t=>.cons r (bY.take n t)
theorem bY.drop:∀{xs:List V}{us:List Value}(n:Nat),bY xs us→bY (xs.drop n) (us.drop n)
 |_,_,0,r=>r
 |_,_,_+1,.nil=>.nil
 |_,_,n+1,.cons _ t=>bY.drop n t
def uF:Option V→Option Value→Prop
 |some v,some u=>RelV v u
 |none,none=>True
 |_,_=>False
def KV{κ:Type}:List (κ×V)→List (κ×Value)→Prop:=Paired fun (p:κ×V) (q:κ×Value)=>p.1=q.1∧RelV p.2 q.2
def kV:Key→V
 |.inl i=>.int i
 |.inr x=>.str x
inductive HO where
 |lst (xs:List V)
 |tup (xs:List V)
 |dK (kvs:List (Key×V)) | dT (kvs:List (List Key×V))
 |set (S:Int→Bool) (n:Nat)
 |ins (C dx:Addr) (fs:List (Str×V))
 |own (x:Addr)
 |xd (fs:List (Str×V))
 |met (f x:Addr)
 |rng (lo hi:Int)
 |frz (o:Obj) (u:HO)
 |tbl (ps:Array Value)
 |ext (φ:Heap→Prop)
abbrev Hp:=Addr→Option HO
def upd(H:Hp)(a:Addr)(o:HO):Hp:=fun b=>if b=a then some o else H b
theorem aB{H:Hp}{a:Addr}{o:HO}:upd H a o a=some o:=by unfold upd;rw[if_pos rfl]
theorem aL{H:Hp}{a b:Addr}{o:HO}(h:b≠a):upd H a o b=H b:=by unfold upd;rw[if_neg h]
theorem j6{H:Hp}{a:Addr}{o u:HO}:upd (upd H a o) a u=upd H a u:=by
 funext b;unfold upd;split<;>rfl
theorem dB{H:Hp}{a b:Addr}{o u:HO}(h:H a=some o)(h':H b=some u)(d:o≠u):a≠b:=by
 intro e;subst e;rw[h]at h';exact d (Option.some.inj h')
theorem aJ{H:Hp}{a b:Addr}{o:HO}(h:H a=some o)(h':H b=none):a≠b:=by
 intro e;subst e;rw[h]at h';cases h'
section
variable(P:Program)(w:World)
def dC(H:Hp)(h:Heap)(a:Addr):HO→Prop
 |.lst xs=>xs.length≤ZW∧∃(its:List Value) (n:Nat),bY xs its∧h.get? a=some { cls:=.type "list",data:=.seq its.toArray n }
 |.tup xs=>xs.length≤ZW∧∃its:List Value,bY xs its∧IsTup h a its.toArray
 |.dK kvs=>kvs.length≤ZW∧(a==sysModules)=false∧∃vs,KV kvs vs∧h.DictOf (dO P w) a vs
 |.dT kvs=>kvs.length≤ZW∧(a==sysModules)=false∧∃xs:List (List Key×Addr×Value),
   Paired (fun (p:List Key×V) (q:List Key×Addr×Value)=>p.1=q.1∧H q.2.1=some (.tup (p.1.map kV))∧RelV p.2 q.2.2) kvs xs ∧
   ∃o es ep,h.get? a=some o∧o.ExactDict∧o.data=.dict es ep∧es.toList=xs.map (entryOfKey (tupleKind (dO P w)))∧(xs.map (·.1)).Nodup
 |.set S n=>h.SetOf (intKind P w) a S n
 |.ins C dx fs=>H dx=some (.own a)∧fs.length≤1000∧dx≠a∧h.get? a=some (PySem.W.instObj C dx) ∧
   ∃mA,h.Ns1 dx mA∧(∀f,uF (fs.lookup f) (mA f))∧PySem.Within mA (fs.map (·.1))
 |.own _=>∃o,h.get? a=some o
 |.xd fs=>∃mA,h.Ns1 a mA∧∀f,uF (fs.lookup f) (mA f)
 |.rng lo hi=>∃t u v,h.get? a=some { cls:=.type "range",data:=.fields #[.int lo t,.int hi u,.int 1 v] }
 |.frz o u=>h.get? a=some o∧dC H h a u
 |.tbl ps=>h.get? a=some { cls:=.none,data:=.fields ps }
 |.met f x=>h.get? a=some (PySem.W.methodObj (.ref f) (.ref x))
 |.ext φ=>φ h∧(∃o,h.get? a=some o)∧∀h1 h2:Heap,φ h1→(∀o,h1.get? a=some o→h2.get? a=some o)→φ h2
def HOk(H:Hp)(h:Heap):Prop:=∀a o,H a=some o→dC P w H h a o
end
section
variable{P:Program}{w:World}{H H':Hp}{h h':Heap}{a:Addr}{o:HO}
theorem dC.lt(x:dC P w H h a o):a<h.objs.size:=by
 cases o with
 |lst xs=>obtain⟨_,_,_,_,e⟩:=x;exact Heap.lt_size e
 |tup xs=>obtain⟨_,_,_,p⟩:=x;exact p.lt
 |dK kvs=>obtain⟨_,_,_,_,o,_,_,e,_⟩:=x;exact Heap.lt_size e
 |dT kvs=>obtain⟨_,_,_,_,o,_,_,e,_⟩:=x;exact Heap.lt_size e
 |set S n=>obtain⟨o,_,_,_,e,_⟩:=x;exact Heap.lt_size e
 |ins C dx fs=>obtain⟨_,_,_,e,_⟩:=x;exact Heap.lt_size e
 |own y=>obtain⟨_,e⟩:=x;exact Heap.lt_size e
 |xd fs=>obtain⟨_,⟨_,_,_,e,_⟩,_⟩:=x;exact Heap.lt_size e
 |rng lo hi=>obtain⟨_,_,_,e⟩:=x;exact Heap.lt_size e
 |frz ob u=>obtain⟨e,_⟩:=x;exact Heap.lt_size e
 |tbl ps=>exact Heap.lt_size (show h.get? a=some _ from x)
 |met f y=>exact Heap.lt_size (show h.get? a=some _ from x)
 |ext φ=>obtain⟨_,⟨_,e⟩,_⟩:=x;exact Heap.lt_size e
theorem Paired.mapP{α β:Type}{F G:α→β→Prop}:∀{l₁:List α}{l₂:List β},Paired F l₁ l₂→(∀a b,F a b→G a b)→Paired G l₁ l₂
 |_,_,.nil,_=>.nil
 |_,_,.cons r t,f=>.cons (f _ _ r) (Paired.mapP t f)
theorem dC.stay(x:dC P w H h a o)(k:∀b u,(b=a∨H b=some (.own a))→h.get? b=some u→h'.get? b=some u)
  (ho:∀b,H b=some (.own a)→H' b=some (.own a)) (ht:∀b xs,H b=some (.tup xs)→H' b=some (.tup xs)):dC P w H' h' a o:=by
 induction o with
 |lst xs=>obtain⟨z,its,n,r,e⟩:=x;exact⟨z,its,n,r,k _ _ (.inl rfl) e⟩
 |tup xs=>obtain⟨z,its,r,ob,e,c⟩:=x;exact⟨z,its,r,ob,k _ _ (.inl rfl) e,c⟩
 |dK kvs=>obtain⟨z,y,vs,r,ob,es,ep,e,c⟩:=x;exact⟨z,y,vs,r,ob,es,ep,k _ _ (.inl rfl) e,c⟩
 |dT kvs =>
  obtain⟨z,y,xs,r,ob,es,ep,e,c⟩:=x;exact⟨z,y,xs,Paired.mapP r fun p q z=>⟨z.1,ht _ _ z.2.1,z.2.2⟩,ob,es,ep,k _ _ (.inl rfl) e,c⟩
 |set S n=>obtain⟨ob,es,ep,t,e,c⟩:=x;exact⟨ob,es,ep,t,k _ _ (.inl rfl) e,c⟩
 |ins C dx fs =>
  obtain⟨d,z,ne,e,mA,⟨od,es,ep,e2,c⟩,r⟩:=x;exact⟨ho _ d,z,ne,k _ _ (.inl rfl) e,mA,⟨od,es,ep,k _ _ (.inr d) e2,c⟩,r⟩
 |own y=>obtain⟨ob,e⟩:=x;exact⟨ob,k _ _ (.inl rfl) e⟩
 |xd fs=>obtain⟨mA,⟨od,es,ep,e,c⟩,r⟩:=x;exact⟨mA,⟨od,es,ep,k _ _ (.inl rfl) e,c⟩,r⟩
 |rng lo hi=>obtain⟨t,u,v,e⟩:=x;exact⟨t,u,v,k _ _ (.inl rfl) e⟩
 |frz ob u ih=>obtain⟨e,q⟩:=x;exact⟨k _ _ (.inl rfl) e,ih q⟩
 |tbl ps =>
  have e:h.get? a=some { cls:=.none,data:=.fields ps }:=x;show h'.get? a=some { cls:=.none,data:=.fields ps };exact k a _ (.inl rfl) e
 |met f y =>
  have e:h.get? a=some (PySem.W.methodObj (.ref f) (.ref y)):=x;show h'.get? a=some (PySem.W.methodObj (.ref f) (.ref y));exact k a _ (.inl rfl) e
 |ext φ=>obtain⟨p,⟨o,e⟩,st⟩:=x;exact⟨st _ _ p fun o q=>k _ _ (.inl rfl) q,⟨o,k _ _ (.inl rfl) e⟩,st⟩
theorem HOk.lt(x:HOk P w H h)(e:H a=some o):a<h.objs.size:=(x a o e).lt
theorem HOk.fresh(x:HOk P w H h)(e:h.objs.size≤a):H a=none:=by
 cases q:H a with
 |none=>rfl
 |some u=>exact absurd (Yt (x.lt q) e) (Nat.lt_irrefl _)
theorem HOk.kept(x:HOk P w H h)(k:∀b u,h.get? b=some u→h'.get? b=some u):HOk P w H h':=fun a o e =>
 (x a o e).stay (fun b u _ q=>k b u q) (fun _ q=>q) fun _ _ q=>q
theorem HOk.laid(x:HOk P w H h)(k:∀b u,h.get? b=some u→h'.get? b=some u)(hp:h.objs.size≤a)(new:dC P w (upd H a o) h' a o):HOk P w (upd H a o) h':=fun b u e=>by
 have hn:=x.fresh hp;by_cases hb:b=a
 ·subst hb;rw[aB]at e;cases e;exact new
 ·rw[aL hb]at e;exact(x b u e).stay (fun c v _ q=>k c v q) (fun c q=>by rw[aL (aJ q hn)];exact q) fun c xs q=>by rw[aL (aJ q hn)];exact q
end
def Rd(H:Hp)(a:Addr)(u:HO):Prop:=H a=some u∨∃o,H a=some (.frz o u)
theorem Rd.ok{P:Program}{w:World}{H:Hp}{h:Heap}{a:Addr}{u:HO}(r:Rd H a u)(x:HOk P w H h):dC P w H h a u:=by
 rcases r with r | ⟨o,r⟩
 ·exact x a u r
 ·obtain⟨_,q⟩:=x a _ r;exact q
def Mut:Option HO→Prop
 |some (.lst _)=>True
 |some (.dK _)=>True
 |some (.dT _)=>True
 |some (.set _ _)=>True
 |some (.ins _ _ _)=>True
 |some (.ext _)=>True
 |_=>False
section
variable{P:Program}{w:World}{H:Hp}{h h':Heap}{x e:Addr}{o':HO}
theorem HOk.write(ok:HOk P w H h)(mu:Mut (H x))(he:e=x∨H e=some (.own x))(k:∀b u,b≠e→h.get? b=some u→h'.get? b=some u)(heo:∃u,h'.get? e=some u)
  (new:dC P w (upd H x o') h' x o'):HOk P w (upd H x o') h':=fun b u q=>by
 have nown:∀c y,H c=some (.own y)→c≠x:=fun c y r z=>by subst z;rw[r]at mu;exact mu
 have ntup:∀c xs,H c=some (.tup xs)→c≠x:=fun c xs r z=>by subst z;rw[r]at mu;exact mu
 by_cases hb:b=x
 ·subst hb;rw[aB]at q;cases q;exact new
 ·rw[aL hb]at q;by_cases hbe:b=e
  ·have q':H b=some (.own x):=by
    rcases he with z | z
    ·exact absurd (hbe.trans z) hb
    ·rw[hbe];exact z
   rw[q]at q';cases q';obtain⟨v,hv⟩:=heo;exact⟨v,by rw[hbe];exact hv⟩
  ·refine(ok b u q).stay (fun c v hc r=>k c v ?_ r) (fun c r=>by rw[aL (nown c b r)];exact r) fun c xs r=>by rw[aL (ntup c xs r)];exact r
   rcases hc with rfl | hc
   ·exact hbe
   ·rintro rfl;rcases he with z | z
    ·exact nown c b hc z
    ·rw[hc]at z;cases z;exact hb rfl
end
structure Un(fs ex:List Addr)(H H':Hp)(h h':Heap):Prop where
 keep:∀b o,h.get? b=some o→H b=none→b∉fs→b∉ex→h'.get? b=some o
 slot:∀b o,h.get? b=some o→H b=none→b∈fs→b∉ex→∃sl,h'.get? b=some { o with slots:=sl }
 free:∀b o,h.get? b=some o→H b=none→b∉ex→H' b=none
 there:∀b o,h.get? b=some o→b∉ex→∃o',h'.get? b=some o'
 tups:∀b xs,H b=some (.tup xs)→H' b=some (.tup xs)
 frzs:∀b o u,H b=some (.frz o u)→H' b=some (.frz o u)
 tbls:∀b ps,H b=some (.tbl ps)→∃more,H' b=some (.tbl (ps++more))
section
variable{fs fs' ex ex':List Addr}{H H1 H2:Hp}{h h1 h2 h':Heap}{a x e:Addr}{o:HO}
theorem Un.any(u:Un fs ex H H1 h h1){b:Addr}{ob:Obj}(q:h.get? b=some ob)(n:H b=none)(hx:b∉ex):∃sl,h1.get? b=some { ob with slots:=sl }:=by
 by_cases hb:b∈fs
 ·exact u.slot b ob q n hb hx
 ·exact⟨ob.slots,u.keep b ob q n hb hx⟩
theorem Un.kept(k:∀b u,h.get? b=some u→h'.get? b=some u):Un fs ex H H h h' :=
 ⟨fun b ob q _ _ _=>k b ob q,fun b ob q _ _ _=>⟨ob.slots,k b ob q⟩,fun _ _ _ n _=>n,fun b ob q _=>⟨ob,k b ob q⟩,fun _ _ q=>q,fun _ _ _ q=>q,fun _ ps q=>⟨#[],by rw[q];simp⟩⟩
theorem Un.refl:Un fs ex H H h h:=Un.kept fun _ _ q=>q
theorem Un.laid(k:∀b u,h.get? b=some u→h'.get? b=some u)(hp:h.objs.size≤a)(hn:H a=none):Un fs ex H (upd H a o) h h' where
 keep:=fun b u q _ _ _=>k b u q
 slot:=fun b u q _ _ _=>⟨u.slots,k b u q⟩
 free:=fun b u q n _=>by rw[aL (Nat.ne_of_lt (Yt (Heap.lt_size q) hp))];exact n
 there:=fun b u q _=>⟨u,k b u q⟩
 tups:=fun b xs q=>by rw[aL (aJ q hn)];exact q
 frzs:=fun b u xs q=>by rw[aL (aJ q hn)];exact q
 tbls:=fun b ps q=>⟨#[],by rw[aL (aJ q hn),q];simp⟩
theorem Un.write(mu:Mut (H x))(he:e=x∨H e=some (.own x))(k:∀b u,b≠e→h.get? b=some u→h'.get? b=some u)(heo:∃u,h'.get? e=some u):Un fs ex H (upd H x o) h h':=by
 have hx:∀b,H b=none→b≠x:=fun b n z=>by subst z;rw[n]at mu;exact mu
 have hb:∀b,H b=none→b≠e:=fun b n z=>by
  subst z;rcases he with r | r
  ·exact hx b n r
  ·rw[n]at r;cases r
 have hm:∀b u,H b=some u→¬Mut (some u)→b≠x:=fun b u q nm z=>by subst z;rw[q]at mu;exact nm mu
 refine⟨fun b u q n _ _=>k b u (hb b n) q,fun b u q n _ _=>⟨u.slots,k b u (hb b n) q⟩,fun b u q n _=>by rw[aL (hx b n)];exact n,fun b u q _=>?_,
  fun b xs q=>by rw[aL (hm b _ q fun z=>z)];exact q,fun b u xs q=>by rw[aL (hm b _ q fun z=>z)];exact q,fun b ps q=>⟨#[],by rw[aL (hm b _ q fun z=>z),q];simp⟩⟩
 by_cases hbe:b=e
 ·subst hbe;exact heo
 ·exact⟨u,k b u hbe q⟩
end
def trk(h:Heap)(H:Hp):List Addr:=(List.range h.objs.size).filter fun a=>(H a).isSome
def BV(h:Heap)(H:Hp):Heap:=PySem.W.hideAll h (trk h H)
theorem KS(h:Heap)(H:Hp):(BV h H).objs.size=h.objs.size:=PySem.W.hideAll_size _ _
theorem N0{h:Heap}{H:Hp}{b:Addr}{o:Obj}(e:h.get? b=some o)(n:H b=none):(BV h H).get? b=some o :=
 PySem.W.hideAll_get _ e fun hm=>by
  have q:(H b).isSome=true:=(Yz.mp hm).2;rw[n]at q;simp at q
theorem QB{h:Heap}{H:Hp}{b:Addr}{o:Obj}(e:(BV h H).get? b=some o):h.get? b=some o∧H b=none:=by
 have e':h.get? b=some o:=PySem.W.of_hideAll (trk h H) e;refine⟨e',?_⟩;cases q:H b with
 |none=>rfl
 |some x =>
  have hm:b∈trk h H:=Yz.mpr ⟨Zs.mpr (Heap.lt_size e'),by simp[q]⟩;have z:(BV h H).get? b=none:=PySem.W.hideAll_none (trk h H) hm;rw[z]at e;cases e
end L2
namespace L2
open PySem PySem.Spec PyProof.Rows
structure Mod(K:PySem.W.Frag)(mg:Str→Option Value)(base:Heap):Prop where
 kin:K.In base
 glob:base.Ns ZV mg
 blt:∃mb,base.Ns builtinsNs mb∧∀x:Str,x≠"__name__"→mb x=bootBuiltins x
 nolimit:base.NoLimit
structure Cx where
 prog:Program
 w:World
 K:PySem.W.Frag
 mg:Str→Option Value
 base:Heap
 A:Around
 N:List Str
 s₀:Shared
 H₀:Hp
 env:Env
 outer:List Env
 stack:List Env
 ex:List Addr
 fn:Str→Bool
 calm:Bool
 pn:List (Addr×Obj)
 xe:Value→Shared→Prop
def frs(l:List Env):List Addr:=l.filterMap (·.frame)
abbrev Cx.fs(X:Cx):List Addr:=frs X.outer
def Vis(sc:Scope)(x:Str):Prop:=sc.names.lookup x=some .local∨sc.names.lookup x=some .cell∨sc.names.lookup x=some .free
def Loc(sc:Scope)(x:Str):Prop:=sc.names.lookup x=some .local∨sc.names.lookup x=some .cell
def Look(env:Env)(h:Heap)(m:Str→Option Value)(x:Str)(u:Value):Prop :=
 (env.kindOf x=some .local∧m x=some u)∨((env.kindOf x=some .cell∨env.kindOf x=some .free)∧∃c,env.cells.lookup x=some c∧h.IsCell c (some u))
structure Cx.Ok(X:Cx):Prop where
 mod:Mod X.K X.mg X.base
 kind:X.env.scope.kind=.function
 glob:X.env.globals=ZV
 blt:X.env.builtins=builtinsNs
 above:X.s₀.heap.objs.size≤X.env.locals
 inj:∀x y c,X.env.cells.lookup x=some c→X.env.cells.lookup y=some c→x=y
 has:∀x,(X.env.kindOf x=some .cell∨X.env.kindOf x=some .free)→∃c,X.env.cells.lookup x=some c
 cab:∀x c,X.fn x=true→X.env.cells.lookup x=some c→X.s₀.heap.objs.size≤c
 hd:X.calm=true→X.A.handled=none
 frames:X.A.frames=some X.stack
 stk:X.stack=X.outer∨(X.stack=X.env::X.outer∧X.env.frame=some X.env.locals)
 exf:∀b∈X.ex,b≠X.env.locals∧∀x c,X.env.cells.lookup x=some c→c≠b
 bs:∀b o,X.base.get? b=some o→X.s₀.heap.get? b=some o∧X.H₀ b=none
 bsz:X.base.objs.size≤X.s₀.heap.objs.size
 noex:∀b o,X.base.get? b=some o→b∉X.ex
 exfs:∀b∈X.ex,b∉X.fs
 funs:X.s₀.heap.FunFrames X.base X.outer
 frf:∀b∈X.fs,X.H₀ b=none
structure Inv(X:Cx)(pins:List (Addr×Obj))(σ:List (Option V))(H:Hp)(s:Shared):Prop where
 ok:X.Ok
 os:s.os=X.s₀.os
 bare:AllBare s.gens
 base:Un X.fs X.ex X.H₀ H X.s₀.heap s.heap
 loc:∃m,s.heap.Ns X.env.locals m∧∀(i:Nat) (x:Str) (v:V),X.N[i]?=some x→σ[i]?=some (some v)→Vis X.env.scope x→∃u,RelV v u∧Look X.env s.heap m x u
 cell:∀x c,X.env.cells.lookup x=some c→∃v,s.heap.IsCell c v
 free:H X.env.locals=none
 freeC:∀x c,X.env.cells.lookup x=some c→H c=none
 pin:∀p∈X.pn++pins,s.heap.get? p.1=some p.2∧H p.1=none∧p.1≠X.env.locals∧p.1∉X.fs∧∀v,p.2.data≠.cell v
 hok:HOk X.prog X.w H s.heap
 len:σ.length=X.N.length
section
variable{X:Cx}{pins:List (Addr×Obj)}{σ:List (Option V)}{H H':Hp}{s:Shared}{h':Heap}
theorem Cx.Ok.nofr(ok:X.Ok){b:Addr}{o:Obj}(e:X.base.get? b=some o):b∉X.fs:=fun hb=>by
 have:=(ok.funs.mem hb).1;rw[e]at this;cases this
theorem Inv.bs(I:Inv X pins σ H s):∀b o,X.base.get? b=some o→s.heap.get? b=some o∧H b=none:=fun b o e =>
 ⟨I.base.keep b o (I.ok.bs b o e).1 (I.ok.bs b o e).2 (I.ok.nofr e) (I.ok.noex b o e),I.base.free b o (I.ok.bs b o e).1 (I.ok.bs b o e).2 (I.ok.noex b o e)⟩
theorem Inv.bk(I:Inv X pins σ H s):∀b o,X.base.get? b=some o→s.heap.get? b=some o:=fun b o e=>(I.bs b o e).1
theorem Inv.mod(I:Inv X pins σ H s):Mod X.K X.mg X.base:=I.ok.mod
theorem Inv.kIn(I:Inv X pins σ H s):X.K.In s.heap:=I.ok.mod.kin.keeps I.bk
theorem Inv.fr(I:Inv X pins σ H s):∃m,Fr X.base X.env.locals s.heap m :=
 let⟨m,hn,_⟩:=I.loc
 ⟨m,hn,I.bk,Yr I.ok.bsz I.ok.above⟩
theorem Inv.lt(I:Inv X pins σ H s):X.env.locals<s.heap.objs.size:=let⟨_,hn,_⟩:=I.loc;hn.lt
theorem Inv.sz(I:Inv X pins σ H s):X.s₀.heap.objs.size≤s.heap.objs.size:=Yr I.ok.above (Nat.le_of_lt I.lt)
theorem Inv.nofs(I:Inv X pins σ H s){a:Addr}(h:s.heap.objs.size≤a):a∉X.fs:=fun hb=>by
 obtain⟨_,o,ho,_⟩:=I.ok.funs.mem hb;exact absurd (Yt (Heap.lt_size ho) (Yr I.sz h)) (Nat.lt_irrefl _)
theorem Inv.cne(I:Inv X pins σ H s):∀x c,X.env.cells.lookup x=some c→c≠X.env.locals:=fun x c e z=>by
 obtain⟨v,o,ho,hd⟩:=I.cell x c e;obtain⟨m,⟨o',es,ep,ho',hd',_⟩,_⟩:=I.loc;rw[z,ho']at ho;cases ho;rw[hd']at hd;cases hd
theorem Inv.funs(I:Inv X pins σ H s):s.heap.FunFrames X.base X.outer:=by
 have all:∀(l:List Env),(∀b∈frs l,b∈X.fs)→X.s₀.heap.FunFrames X.base l→s.heap.FunFrames X.base l:=by
  intro l;induction l with
  |nil=>intro _ _;trivial
  |cons env r ih =>
   intro hs hl;obtain⟨hk,⟨L,o,hf,hn,ho,hd⟩,hr⟩:=hl;have hL:L∈X.fs:=hs L (by unfold frs;rw[List.filterMap_cons,hf];exact Zd);obtain⟨sl,e⟩:=I.base.slot L o ho (I.ok.frf L hL) hL fun z=>I.ok.exfs L z hL;exact⟨hk,⟨L,_,hf,hn,e,hd⟩,ih (fun b hb=>hs b (by unfold frs;rw[List.filterMap_cons,hf];exact Zw _ hb)) hr⟩
 exact all X.outer (fun _ hb=>hb) I.ok.funs
theorem Inv.stack(I:Inv X pins σ H s):s.heap.FunFrames X.base X.stack:=by
 rcases I.ok.stk with e | ⟨e,hf⟩
 ·rw[e];exact I.funs
 ·rw[e];obtain⟨m,hn,_⟩:=I.loc;refine .cons (by rw[I.ok.kind];decide) hf hn ?_ I.funs;exact Heap.get?_none_of_le (Yr I.ok.bsz I.ok.above)
theorem Inv.stkSub(I:Inv X pins σ H s):∀b∈frs X.stack,b∈X.env.locals::X.fs:=fun b hb=>by
 rcases I.ok.stk with e | ⟨e,hf⟩
 ·rw[e]at hb;exact Zw _ hb
 ·rw[e]at hb;unfold frs at hb;rw[List.filterMap_cons,hf]at hb;exact hb
theorem Inv.stkFree(I:Inv X pins σ H s):∀b∈frs X.stack,H b=none:=fun b hb=>by
 rcases Zn.mp (I.stkSub b hb) with e | hb
 ·rw[e];exact I.free
 ·obtain⟨_,o,ho,_⟩:=I.ok.funs.mem hb;exact I.base.free b o ho (I.ok.frf b hb) fun z=>I.ok.exfs b z hb
theorem Inv.step{g':Array GenState}{t':Nat}{d':Drawn}{ch:List Addr}(I:Inv X pins σ H s)
  (hch:∀b∈ch,(b∈X.ex∨X.s₀.heap.objs.size≤b)∧b≠X.env.locals∧(∀x c,X.env.cells.lookup x=some c→c≠b)∧∀p∈X.pn++pins,p.1≠b)
  (keep:∀b o,b≠X.env.locals→b∉X.fs→b∉ch→s.heap.get? b=some o→H b=none→h'.get? b=some o)
  (slot:∀b o,b≠X.env.locals→b∈X.fs→b∉ch→s.heap.get? b=some o→H b=none→∃sl,h'.get? b=some { o with slots:=sl }) (free:∀b o,b∉ch→s.heap.get? b=some o→H b=none→H' b=none)
  (there:∀b o,b∉ch→s.heap.get? b=some o→∃o',h'.get? b=some o')
  (tups:∀b xs,H b=some (.tup xs)→H' b=some (.tup xs)) (frzs:∀b o u,H b=some (.frz o u)→H' b=some (.frz o u)) (tbls:∀b ps,H b=some (.tbl ps)→∃more,H' b=some (.tbl (ps++more)))
  (ns:∀m,s.heap.Ns X.env.locals m→h'.Ns X.env.locals m) (hok:HOk X.prog X.w H' h') (hg:AllBare g') :
  Inv X pins σ H' { s with heap:=h',gens:=g',drawn:=d',toks:=t' }:=by
 have neL:∀b o,X.s₀.heap.get? b=some o→b≠X.env.locals:=fun b o e=>Nat.ne_of_lt (Yt (Heap.lt_size e) I.ok.above);have neC:∀b o,X.s₀.heap.get? b=some o→b∉X.ex→b∉ch:=fun b o e hx hb=>by
  rcases(hch b hb).1 with z | z
  ·exact hx z
  ·exact absurd (Yt (Heap.lt_size e) z) (Nat.lt_irrefl _)
 have cellK:∀x c,X.env.cells.lookup x=some c→∀v,s.heap.IsCell c v→h'.IsCell c v:=fun x c e v ⟨o,ho,hd⟩=>by
  have nch:c∉ch:=fun z=>(hch c z).2.2.1 x c e rfl;by_cases hc:c∈X.fs
  ·obtain⟨sl,q⟩:=slot c o (I.cne x c e) hc nch ho (I.freeC x c e);exact⟨_,q,hd⟩
  ·exact⟨o,keep c o (I.cne x c e) hc nch ho (I.freeC x c e),hd⟩
 refine⟨I.ok,I.os,hg,⟨fun b o e n hb hx=>?_,fun b o e n hb hx=>?_,fun b o e n hx=>?_,fun b o e hx=>?_,fun b xs e=>tups b xs (I.base.tups b xs e),fun b o xs e=>frzs b o xs (I.base.frzs b o xs e),fun b ps e=>?_⟩,?_,fun x c e=>?_,?_,fun x c e=>?_,fun p hp=>?_,hok,I.len⟩
 ·exact keep b o (neL b o e) hb (neC b o e hx) (I.base.keep b o e n hb hx) (I.base.free b o e n hx)
 ·obtain⟨sl,e1⟩:=I.base.slot b o e n hb hx;obtain⟨sl',e2⟩:=slot b _ (neL b o e) hb (neC b o e hx) e1 (I.base.free b o e n hx);exact⟨sl',e2⟩
 ·obtain⟨o',e1⟩:=I.base.there b o e hx;exact free b o' (neC b o e hx) e1 (I.base.free b o e n hx)
 ·obtain⟨o',e1⟩:=I.base.there b o e hx;exact there b o' (neC b o e hx) e1
 ·obtain⟨m1,e1⟩:=I.base.tbls b ps e;obtain⟨m2,e2⟩:=tbls b _ e1;exact⟨m1++m2,by rw[e2,Array.append_assoc]⟩
 ·obtain⟨m,hn,hl⟩:=I.loc;refine⟨m,ns m hn,fun i x v e1 e2 e3=>?_⟩;obtain⟨u,r,l⟩:=hl i x v e1 e2 e3;refine⟨u,r,?_⟩;rcases l with l | ⟨k,c,e,z⟩
  ·exact .inl l
  ·exact .inr ⟨k,c,e,cellK x c e _ z⟩
 ·obtain⟨v,z⟩:=I.cell x c e;exact⟨v,cellK x c e v z⟩
 ·obtain⟨m,⟨o,_,_,ho,_⟩,_⟩:=I.loc;exact free _ o (fun z=>(hch _ z).2.1 rfl) ho I.free
 ·obtain⟨v,o,ho,hd⟩:=I.cell x c e;exact free c o (fun z=>(hch c z).2.2.1 x c e rfl) ho (I.freeC x c e)
 ·obtain⟨e,n,ne,nf,d⟩:=I.pin p hp;have nch:p.1∉ch:=fun z=>(hch p.1 z).2.2.2 p hp rfl;exact⟨keep p.1 p.2 ne nf nch e n,free p.1 p.2 nch e n,ne,nf,d⟩
theorem Inv.un{t':Nat}(I:Inv X pins σ H s)(u:Un X.fs [] H H' s.heap h')(hok:HOk X.prog X.w H' h'):Inv X pins σ H' { s with heap:=h',toks:=t' }:=by
 obtain⟨m,⟨o,es,ep,ho,r⟩,_⟩:=id I.loc;obtain⟨sl,hL⟩:=u.any ho I.free (by simp);exact I.step (g':=s.gens) (d':=s.drawn) (ch:=[]) (fun _ z=>nomatch z) (fun b o _ hb _ e n=>u.keep b o e n hb (by simp)) (fun b o _ hb _ e n=>u.slot b o e n hb (by simp)) (fun b o _ e n=>u.free b o e n (by simp)) (fun b o _ e=>u.there b o e (by simp)) u.tups u.frzs u.tbls (fun m' hm=>by
  obtain⟨o',es',ep',ho',r'⟩:=hm;rw[ho]at ho';cases ho';exact⟨_,es',ep',hL,r'⟩) hok I.bare
theorem Inv.call{g':Array GenState}{t':Nat}{d':Drawn}{ch:List Addr}(I:Inv X pins σ H s)(u:Un (frs X.stack) ch H H' s.heap h')(hok:HOk X.prog X.w H' h')(hg:AllBare g')
  (hch:∀b∈ch,(b∈X.ex∨X.s₀.heap.objs.size≤b)∧b≠X.env.locals∧(∀x c,X.env.cells.lookup x=some c→c≠b)∧∀p∈X.pn++pins,p.1≠b) :
  Inv X pins σ H' { s with heap:=h',gens:=g',drawn:=d',toks:=t' }:=by
 obtain⟨m,⟨o,es,ep,ho,r⟩,_⟩:=id I.loc;obtain⟨sl,hL⟩:=u.any ho I.free fun z=>(hch _ z).2.1 rfl;exact I.step (ch:=ch) hch (fun b o hL hb hc e n=>u.keep b o e n (fun z=>(Zn.mp (I.stkSub b z)).elim hL hb) hc) (fun b o _ _ hc e n=>u.any e n hc) (fun b o hc e n=>u.free b o e n hc) (fun b o hc e=>u.there b o e hc) u.tups u.frzs u.tbls (fun m' hm=>by
  obtain⟨o',es',ep',ho',r'⟩:=hm;rw[ho]at ho';cases ho';exact⟨_,es',ep',hL,r'⟩) hok hg
theorem Inv.turned{t':Nat}{it:Addr}(I:Inv X pins σ H s)(k:∀b o,b≠it→s.heap.get? b=some o→h'.get? b=some o)(hn:H it=none)(hL:it≠X.env.locals)
  (h1:it∈X.ex∨X.s₀.heap.objs.size≤it) (h2:∀x c,X.env.cells.lookup x=some c→c≠it) (h3:∀p∈X.pn++pins,p.1≠it):Inv X pins σ H { s with heap:=h',toks:=t' }:=by
 have nit:∀b u,H b=some u→b≠it:=fun b u e z=>by rw[z,hn]at e;cases e
 refine I.step (g':=s.gens) (d':=s.drawn) (ch:=[it]) (fun b hb=>?_) (fun b o _ _ hc e _=>k b o (fun z=>hc (by simp[z])) e) (fun b o _ _ hc e _=>⟨o.slots,k b o (fun z=>hc (by simp[z])) e⟩) (fun _ _ _ _ n=>n)
  (fun b o hc e=>⟨o,k b o (fun z=>hc (by simp[z])) e⟩) (fun _ _ e=>e) (fun _ _ _ e=>e) (fun b ps e=>⟨#[],by rw[e];simp⟩) (fun m hm=>?_) (fun b u e=>?_) I.bare
 ·have e:b=it:=by simpa using hb
  subst e;exact⟨h1,hL,h2,h3⟩
 ·obtain⟨o,es,ep,ho,r⟩:=hm;exact⟨o,es,ep,k _ o (Ne.symm hL) ho,r⟩
 ·refine(I.hok b u e).stay (fun c v hc q=>k c v ?_ q) (fun _ q=>q) fun _ _ q=>q;rcases hc with z | z
  ·rw[z];exact nit b u e
  ·exact nit c _ z
theorem Inv.tok(I:Inv X pins σ H s)(t:Nat):Inv X pins σ H { s with toks:=t }:=I.un (h':=s.heap) (t':=t) Un.refl I.hok
theorem Inv.kept{t':Nat}(I:Inv X pins σ H s)(k:∀b u,s.heap.get? b=some u→h'.get? b=some u):Inv X pins σ H { s with heap:=h',toks:=t' }:=I.un (Un.kept k) (I.hok.kept k)
theorem Inv.laid{a:Addr}{o:HO}{t':Nat}(I:Inv X pins σ H s)(k:∀b u,s.heap.get? b=some u→h'.get? b=some u)(hp:s.heap.objs.size≤a)(new:dC X.prog X.w (upd H a o) h' a o) :
  Inv X pins σ (upd H a o) { s with heap:=h',toks:=t' }:=I.un (Un.laid k hp (I.hok.fresh hp)) (I.hok.laid k hp new)
theorem Inv.write{x e:Addr}{o:HO}{t':Nat}(I:Inv X pins σ H s)(mu:Mut (H x))(he:e=x∨H e=some (.own x))(k:∀b u,b≠e→s.heap.get? b=some u→h'.get? b=some u)(heo:∃u,h'.get? e=some u)
  (new:dC X.prog X.w (upd H x o) h' x o):Inv X pins σ (upd H x o) { s with heap:=h',toks:=t' }:=I.un (Un.write mu he k heo) (I.hok.write mu he k heo new)
theorem Inv.weak{σ':List (Option V)}(I:Inv X pins σ H s)(hl:σ'.length=σ.length)(w:∀(i:Nat) v,σ'[i]?=some (some v)→σ[i]?=some (some v)):Inv X pins σ' H s :=
 ⟨I.ok,I.os,I.bare,I.base,let⟨m,hn,hl'⟩:=I.loc;⟨m,hn,fun i x v e1 e2 e3=>hl' i x v e1 (w i v e2) e3⟩,I.cell,I.free,I.freeC,I.pin,I.hok,hl.trans I.len⟩
theorem Inv.pins_of{pins':List (Addr×Obj)}(I:Inv X pins σ H s)(h:∀p∈pins',s.heap.get? p.1=some p.2∧H p.1=none∧p.1≠X.env.locals∧p.1∉X.fs∧∀v,p.2.data≠.cell v):Inv X pins' σ H s :=
 ⟨I.ok,I.os,I.bare,I.base,I.loc,I.cell,I.free,I.freeC,fun p hp=>(Zf.mp hp).elim (fun z=>I.pin p (List.mem_append_left _ z)) (h p),I.hok,I.len⟩
theorem xI{N:List Str}(hN:N.Nodup){i j:Nat}{x:Str}(a:N[i]?=some x)(b:N[j]?=some x):i=j:=by
 obtain⟨h1,e1⟩:=Zj.mp a;obtain⟨h2,e2⟩:=Zj.mp b;exact(List.getElem_inj hN).mp (e1.trans e2.symm)
theorem JT{M:Model}{A:Around}{E:Value→Shared→Prop}{i:Nat}{x:Str}{v:V}{u:Value}{Q:Unit→Shared→Prop}(I:Inv X pins σ H s)(hN:X.N.Nodup)(hi:X.N[i]?=some x)(hx:Loc X.env.scope x)(r:RelV v u)
  (h:∀s',Inv X pins (σ.set i (some v)) H s'→(∃a,Heap.SameBut a s.heap s'.heap∧(a=X.env.locals∨X.env.cells.lookup x=some a))→Q () s') (hf:X.fn x=true∨X.env.scope.names.lookup x=some .local:=by first | exact .inl rfl | exact .inr rfl | assumption):wpAny M A (storeName X.env x u) Q E s:=by
 obtain⟨m,hn,hl⟩:=id I.loc;have hcls:(X.env.scope.kind==.class||(X.env.scope.kind==.module&&X.env.locals != X.env.globals))=false:=by rw[I.ok.kind];rfl
 have hiσ:i<σ.length:=by rw[I.len];exact(Zj.mp hi).1
 have cne:=I.cne;have tracked:∀{a:Addr}{h':Heap},(∃o,s.heap.get? a=some o∧H a=none)→Heap.SameBut a s.heap h'→HOk X.prog X.w H h':=fun {a h'} ha hs b ob e=>by
  obtain⟨_,_,hfree⟩:=ha;refine(I.hok b ob e).stay (fun c w' hc q=>(hs.2 c ?_).trans q) (fun _ q=>q) fun _ _ q=>q;rintro rfl;rcases hc with rfl | hc
  ·rw[hfree]at e;cases e
  ·rw[hfree]at hc;cases hc
 rcases hx with hk | hk
 ·refine wpAny_storeName_local hk hn (fun h' hn' hs=>?_) hcls;obtain⟨oL,_,_,hoL,_⟩:=id hn;refine h _ ⟨I.ok,I.os,I.bare,⟨fun b o e n hb hx=>?_,fun b o e n hb hx=>?_,I.base.free,fun b o e hx=>?_,I.base.tups,I.base.frzs,I.base.tbls⟩,⟨_,hn',fun j y v' e1 e2 e3=>?_⟩,fun y c e=>?_,I.free,I.freeC,fun p hp=>?_,tracked ⟨oL,hoL,I.free⟩ hs,by simpa using I.len⟩ ⟨_,hs,.inl rfl⟩
  ·exact(hs.2 b (Nat.ne_of_lt (Yt (Heap.lt_size e) I.ok.above))).trans (I.base.keep b o e n hb hx)
  ·obtain⟨sl,e1⟩:=I.base.slot b o e n hb hx;exact⟨sl,(hs.2 b (Nat.ne_of_lt (Yt (Heap.lt_size e) I.ok.above))).trans e1⟩
  ·obtain⟨o',e1⟩:=I.base.there b o e hx;exact⟨o',(hs.2 b (Nat.ne_of_lt (Yt (Heap.lt_size e) I.ok.above))).trans e1⟩
  ·by_cases hj:j=i
   ·subst hj;rw[hi]at e1;cases e1;rw[List.getElem?_set_self hiσ]at e2;cases e2;exact⟨u,r,.inl ⟨hk,by simp⟩⟩
   ·rw[List.getElem?_set_ne (Ne.symm hj)]at e2;obtain⟨u',r',q⟩:=hl j y v' e1 e2 e3;refine⟨u',r',?_⟩;rcases q with⟨k,e⟩ | ⟨k,c,e,z⟩
    ·refine .inl ⟨k,?_⟩;have:y≠x:=fun e=>hj (xI hN e1 (e▸hi));simp[this,e]
    ·exact .inr ⟨k,c,e,z.sameBut hs (cne y c e)⟩
  ·obtain⟨w',z⟩:=I.cell y c e;exact⟨w',z.sameBut hs (cne y c e)⟩
  ·obtain⟨e,n,ne,nf,d⟩:=I.pin p hp;exact⟨(hs.2 p.1 ne).trans e,n,ne,nf,d⟩
 ·have hfn:X.fn x=true:=by
   rcases hf with z | z
   ·exact z
   ·rw[z]at hk;cases hk
  obtain⟨c,hc⟩:=I.ok.has x (.inl hk);obtain⟨w',z⟩:=I.cell x c hc;refine wpAny_storeName_cell I.ok.kind hk hc z (fun h' hc' hs=>?_);obtain⟨oc,hoc,hocd⟩:=id z;refine h { s with heap:=h' } ⟨I.ok,I.os,I.bare,⟨fun b o e n hb hx=>?_,fun b o e n hb hx=>?_,I.base.free,fun b o e hx=>?_,I.base.tups,I.base.frzs,I.base.tbls⟩,⟨m,hn.sameBut hs (Ne.symm (cne x c hc)),fun j y v' e1 e2 e3=>?_⟩,fun y c' e=>?_,I.free,I.freeC,fun p hp=>?_,tracked ⟨oc,hoc,I.freeC x c hc⟩ hs,by simpa using I.len⟩ ⟨c,hs,.inr hc⟩
  ·exact(hs.2 b (Nat.ne_of_lt (Yt (Heap.lt_size e) (I.ok.cab x c hfn hc)))).trans (I.base.keep b o e n hb hx)
  ·obtain⟨sl,e1⟩:=I.base.slot b o e n hb hx;exact⟨sl,(hs.2 b (Nat.ne_of_lt (Yt (Heap.lt_size e) (I.ok.cab x c hfn hc)))).trans e1⟩
  ·obtain⟨o',e1⟩:=I.base.there b o e hx;exact⟨o',(hs.2 b (Nat.ne_of_lt (Yt (Heap.lt_size e) (I.ok.cab x c hfn hc)))).trans e1⟩
  ·by_cases hj:j=i
   ·subst hj;rw[hi]at e1;cases e1;rw[List.getElem?_set_self hiσ]at e2;cases e2;exact⟨u,r,.inr ⟨.inl hk,c,hc,hc'⟩⟩
   ·rw[List.getElem?_set_ne (Ne.symm hj)]at e2;obtain⟨u',r',q⟩:=hl j y v' e1 e2 e3;refine⟨u',r',?_⟩;rcases q with q | ⟨k,c',e,z'⟩
    ·exact .inl q
    ·refine .inr ⟨k,c',e,z'.sameBut hs ?_⟩;rintro rfl;exact hj (xI hN e1 (I.ok.inj _ _ _ e hc▸hi))
  ·by_cases hcc:c'=c
   ·subst hcc;exact⟨_,hc'⟩
   ·obtain⟨w2,z2⟩:=I.cell y c' e;exact⟨w2,z2.sameBut hs hcc⟩
  ·obtain⟨e,n,ne,nf,d⟩:=I.pin p hp;refine⟨(hs.2 p.1 ?_).trans e,n,ne,nf,d⟩;intro q;rw[q,hoc]at e;have q':oc=p.2:=Option.some.inj e;exact d w' (by rw[←q'];exact hocd)
theorem iM{M:Model}{A:Around}{E:Value→Shared→Prop}{i:Nat}{x:Str}{v:V}{u:Value}{Q:Unit→Shared→Prop}(I:Inv X pins σ H s)(hN:X.N.Nodup)(hi:X.N[i]?=some x)(hx:Loc X.env.scope x)(r:RelV v u)
  (h:∀s',Inv X pins (σ.set i (some v)) H s'→Q () s') (hf:X.fn x=true∨X.env.scope.names.lookup x=some .local:=by first | exact .inl rfl | exact .inr rfl | assumption):wpAny M A (storeName X.env x u) Q E s :=
 JT I hN hi hx r (fun s' I' _=>h s' I') hf
theorem Inv.call'{s':Shared}{ch:List Addr}(I:Inv X pins σ H s)(ho:s'.os=s.os)(u:Un (frs X.stack) ch H H' s.heap s'.heap)(hok:HOk X.prog X.w H' s'.heap)(hg:AllBare s'.gens)
  (hch:∀b∈ch,(b∈X.ex∨X.s₀.heap.objs.size≤b)∧b≠X.env.locals∧(∀x c,X.env.cells.lookup x=some c→c≠b)∧∀p∈X.pn++pins,p.1≠b):Inv X pins σ H' s':=by
 obtain⟨h',g',d',t',o'⟩:=s';have e:o'=s.os:=ho;subst e;exact I.call (g':=g') (t':=t') (d':=d') u hok hg hch
end
abbrev XK:=Value→Option Addr→Hp→Prop
abbrev St:=List (Option V)
abbrev VK:=V→Hp→Prop
abbrev TE:=St→Hp→VK→Prop
abbrev TT:=St→Hp→(Bool→Hp→Prop)→Prop
abbrev TA:=St→Hp→(List V→Hp→Prop)→Prop
structure Ends where
 nx:St→Hp→Prop
 rt:VK
 bk:St→Hp→Prop:=fun _ _=>False
 ct:St→Hp→Prop:=fun _ _=>False
abbrev TS:=Ends→St→Hp→Prop
def EP(X:Cx)(pins:List (Addr×Obj))(σ:St)(Q:VK)(u:Value)(s':Shared):Prop:=∃v H',Inv X pins σ H' s'∧RelV v u∧Q v H'
def TP(X:Cx)(pins:List (Addr×Obj))(σ:St)(Q:Bool→Hp→Prop)(b:Bool)(s':Shared):Prop:=∃H',Inv X pins σ H' s'∧Q b H'
def AP(X:Cx)(pins:List (Addr×Obj))(σ:St)(Q:List V→Hp→Prop)(us:List Value)(s':Shared):Prop:=∃vs H',Inv X pins σ H' s'∧bY vs us∧Q vs H'
def SP(X:Cx)(pins:List (Addr×Obj))(D:Ends)(f:Flow)(s':Shared):Prop :=
 match f with
 |.next=>∃σ' H',Inv X pins σ' H' s'∧D.nx σ' H'
 |.brk=>∃σ' H',Inv X pins σ' H' s'∧D.bk σ' H'
 |.cont=>∃σ' H',Inv X pins σ' H' s'∧D.ct σ' H'
 |.ret u=>∃v σ' H',Inv X pins σ' H' s'∧RelV v u∧D.rt v H'
def PE(X:Cx)(e:Expr)(t:TE):Prop :=
 ∀(pins:List (Addr×Obj)) (s:Shared) (σ:St) (H:Hp) (Q:VK),Inv X pins σ H s→t σ H Q→wpAny (model X.prog X.w) X.A (eval e X.env) (EP X pins σ Q) X.xe s
def PT(X:Cx)(e:Expr)(t:TT):Prop :=
 ∀(pins:List (Addr×Obj)) (s:Shared) (σ:St) (H:Hp) (Q:Bool→Hp→Prop),Inv X pins σ H s→t σ H Q→wpAny (model X.prog X.w) X.A (isTrue e X.env (eval e X.env)) (TP X pins σ Q) X.xe s
def PW(X:Cx)(e:Expr)(t:TT):Prop :=
 ∀(whole:Sem Value) (pins:List (Addr×Obj)) (s:Shared) (σ:St) (H:Hp) (Q:Bool→Hp→Prop),Inv X pins σ H s→t σ H Q→wpAny (model X.prog X.w) X.A (isTrue e X.env whole) (TP X pins σ Q) X.xe s
theorem PW.pt{X:Cx}{e:Expr}{t:TT}(h:PW X e t):PT X e t:=h _
def PA(X:Cx)(es:List Expr)(t:TA):Prop :=
 ∀(pos:Pos) (pins:List (Addr×Obj)) (s:Shared) (σ:St) (H:Hp) (Q:List V→Hp→Prop),Inv X pins σ H s→t σ H Q→wpAny (model X.prog X.w) X.A (spliced (backTo pos (starEach es X.env))) (AP X pins σ Q) X.xe s
def PS(X:Cx)(st:Stmt)(t:TS):Prop :=
 ∀(pins:List (Addr×Obj)) (s:Shared) (σ:St) (H:Hp) (D:Ends),Inv X pins σ H s→t D σ H→wpAny (model X.prog X.w) X.A (exec st X.env) (SP X pins D) X.xe s
def PSs(X:Cx)(st:List Stmt)(t:TS):Prop :=
 ∀(pins:List (Addr×Obj)) (s:Shared) (σ:St) (H:Hp) (D:Ends),Inv X pins σ H s→t D σ H→wpAny (model X.prog X.w) X.A (execs st X.env) (SP X pins D) X.xe s
theorem thn{α:Type}{t:Sem α}{Q Q':α→Shared→Prop}{M:Model}{A:Around}{E:Value→Shared→Prop}{s:Shared}(h:wpAny M A t Q E s)(hQ:∀a s,Q a s→Q' a s):wpAny M A t Q' E s:=ZX h hQ fun _ _ x=>x
end L2
namespace L2
open PySem PySem.Spec PyProof.Rows
section
variable{X:Cx}
theorem bin{a b:Expr}{ta tb:TE}(ha:PE X a ta)(hb:PE X b tb){pins:List (Addr×Obj)}{s:Shared}{σ:St}{H:Hp}{R:V→V→Hp→Prop}(I:Inv X pins σ H s)(h:ta σ H fun x H1=>tb σ H1 fun y H2=>R x y H2)
  {α:Type}{Q:α→Shared→Prop}{f:Value→Value→Sem α}
  (hf:∀v u s2 x y H2,Inv X pins σ H2 s2→RelV x v→RelV y u→R x y H2→wpAny (model X.prog X.w) X.A (f v u) Q X.xe s2) :
  wpAny (model X.prog X.w) X.A (eval a X.env) (fun v s₁=>wpAny (model X.prog X.w) X.A (eval b X.env) (fun u s₂=>wpAny (model X.prog X.w) X.A (f v u) Q X.xe s₂) X.xe s₁) X.xe s:=by
 refine thn (ha pins s σ H _ I h) fun v s1 ⟨x,H1,I1,r1,q1⟩=>?_;refine thn (hb pins s1 σ H1 _ I1 q1) fun u s2 ⟨y,H2,I2,r2,q2⟩=>?_;exact hf v u s2 x y H2 I2 r1 r2 q2
def OU(i:Nat):TE:=fun σ H Q=>∃v,σ[i]?=some (some v)∧Q v H
def tC(v:V):TE:=fun _ H Q=>Q v H
theorem SC{i:Nat}{x:Str}{pos:Pos}(hN:X.N[i]?=some x)(hv:Vis X.env.scope x)(hd:(x==("__debug__" : Str))=false:=by decide)(hcd:(x==("__classdict__" : Str))=false:=by decide):PE X (.Name x pos) (OU i):=by
 intro pins s σ H Q I h;obtain⟨v,e,h⟩:=h;obtain⟨m,hn,hl⟩:=I.loc;obtain⟨u,r,l⟩:=hl i x v hN e hv;have fin:EP X pins σ Q u s:=⟨v,H,I,r,h⟩
 rcases l with⟨hk,hm⟩ | ⟨hk,c,hc,hcell⟩
 ·exact wpAny_Name (wpAny_loadName_local I.ok.kind hk hn hm fin) hd
 ·rcases hk with hk | hk
  ·exact wpAny_Name (wpAny_loadName_cell I.ok.kind hk hc hcell fin) hd
  ·exact wpAny_Name (wpAny_loadName_free I.ok.kind hk hc hcell fin hcd) hd
theorem aH{i j pos}:PE X (.Constant (.int i) j pos) (tC (.int i)):=fun _ _ _ H _ I h=>wpAny_Constant_int ⟨.int i,H,I.tok _,⟨_,rfl⟩,h⟩
theorem pT{b j pos}:PE X (.Constant (.bool b) j pos) (tC (.bl b)):=fun _ _ _ H _ I h=>Constant_bool ⟨.bl b,H,I,rfl,h⟩
theorem eP{j pos}:PE X (.Constant .none j pos) (tC .non):=fun _ _ _ H _ I h=>Constant_none ⟨.non,H,I,rfl,h⟩
theorem dR{x j pos}:PE X (.Constant (.str x) j pos) (tC (.str x)):=fun _ _ _ H _ I h=>Calls.Constant_str ⟨.str x,H,I.tok _,⟨_,rfl⟩,h⟩
def Gl(X:Cx)(x:Str):Prop:=X.env.kindOf x=some .globalImplicit
theorem sF{E:Value→Shared→Prop}{pins:List (Addr×Obj)}{s:Shared}{σ:St}{H:Hp}{x:Str}{u:Value}{pos:Pos}{Q:Value→Shared→Prop}(I:Inv X pins σ H s)(hg:Gl X x)(hm:X.mg x=some u)(h:Q u s)
  (hd:(x==("__debug__" : Str))=false:=by decide):wpAny (model X.prog X.w) X.A (eval (.Name x pos) X.env) Q E s :=
 Calls.Name_function_global I.ok.kind hg (Calls.loadGlobal_global (by rw[I.ok.glob];exact I.mod.glob.keeps I.bk) hm h) hd
theorem oB{E:Value→Shared→Prop}{pins:List (Addr×Obj)}{s:Shared}{σ:St}{H:Hp}{x:Str}{u:Value}{pos:Pos}{Q:Value→Shared→Prop}(I:Inv X pins σ H s)(hg:Gl X x)(hm:X.mg x=none)(hv:bootBuiltins x=some u)(h:Q u s)
  (hn:x≠"__name__":=by decide) (hd:(x==("__debug__" : Str))=false:=by decide):wpAny (model X.prog X.w) X.A (eval (.Name x pos) X.env) Q E s:=by
 obtain⟨mb,h1,h2⟩:=I.mod.blt;exact Calls.Name_function_global I.ok.kind hg (Calls.loadGlobal_builtin (by rw[I.ok.glob];exact I.mod.glob.keeps I.bk) hm (by rw[I.ok.blt];exact h1.keeps I.bk) ((h2 x hn).trans hv) h) hd
theorem cE{x:Str}{v:V}{u:Value}{pos:Pos}(hg:Gl X x)(hm:X.mg x=some u)(r:RelV v u)(hd:(x==("__debug__" : Str))=false:=by decide):PE X (.Name x pos) (tC v) :=
 fun _ _ _ H _ I h=>sF I hg hm ⟨v,H,I,r,h⟩ hd
theorem HN{x:Str}{v:V}{u:Value}{pos:Pos}(hg:Gl X x)(hm:X.mg x=none)(hv:bootBuiltins x=some u)(r:RelV v u)(hn:x≠"__name__":=by decide)(hd:(x==("__debug__" : Str))=false:=by decide):PE X (.Name x pos) (tC v) :=
 fun _ _ _ H _ I h=>oB I hg hm hv ⟨v,H,I,r,h⟩ hn hd
variable{a b:Expr}{ta tb:TE}{pos:Pos}
def PC(X:Cx)(op:CmpOp)(a b:Expr)(t:TE):Prop :=
 ∀(pins:List (Addr×Obj)) (s:Shared) (σ:St) (H:Hp) (Q:VK),Inv X pins σ H s→t σ H Q →
  wpAny (model X.prog X.w) X.A (eval a X.env) (fun v s₁=>wpAny (model X.prog X.w) X.A (eval b X.env) (fun u s₂=>wpAny (model X.prog X.w) X.A (compareOp op v u) (EP X pins σ Q) X.xe s₂) X.xe s₁) X.xe s
def tB(t:TE):TT:=fun σ H Q=>t σ H fun x H1=>∃c,x=.bl c∧Q c H1
theorem SD{op:CmpOp}{t:TE}(h:PC X op a b t)(h1:behindInMarks op b=false:=by first | exact nobehind _ (by decide) (by decide) | rfl):PE X (.Compare a [op] [b] pos) t:=fun pins s σ H Q I hw=>wpAny_Compare1 (h pins s σ H Q I hw) h1
theorem R4{op:CmpOp}{t:TE}(h:PC X op a b t)(h1:behindInMarks op b=false:=by first | exact nobehind _ (by decide) (by decide) | rfl):PT X (.Compare a [op] [b] pos) (tB t):=by
 intro pins s σ H Q I hw;refine wpAny_isTrue_Compare1 (thn (h pins s σ H _ I hw) fun v s1 h1=>thn h1 fun u s2 h2=>thn h2 fun c s3 ⟨x,H1,I1,r1,q1⟩=>?_) h1;obtain⟨d,rfl,q⟩:=q1;cases r1;exact wpAny_truthy_bool ⟨H1,I1,q⟩
variable{tA tB':TT}{rest:List Expr}
def V0(t u:TT):TT:=fun σ H Q=>t σ H fun c H1=>if c=true then u σ H1 Q else Q false H1
def tOr(t u:TT):TT:=fun σ H Q=>t σ H fun c H1=>if c=true then Q true H1 else u σ H1 Q
def OV(t:TT):TT:=fun σ H Q=>t σ H fun c H1=>Q (!c) H1
theorem gG(ha:PT X a tA):PW X (.BoolOp .And [a] pos) tA:=by
 intro wh pins s σ H Q I h;refine isTrue_and (thn (ha pins s σ H Q I h) fun c s1 e=>?_);cases c with
 |true=>exact isTrue_and_nil e
 |false=>exact e
theorem nN(ha:PT X a tA):PW X (.BoolOp .Or [a] pos) tA:=by
 intro wh pins s σ H Q I h;refine isTrue_or (thn (ha pins s σ H Q I h) fun c s1 e=>?_);cases c with
 |false=>exact isTrue_or_nil e
 |true=>exact e
theorem gS(ha:PT X a tA)(hb:PW X (.BoolOp .And (b::rest) pos) tB'):PW X (.BoolOp .And (a::b::rest) pos) (V0 tA tB'):=by
 intro wh pins s σ H Q I h;refine isTrue_and (thn (ha pins s σ H _ I h) fun c s1 ⟨H1,I1,q1⟩=>?_);cases c with
 |true=>exact hb wh pins s1 σ H1 Q I1 q1
 |false=>exact⟨H1,I1,q1⟩
theorem rT(ha:PT X a tA)(hb:PW X (.BoolOp .Or (b::rest) pos) tB'):PW X (.BoolOp .Or (a::b::rest) pos) (tOr tA tB'):=by
 intro wh pins s σ H Q I h;refine isTrue_or (thn (ha pins s σ H _ I h) fun c s1 ⟨H1,I1,q1⟩=>?_);cases c with
 |true=>exact⟨H1,I1,q1⟩
 |false=>exact hb wh pins s1 σ H1 Q I1 q1
theorem gH(ha:PT X a tA):PT X (.UnaryOp .Not a pos) (OV tA):=by
 intro pins s σ H Q I h;exact isTrue_not (ha pins s σ H (fun c H1=>Q (!c) H1) I h)
def UE(ta tb:TE):TE:=fun σ H Q=>ta σ H fun x H1=>∃c,x=.bl c∧if c=true then tb σ H1 Q else Q (.bl false) H1
def VU(ta tb:TE):TE:=fun σ H Q=>ta σ H fun x H1=>∃c,x=.bl c∧if c=true then Q (.bl true) H1 else tb σ H1 Q
theorem FS{op}{t:TE}(h:PE X a t):PE X (.BoolOp op [a] pos) t:=fun pins s σ H Q I hw=>BoolOp_one (h pins s σ H Q I hw)
theorem M5(ha:PE X a ta)(hb:PE X (.BoolOp .And (b::rest) pos) tb):PE X (.BoolOp .And (a::b::rest) pos) (UE ta tb):=by
 intro pins s σ H Q I h;refine BoolOp_and (thn (ha pins s σ H _ I h) fun v s1 ⟨x,H1,I1,r1,q1⟩=>?_);obtain⟨c,rfl,q1⟩:=q1;cases r1;refine wpAny_truthy_bool ?_;cases c with
 |true=>exact hb pins s1 σ H1 Q I1 q1
 |false=>exact⟨.bl false,H1,I1,rfl,q1⟩
theorem UX(ha:PE X a ta)(hb:PE X (.BoolOp .Or (b::rest) pos) tb):PE X (.BoolOp .Or (a::b::rest) pos) (VU ta tb):=by
 intro pins s σ H Q I h;refine BoolOp_or (thn (ha pins s σ H _ I h) fun v s1 ⟨x,H1,I1,r1,q1⟩=>?_);obtain⟨c,rfl,q1⟩:=q1;cases r1;refine wpAny_truthy_bool ?_;cases c with
 |false=>exact hb pins s1 σ H1 Q I1 q1
 |true=>exact⟨.bl true,H1,I1,rfl,q1⟩
def tIf(t:TT)(ta tb:TE):TE:=fun σ H Q=>t σ H fun c H1=>if c=true then ta σ H1 Q else tb σ H1 Q
theorem nR{c:Expr}(hc:PT X c tA)(ha:PE X a ta)(hb:PE X b tb):PE X (.IfExp c a b pos) (tIf tA ta tb):=by
 intro pins s σ H Q I h;refine wpAny_IfExp (thn (hc pins s σ H _ I h) fun d s1 ⟨H1,I1,q1⟩=>?_);cases d with
 |true=>exact ha pins s1 σ H1 Q I1 q1
 |false=>exact hb pins s1 σ H1 Q I1 q1
end
end L2
namespace L2
open PySem PySem.Spec PyProof.Rows
def SqL(K:PySem.W.Frag)(H:Hp)(a:Addr)(xs:List V):Prop :=
 Rd H a (.lst xs) ∨
  ∃(o:Obj) (its:Array Value) (n:Nat),K.lookup a=some o∧o.cls=.type "list"∧o.dict=none∧o.data=.seq its n∧its.size≤ZW∧bY xs its.toList
def SqT(K:PySem.W.Frag)(H:Hp)(a:Addr)(xs:List V):Prop :=
 Rd H a (.tup xs) ∨
  ∃(o:Obj) (its:Array Value) (n:Nat),K.lookup a=some o∧o.cls=.type "tuple"∧o.data=.seq its n∧its.size≤ZW∧bY xs its.toList
def WG:Value→Option V
 |.none=>some .non
 |.bool b=>some (.bl b)
 |.int i _=>some (.int i)
 |.str x _=>some (.str x)
 |.bytes b _=>some (.byt b)
 |.float b _=>some (.flt b)
 |.ref a=>some (.ref a)
 |.type n=>some (.ty n)
 |_=>none
theorem RelV.abs{x:V}{u:Value}(r:RelV x u):WG u=some x:=by
 cases x with
 |non=>cases r;rfl
 |bl _=>cases r;rfl
 |int _=>obtain⟨t,rfl⟩:=r;rfl
 |str _=>obtain⟨t,rfl⟩:=r;rfl
 |byt _=>obtain⟨t,rfl⟩:=r;rfl
 |flt _=>obtain⟨t,rfl⟩:=r;rfl
 |ref _=>cases r;rfl
 |ty _=>cases r;rfl
theorem RelV.inj{x y:V}{u:Value}(r:RelV x u)(q:RelV y u):x=y:=Option.some.inj (r.abs.symm.trans q.abs)
theorem bY.inj:∀{xs ys:List V}{us:List Value},bY xs us→bY ys us→xs=ys
 |_,_,_,.nil,.nil=>rfl
 |_,_,_,.cons r t,.cons r' t'=>by rw[r.inj r',bY.inj t t']
section
variable{X:Cx}{pins:List (Addr×Obj)}{σ:St}{H:Hp}{s:Shared}{a:Addr}{xs ys:List V}
theorem SqL.of{K:PySem.W.Frag}(h:H a=some (.lst xs)):SqL K H a xs:=.inl (.inl h)
theorem SqT.of{K:PySem.W.Frag}(h:H a=some (.tup xs)):SqT K H a xs:=.inl (.inl h)
theorem Inv.list(I:Inv X pins σ H s)(h:SqL X.K H a xs):∃its:List Value,bY xs its∧PlainL s.heap a its.toArray∧xs.length≤ZW:=by
 rcases h with h | ⟨o,its,n,hk,hc,hd,hs,hz,r⟩
 ·obtain⟨z,its,n,r,e⟩:=h.ok I.hok;exact⟨its,r,⟨_,n,e,rfl,rfl,rfl⟩,z⟩
 ·refine⟨its.toList,r,⟨o,n,I.kIn a o hk,hc,hd,by simpa using hs⟩,?_⟩;have e:=r.length;simp only[Array.length_toList]at e
  lia
theorem Inv.tuple(I:Inv X pins σ H s)(h:SqT X.K H a xs):∃its:List Value,bY xs its∧IsTup s.heap a its.toArray∧xs.length≤ZW:=by
 rcases h with h | ⟨o,its,n,hk,hc,hs,hz,r⟩
 ·obtain⟨z,its,r,p⟩:=h.ok I.hok;exact⟨its,r,p,z⟩
 ·refine⟨its.toList,r,⟨o,I.kIn a o hk,hc,n,by simpa using hs⟩,?_⟩;have e:=r.length;simp only[Array.length_toList]at e
  lia
theorem Inv.list_inj(I:Inv X pins σ H s)(h:SqL X.K H a xs)(h':SqL X.K H a ys):xs=ys:=by
 obtain⟨its,r,⟨o,n,e,_,_,d⟩,_⟩:=I.list h;obtain⟨its',r',⟨o',n',e',_,_,d'⟩,_⟩:=I.list h';rw[e]at e';cases e';rw[d]at d';injection d' with d1 _;have:its=its':=by simpa using congrArg Array.toList d1
 subst this;exact r.inj r'
end
abbrev Cx.wish(X:Cx)(E:Value→Shared→Prop):Cx:={ X with xe:=E }
abbrev Cx.nox(X:Cx):Cx:=X.wish fun _ _=>False
theorem Cx.Ok.wish{X:Cx}(ok:X.Ok)(E:Value→Shared→Prop):(X.wish E).Ok :=
 ⟨ok.mod,ok.kind,ok.glob,ok.blt,ok.above,ok.inj,ok.has,ok.cab,ok.hd,ok.frames,ok.stk,ok.exf,ok.bs,ok.bsz,ok.noex,ok.exfs,ok.funs,ok.frf⟩
theorem Cx.Ok.unwish{X:Cx}{E:Value→Shared→Prop}(ok:(X.wish E).Ok):X.Ok :=
 ⟨ok.mod,ok.kind,ok.glob,ok.blt,ok.above,ok.inj,ok.has,ok.cab,ok.hd,ok.frames,ok.stk,ok.exf,ok.bs,ok.bsz,ok.noex,ok.exfs,ok.funs,ok.frf⟩
section
variable{X:Cx}{pins:List (Addr×Obj)}{σ:St}{H:Hp}{s:Shared}{E:Value→Shared→Prop}
theorem Inv.wish(I:Inv X pins σ H s)(E:Value→Shared→Prop):Inv (X.wish E) pins σ H s:=⟨I.ok.wish E,I.os,I.bare,I.base,I.loc,I.cell,I.free,I.freeC,I.pin,I.hok,I.len⟩
theorem Inv.unwish(I:Inv (X.wish E) pins σ H s):Inv X pins σ H s:=⟨I.ok.unwish,I.os,I.bare,I.base,I.loc,I.cell,I.free,I.freeC,I.pin,I.hok,I.len⟩
theorem SP.unwish{D:Ends}{f:Flow}{s':Shared}(h:SP (X.wish E) pins D f s'):SP X pins D f s':=by
 cases f with
 |next=>obtain⟨σ',H',I,q⟩:=h;exact⟨σ',H',I.unwish,q⟩
 |brk=>obtain⟨σ',H',I,q⟩:=h;exact⟨σ',H',I.unwish,q⟩
 |cont=>obtain⟨σ',H',I,q⟩:=h;exact⟨σ',H',I.unwish,q⟩
 |ret u=>obtain⟨v,σ',H',I,r,q⟩:=h;exact⟨v,σ',H',I.unwish,r,q⟩
theorem PSs.nox{st:List Stmt}{t:TS}(h:PSs X.nox st t):PSs X st t:=fun pins s σ H D I hw =>
 ZX (h pins s σ H D (I.wish _) hw) (fun _ _ q=>q.unwish) fun _ _ z=>False.elim z
end
section
variable{X:Cx}{st:Stmt}{rest:List Stmt}{t u:TS}{e:Expr}{te:TE}{pos:Pos}
def L3:TS:=fun D σ H=>D.nx σ H
def JS(t u:TS):TS:=fun D σ H=>t { D with nx:=u D } σ H
theorem bJ:PSs X [] L3:=fun _ _ σ H _ I h=>wpAny_execs_nil ⟨σ,H,I,h⟩
theorem aE(h1:PS X st t)(h2:PSs X rest u):PSs X (st::rest) (JS t u):=by
 intro pins s σ H D I h;refine wpAny_execs_cons (thn (h1 pins s σ H { D with nx:=u D } I h) fun f s1 q=>?_);cases f with
 |next =>
  obtain⟨σ',H',I',q⟩:=q;exact h2 pins s1 σ' H' D I' q
 |ret v=>exact q
 |brk=>exact q
 |cont=>exact q
theorem aK(h1:PS X st t):PSs X [st] t:=by
 intro pins s σ H D I h;refine wpAny_execs_cons (thn (h1 pins s σ H D I h) fun f s1 q=>?_);cases f with
 |next=>exact wpAny_execs_nil q
 |ret v=>exact q
 |brk=>exact q
 |cont=>exact q
theorem Inv.quiet{pins:List (Addr×Obj)}{σ:St}{H:Hp}{s:Shared}(I:Inv X pins σ H s):interactive X.env=false:=by simp[interactive,I.ok.kind]
def UB(te:TE):TS:=fun D σ H=>te σ H fun _ H1=>D.nx σ H1
theorem bN(he:PE X e te)(hs:swapsWith e none pos.line X.env=pure false:=by rfl):PS X (.Expr e pos) (UB te):=by
 intro pins s σ H D I h;exact wpAny_Expr_any (thn (he pins s σ H _ I h) fun v s1 ⟨x,H1,I1,r1,q1⟩=>⟨σ,H1,I1,q1⟩) I.quiet hs
def VT(te:TE):TS:=fun D σ H=>te σ H D.rt
theorem bC(he:PE X e te):PS X (.Return (some e) pos) (VT te):=by
 intro pins s σ H D I h;exact wpAny_Return_some (thn (he pins s σ H _ I h) fun v s1 ⟨x,H1,I1,r1,q1⟩=>⟨x,σ,H1,I1,r1,q1⟩)
def OX(c:TT)(t u:TS):TS:=fun D σ H=>c σ H fun b H1=>if b=true then t D σ H1 else u D σ H1
theorem cC{c:Expr}{a b:List Stmt}{tc:TT}(hc:PT X c tc)(ha:PSs X a t)(hb:PSs X b u):PS X (.If c a b pos) (OX tc t u):=by
 intro pins s σ H D I h;refine wpAny_If (thn (hc pins s σ H _ I h) fun d s1 ⟨H1,I1,q1⟩=>?_);cases d with
 |true=>exact ha pins s1 σ H1 D I1 q1
 |false=>exact hb pins s1 σ H1 D I1 q1
def L4:TS:=fun _ _ _=>False
theorem rV:PS X st L4:=fun _ _ _ _ _ _ h=>h.elim
theorem kW{sts:List Stmt}:PSs X sts L4:=fun _ _ _ _ _ _ h=>h.elim
end
abbrev TG:=V→St→Hp→(St→Hp→Prop)→Prop
abbrev TGs:=List V→St→Hp→(St→Hp→Prop)→Prop
def PG(X:Cx)(target:Expr)(t:TG):Prop :=
 ∀(pins:List (Addr×Obj)) (s:Shared) (σ:St) (H:Hp) (v:V) (u:Value) (Q:St→Hp→Prop),Inv X pins σ H s→RelV v u→t v σ H Q →
  wpAny (model X.prog X.w) X.A (assign target X.env u) (fun _ s'=>∃σ' H',Inv X pins σ' H' s'∧Q σ' H') X.xe s
def PGs(X:Cx)(ts:List Expr)(t:TGs):Prop :=
 ∀(pins:List (Addr×Obj)) (s:Shared) (σ:St) (H:Hp) (vs:List V) (us:List Value) (Q:St→Hp→Prop),Inv X pins σ H s→bY vs us→t vs σ H Q →
  wpAny (model X.prog X.w) X.A (assignInOrder ((assignEach ts X.env).map (·.2)) us) (fun _ s'=>∃σ' H',Inv X pins σ' H' s'∧Q σ' H') X.xe s
abbrev OK:=V→V→V→Hp→(Hp→Prop)→Prop
def TR(X:Cx)(t:OK):Prop :=
 ∀(pins:List (Addr×Obj)) (s:Shared) (σ:St) (H:Hp) (o i v:V) (ov iv u:Value) (Q:Hp→Prop),Inv X pins σ H s→RelV o ov→RelV i iv→RelV v u→t o i v H Q →
  wpAny (model X.prog X.w) X.A (setItem ov iv u) (fun _ s'=>∃H',Inv X pins σ H' s'∧Q H') X.xe s
abbrev TIp:=V→V→Hp→VK→Prop
def PIp(X:Cx)(op:Operator)(t:TIp):Prop :=
 ∀(pins:List (Addr×Obj)) (s:Shared) (σ:St) (H:Hp) (x y:V) (v u:Value) (Q:VK),Inv X pins σ H s→RelV x v→RelV y u→t x y H Q →
  wpAny (model X.prog X.w) X.A (inplaceOp op v u) (EP X pins σ Q) X.xe s
section
variable{X:Cx}{pos:Pos}
def jN(i:Nat):TG:=fun v σ H Q=>Q (σ.set i (some v)) H
theorem aQ{i:Nat}{x:Str}(hN:X.N.Nodup)(hi:X.N[i]?=some x)(hx:Loc X.env.scope x)(hf:X.fn x=true∨X.env.scope.names.lookup x=some .local:=by first | exact .inl rfl | exact .inr rfl | assumption):PG X (.Name x pos) (jN i):=by
 intro pins s σ H v u Q I r h;exact wpAny_assign_Name (iM I hN hi hx r (fun s' I'=>⟨_,H,I',h⟩) hf)
def WE:TGs:=fun vs σ H Q=>vs=[]∧Q σ H
def VD(t:TG)(u:TGs):TGs:=fun vs σ H Q=>∃v r,vs=v::r∧t v σ H fun σ' H'=>u r σ' H' Q
theorem cH:PGs X [] WE:=by
 intro pins s σ H vs us Q I r h;obtain⟨e,h⟩:=h;subst e;cases r;exact assignInOrder_nil ⟨σ,H,I,h⟩
theorem aY{e:Expr}{es:List Expr}{t:TG}{u:TGs}(h1:PG X e t)(h2:PGs X es u)
  (hs:(assignEach (e::es) X.env).map (·.2)=assign e X.env::(assignEach es X.env).map (·.2):=by rfl):PGs X (e::es) (VD t u):=by
 intro pins s σ H vs us Q I r h;obtain⟨v,vr,e1,h⟩:=h;subst e1;cases r with
 |cons r rr =>
  rw[hs];refine assignInOrder_cons (thn (h1 pins s σ H _ _ _ I r h) fun _ s1 ⟨σ1,H1,I1,q1⟩=>?_);exact h2 pins s1 σ1 H1 _ _ Q I1 rr q1
def VC(K:PySem.W.Frag)(n:Nat)(t:TGs):TG:=fun v σ H Q=>∃a xs,v=.ref a∧SqT K H a xs∧xs.length=n∧t xs σ H Q
theorem dU{es:List Expr}{k:Nat}{t:TGs}{n:Nat}(hc:X.calm=true)(h:PGs X es t)
  (hn:(assignEach es X.env).length=n:=by rfl) (hst:(assignEach es X.env).findIdx? (·.1)=none:=by rfl):PG X (.Tuple es k pos) (VC X.K n t):=by
 intro pins s σ H v u Q I r hw;obtain⟨a,xs,e1,hq,hl,hw⟩:=hw;subst e1;cases r;obtain⟨its,rv,ht,hz⟩:=I.tuple hq;refine assign_Tuple_tuple (I.ok.hd hc) ht (by simp[hn,←hl,rv.length]) hst fun h' hx=>?_;have I1:Inv X pins σ H { s with heap:=h' }:=I.kept (t':=s.toks) fun b o e=>hx b o (Nat.ne_of_lt (Heap.lt_size e)) e;exact h pins _ σ H xs _ Q I1 (by simpa using rv) hw
def WD(to ti:TE)(t:OK):TG:=fun v σ H Q=>to σ H fun o H1=>ti σ H1 fun i H2=>t o i v H2 fun H3=>Q σ H3
theorem kN{o i:Expr}{to ti:TE}{t:OK}(ho:PE X o to)(hi:PE X i ti)(hs:TR X t)
  (ha:∀v,assign (.Subscript o i pos) X.env v=(do
   let ov ←holding [v] (eval o X.env)
   let iv ←holding [v,ov] (eval i X.env)
   standAt pos
   holding [v,ov,iv] (setItem ov iv v)
   release [v,ov,iv] []):=by intro _;rfl):PG X (.Subscript o i pos) (WD to ti t):=by
 intro pins s σ H v u Q I r h;rw[ha];refine ZZ (ZU (thn (ho pins s σ H _ I h) fun ov s1 ⟨x,H1,I1,r1,q1⟩=>?_));refine ZZ (ZU (thn (hi pins s1 σ H1 _ I1 q1) fun iv s2 ⟨y,H2,I2,r2,q2⟩=>?_));refine ZZ (wpAny_standAt (ZZ (ZU (thn (hs pins s2 σ H2 x y v ov iv u _ I2 r1 r2 r q2) fun _ s3 ⟨H3,I3,q3⟩=>?_))));exact wpAny_release ⟨σ,H3,I3,q3⟩
def OZ(te:TE)(g:TG):TS:=fun D σ H=>te σ H fun x H1=>g x σ H1 D.nx
theorem l7{tg e:Expr}{te:TE}{g:TG}(he:PE X e te)(hg:PG X tg g)(hs:swapsWithSole [tg] e pos.line X.env=pure false:=by rfl)(hw:swappedStores [tg] e X.env=pure none:=by rfl)
  (h1:(assignEach [tg] X.env).map (·.2)=[assign tg X.env]:=by rfl):PS X (.Assign [tg] e pos) (OZ te g):=by
 intro pins s σ H D I h;refine wpAny_Assign_stores (thn (he pins s σ H _ I h) fun v s1 ⟨x,H1,I1,r1,q1⟩=>?_) hs hw;rw[h1];exact thn (hg pins s1 σ H1 x v _ I1 r1 q1) fun _ s2 q=>q
theorem R7{i:Nat}{x:Str}{e:Expr}{te:TE}{pos':Pos}(hN:X.N.Nodup)(hi:X.N[i]?=some x)(hx:Loc X.env.scope x)(he:PE X e te)(hs:swapsWith e (some (.Name x pos')) pos.line X.env=pure false:=by rfl)(hf:X.fn x=true∨X.env.scope.names.lookup x=some .local:=by first | exact .inl rfl | exact .inr rfl | assumption) :
  PS X (.Assign [.Name x pos'] e pos) (OZ te (jN i)):=by
 intro pins s σ H D I h;refine wpAny_Assign_Name (thn (he pins s σ H _ I h) fun v s1 ⟨y,H1,I1,r1,q1⟩=>?_) hs;exact iM I1 hN hi hx r1 (fun s2 I2=>⟨_,H1,I2,q1⟩) hf
def UD(to ti te:TE)(tget:V→V→Hp→VK→Prop)(tip:TIp)(tset:OK):TS:=fun D σ H=>to σ H fun o H1=>ti σ H1 fun i H2=>tget o i H2 fun x H3=>te σ H3 fun y H4=>tip x y H4 fun z H5=>tset o i z H5 fun H6=>D.nx σ H6
def VN(X:Cx)(t:V→V→Hp→VK→Prop):Prop :=
 ∀(pins:List (Addr×Obj)) (s:Shared) (σ:St) (H:Hp) (o i:V) (ov iv:Value) (Q:VK),Inv X pins σ H s→RelV o ov→RelV i iv→t o i H Q →
  wpAny (model X.prog X.w) X.A (getItem ov iv) (EP X pins σ Q) X.xe s
theorem l0{o i e:Expr}{to ti te:TE}{tget:V→V→Hp→VK→Prop}{tip:TIp}{tset:OK}{op:Operator}{tpos:Pos}(ho:PE X o to)(hi:PE X i ti)(hg:VN X tget)(he:PE X e te)(hp:PIp X op tip)(hs:TR X tset)
  (ha:∀ov iv new,augStore i ov iv new=(do holding [new,ov,iv] (setItem ov iv new);release [new,ov,iv] [];pure .next):=by intros;rfl):PS X (.AugAssign (.Subscript o i tpos) op e pos) (UD to ti te tget tip tset):=by
 intro pins s σ H D I h;refine wpAny_AugAssign_SubscriptAny (thn (ho pins s σ H _ I h) fun ov s1 ⟨x1,H1,I1,r1,q1⟩=>?_) ha;refine thn (hi pins s1 σ H1 _ I1 q1) fun iv s2 ⟨x2,H2,I2,r2,q2⟩=>?_;refine thn (hg pins s2 σ H2 x1 x2 ov iv _ I2 r1 r2 q2) fun old s3 ⟨x3,H3,I3,r3,q3⟩=>?_;refine thn (he pins s3 σ H3 _ I3 q3) fun v s4 ⟨x4,H4,I4,r4,q4⟩=>?_;refine thn (hp pins s4 σ H4 x3 x4 old v _ I4 r3 r4 q4) fun new s5 ⟨x5,H5,I5,r5,q5⟩=>?_;exact thn (hs pins s5 σ H5 x1 x2 x5 ov iv new _ I5 r1 r2 r5 q5) fun _ s6 ⟨H6,I6,q6⟩=>⟨σ,H6,I6,q6⟩
def ipI(f:Int→Int→Int):TIp:=fun x y H Q=>∃i j,x=.int i∧y=.int j∧Q (.int (f i j)) H
theorem xV:PIp X .Add (ipI fun i j=>i+j):=by
 intro pins s σ H x y v u Q I r1 r2 h;obtain⟨i,j,e1,e2,q⟩:=h;subst e1;subst e2;obtain⟨t,rfl⟩:=r1;obtain⟨t',rfl⟩:=r2;exact iadd_int ⟨.int _,H,I.tok _,⟨_,rfl⟩,q⟩
theorem NX:PIp X .Sub (ipI fun i j=>i-j):=by
 intro pins s σ H x y v u Q I r1 r2 h;obtain⟨i,j,e1,e2,q⟩:=h;subst e1;subst e2;obtain⟨t,rfl⟩:=r1;obtain⟨t',rfl⟩:=r2;exact isub_int ⟨.int _,H,I.tok _,⟨_,rfl⟩,q⟩
end
section
variable{X:Cx}{pos:Pos}
def RG(c:TT)(tb:TS):TS:=fun D σ H=>∃W:Nat→St→Hp→Prop,(∃m,W m σ H)∧∀m σ H,W m σ H →
 c σ H fun b H1=>if b=true then ∃N:St→Hp→Prop,(∀σ' H',N σ' H'→∃m',m' < m∧W m' σ' H')∧tb { D with nx:=N,ct:=N,bk:=D.nx } σ H1 else D.nx σ H1
theorem iN{c:Expr}{body:List Stmt}{tc:TT}{tb:TS}(hp:PassesOwn (model X.prog X.w) X.A X.env X.xe)(hc:PT X c tc)(hb:PSs X body tb):PS X (.While c body [] pos) (RG tc tb):=by
 intro pins s σ H D I h;obtain⟨W,⟨m0,w0⟩,turn⟩:=h;refine wpAny_While (codeAny_whileLoop (fun n s'=>∃σ' H',Inv X pins σ' H' s'∧W n σ' H') ?_ m0 ⟨σ,H,I,w0⟩);rintro n s1 ⟨σ1,H1,I1,w1⟩;refine wpAny_passesOwn hp (thn (hc pins s1 σ1 H1 _ I1 (turn n σ1 H1 w1)) fun b s2 ⟨H2,I2,q2⟩=>?_);cases b with
 |true =>
  obtain⟨N,hN,q2⟩:=q2;rw[if_pos rfl];refine wpAny_passesOwn hp (thn (hb pins s2 σ1 H2 _ I2 q2) fun f s3 q3=>?_);cases f with
  |next =>
   obtain⟨σ3,H3,I3,n3⟩:=q3;obtain⟨m',hm,w3⟩:=hN σ3 H3 n3;exact⟨m',hm,σ3,H3,I3,w3⟩
  |cont =>
   obtain⟨σ3,H3,I3,n3⟩:=q3;obtain⟨m',hm,w3⟩:=hN σ3 H3 n3;exact⟨m',hm,σ3,H3,I3,w3⟩
  |brk=>exact q3
  |ret v=>exact q3
 |false =>
  rw[if_neg Bool.false_ne_true];exact wpAny_execs_nil ⟨σ1,H2,I2,q2⟩
end
structure It where
 go:Nat→Hp→Prop
 yld:Nat→Hp→V→Hp→Prop
 stop:Nat→Hp→Prop
def vQ(X:Cx)(pins:List (Addr×Obj))(H:Hp)(b:Addr):Prop :=
 H b=none∧b≠X.env.locals∧b∉X.fs∧(b∈X.ex∨X.s₀.heap.objs.size≤b)∧(∀x c,X.env.cells.lookup x=some c→c≠b)∧∀p∈X.pn++pins,p.1≠b
theorem Inv.fpOk{X:Cx}{pins:List (Addr×Obj)}{σ:St}{H H':Hp}{s:Shared}{b:Addr}(I:Inv X pins σ H s)(hb:s.heap.objs.size≤b)(hn:H' b=none):vQ X pins H' b:=by
 refine⟨hn,Nat.ne_of_gt (Yt I.lt hb),I.nofs hb,.inr (Yr I.sz hb),fun x c e z=>?_,fun p hp z=>?_⟩
 ·obtain⟨v,q⟩:=I.cell x c e;exact absurd (Yt q.lt (by rw[z];exact hb)) (Nat.lt_irrefl _)
 ·exact absurd (Yt (Heap.lt_size (I.pin p hp).1) (by rw[z];exact hb)) (Nat.lt_irrefl _)
structure Turn(P:Program)(w:World)(K:PySem.W.Frag)(tg:Expr)(J:It)(fp:List Addr)(it:Addr)(tn:Nat→Heap→Prop):Prop where
 mem:it∈fp
 obj:∀i h,tn i h→∀b∈fp,∃o,h.get? b=some o∧∀v,o.data≠.cell v
 keep:∀i h h',tn i h→(∀b∈fp,∀o,h.get? b=some o→h'.get? b=some o)→tn i h'
 item:∀(X:Cx),X.prog=P→X.w=w→X.K=K→X.calm=true→∀(i:Nat) (pins:List (Addr×Obj)) (s:Shared) (σ:St) (H:Hp) (E:Value→Shared→Prop),Inv X pins σ H s→(∀b∈fp,vQ X pins H b)→tn i s.heap→J.go i H →
  wpAny (model P w) X.A (pyNext (.ref it)) (fun r s1=>∃u,r=some u ∧
   wpAny (model P w) X.A (letOwnedTupleGo tg (.ref it) u) (fun _ s2=>∃x H',Inv X pins σ H' s2∧RelV x u∧J.yld i H x H'∧tn (i+1) s2.heap∧∀b∈fp,H' b=none) E s1) E s
 done:∀(X:Cx),X.prog=P→X.w=w→X.K=K→X.calm=true→∀(i:Nat) (pins:List (Addr×Obj)) (s:Shared) (σ:St) (H:Hp) (E:Value→Shared→Prop),Inv X pins σ H s→(∀b∈fp,vQ X pins H b)→tn i s.heap→J.stop i H →
  wpAny (model P w) X.A (pyNext (.ref it)) (fun r s1=>r=none∧Inv X pins σ H s1) E s
 self:∀(A:Around) (i:Nat) (s:Shared) (Q:Value→Shared→Prop) (E:Value→Shared→Prop),tn i s.heap→Q (.ref it) s→wpAny (model P w) A (pyIter (.ref it)) Q E s
abbrev TI:=St→Hp→(It→Hp→Prop)→Prop
def PIE(X:Cx)(pins:List (Addr×Obj))(σ:St)(tg:Expr)(R:It→Hp→Prop)(itv:Value)(s2:Shared):Prop :=
 ∃(it:Addr) (fp:List Addr) (tn:Nat→Heap→Prop) (J:It) (H':Hp),itv=.ref it∧Inv X pins σ H' s2∧Turn X.prog X.w X.K tg J fp it tn∧tn 0 s2.heap∧(∀b∈fp,vQ X pins H' b)∧R J H'
def PI(X:Cx)(tg iter:Expr)(wi:TI):Prop :=
 ∀(pins:List (Addr×Obj)) (s:Shared) (σ:St) (H:Hp) (R:It→Hp→Prop),Inv X pins σ H s→wi σ H R →
  wpAny (model X.prog X.w) X.A (eval iter X.env) (fun v s1=>wpAny (model X.prog X.w) X.A (pyIter v) (PIE X pins σ tg R) X.xe s1) X.xe s
theorem N1{M:Model}{A:Around}{E:Value→Shared→Prop}{s:Shared}{tg:Expr}{it:Addr}{u:Value}{o:Obj}{n:String}{vs:Array Value}{Q:Unit→Shared→Prop}(ho:s.heap.get? it=some o)(hc:o.cls=.type n)(hd:o.data=.fields vs)
  (hn:["enumerate","zip","dict_itemiterator","dict_reverseitemiterator","odict_iterator","itertools.zip_longest","itertools.pairwise"].contains n=false) (hQ:Q () s):wpAny M A (letOwnedTupleGo tg (.ref it) u) Q E s:=by
 unfold letOwnedTupleGo;cases tg<;>first
  |exact ZY hQ
  |(cases u<;>first
    |exact ZY hQ
    |(refine ZZ (wpAny_load ho ?_);rw[hc,hd];show wpAny M A (if (["enumerate","zip","dict_itemiterator","dict_reverseitemiterator","odict_iterator","itertools.zip_longest","itertools.pairwise"].contains n&&vs[0]?==some (rawInt _))=true then _ else _) Q E s;rw[if_neg (by intro h;rw[hn,Bool.false_and]at h;cases h)];exact ZY hQ))
def Itl(K:PySem.W.Frag)(a:Addr):It :=
 ⟨fun i H=>∃xs x,SqL K H a xs∧xs[i]?=some x,fun i H x H'=>H'=H∧∀xs,SqL K H a xs→xs[i]?=some x,fun i H=>∃xs,SqL K H a xs∧xs.length≤i⟩
def Itr(lo:Int)(n:Nat):It:=⟨fun i _=>i<n,fun i H x H'=>H'=H∧x=.int (lo+i),fun i _=>n≤i⟩
theorem JQ{P:Program}{w:World}{K:PySem.W.Frag}{tg:Expr}(a it:Addr):Turn P w K tg (Itl K a) [it] it (fun i h=>h.IsListIter it a i) where
 mem:=by simp
 obj:=fun i h st b hb=>by
  have e:b=it:=by simpa using hb
  subst e;obtain⟨o,e,c,d⟩:=st;exact⟨o,e,fun v z=>by rw[d]at z;cases z⟩
 keep:=fun i h h' st k=>st.at fun o e=>k it (by simp) o e
 item:=by
  intro X hP hw hK hc i pins s σ H E I hf st hg;subst hP hw hK;obtain⟨xs,x,hq,hx⟩:=hg;obtain⟨its,rv,p,hz⟩:=I.list hq;obtain⟨u,hu,ru⟩:=rv.get hx;obtain⟨f0,f1,f2,f3,f4,f5⟩:=hf it (by simp);refine wpAny_pyNext_list_item st p.isList (x:=u) (by simpa using hu) fun h' st' sb=>?_;have I1:Inv X pins σ H { s with heap:=h' }:=I.turned (t':=s.toks) (fun b o hb e=>(sb.2 b hb).trans e) f0 f1 f3 f4 f5;obtain⟨o,e,c,d⟩:=id st';exact⟨u,rfl,N1 (s:={ s with heap:=h' }) e c d (by decide) ⟨x,H,I1,ru,⟨rfl,fun ys hy=>by rw[I.list_inj hy hq];exact hx⟩,st',fun b hb=>(hf b hb).1⟩⟩
 done:=by
  intro X hP hw hK hc i pins s σ H E I hf st hg;subst hP hw hK;obtain⟨xs,hq,hx⟩:=hg;obtain⟨its,rv,p,hz⟩:=I.list hq;obtain⟨f0,f1,f2,f3,f4,f5⟩:=hf it (by simp);have hl:=rv.length;exact wpAny_pyNext_list_end (I.ok.hd hc) st p.isList (by simp;lia) fun h' eb=>⟨rfl,I.turned (t':=s.toks) (fun b o hb e=>eb b o hb e) f0 f1 f3 f4 f5⟩
 self:=fun _ _ _ _ _ st h=>wpAny_pyIter_listiter st h
theorem E9{P:Program}{w:World}{K:PySem.W.Frag}{tg:Expr}(it:Addr)(lo:Int)(n:Nat):Turn P w K tg (Itr lo n) [it] it (fun i h=>IsRangeIter h it (lo+(i:Nat)*1) ((n:Int)-(i:Nat)) 1) where
 mem:=by simp
 obj:=fun i h st b hb=>by
  have e:b=it:=by simpa using hb
  subst e;exact⟨_,st,fun v z=>by
   have z':Data.fields _=Data.cell v:=z;cases z'⟩
 keep:=fun i h h' st k=>k it (by simp) _ st
 item:=by
  intro X hP hw hK hc i pins s σ H E I hf st hg;subst hP hw hK;obtain⟨f0,f1,f2,f3,f4,f5⟩:=hf it (by simp);have W:=Walks.range (prog:=X.prog) (w:=X.w) (I.ok.hd hc) it lo 1 n;refine W.item i s _ _ hg st fun v h' tk hv st' kk=>?_;obtain⟨t,rfl⟩:=hv;have I1:Inv X pins σ H { s with heap:=h',toks:=tk }:=I.turned (fun b o hb e=>kk b o (by simpa using hb) e) f0 f1 f3 f4 f5;refine⟨_,rfl,N1 (s:={ s with heap:=h',toks:=tk }) (n:="range_iterator") st' rfl rfl (by decide) ⟨.int (lo+i),H,I1,⟨t,?_⟩,⟨rfl,rfl⟩,st',fun b hb=>(hf b hb).1⟩⟩;rw[Int.mul_one]
 done:=by
  intro X hP hw hK hc i pins s σ H E I hf st hg;subst hP hw hK;obtain⟨f0,f1,f2,f3,f4,f5⟩:=hf it (by simp);exact wpAny_pyNext_range_end (I.ok.hd hc) st (by have:n≤i:=hg;lia) fun h' eb=>⟨rfl,I.turned (t':=s.toks) (fun b o hb e=>eb b o hb e) f0 f1 f3 f4 f5⟩
 self:=fun _ _ _ _ _ st h=>wpAny_pyIter_rangeiter st h
end L2
namespace L2
open PySem PySem.Spec PyProof.Rows
section
variable{X:Cx}{tg:Expr}
def U9(K:PySem.W.Frag)(tl:TE):TI:=fun σ H R=>tl σ H fun x H1=>∃a,x=.ref a∧(∃xs,SqL K H1 a xs)∧R (Itl K a) H1
theorem cK{l:Expr}{tl:TE}(hl:PE X l tl):PI X tg l (U9 X.K tl):=by
 intro pins s σ H R I h;refine thn (hl pins s σ H _ I h) fun v s1 ⟨x,H1,I1,r1,q1⟩=>?_;obtain⟨a,e,⟨xs,hq⟩,q⟩:=q1;subst e;cases r1;obtain⟨its,rv,p,hz⟩:=I1.list hq;refine wpAny_pyIter_list p.isList ?_;refine⟨s1.heap.objs.size,[s1.heap.objs.size],_,_,H1,rfl,I1.kept (t':=s1.toks) fun b o e=>Heap.get?_push_of_some _ e,JQ a _,⟨_,Heap.get?_push_size _ rfl,rfl,rfl⟩,fun b hb=>?_,q⟩;have e:b=s1.heap.objs.size:=by simpa using hb
 subst e;exact I1.fpOk (Nat.le_refl _) (I1.hok.fresh (Nat.le_refl _))
theorem MX{pins:List (Addr×Obj)}{σ:St}{H:Hp}{s:Shared}{R:It→Hp→Prop}{E:Value→Shared→Prop}{lo hi:Int}{t u v:Tok}{tk:Nat}(I:Inv X pins σ H s)(h1 : -(2 ^ 62)≤lo)(h2:lo<2 ^ 62)(h3 : -(2 ^ 62)≤hi)(h4:hi<2 ^ 62)
  (q:R (Itr lo (hi-lo).toNat) H):wpAny (model X.prog X.w) X.A (pyIter (.ref s.heap.objs.size)) (PIE X pins σ tg R) E { s with heap:=s.heap.push { cls:=.type "range",data:=.fields #[.int lo t,.int hi u,.int 1 v] },toks:=tk }:=by
 refine wpAny_pyIter_range (IsRange.new ..) (small_one h1 h2 h3 h4) ?_;have I1:Inv X pins σ H { s with heap:=s.heap.push { cls:=.type "range",data:=.fields #[.int lo t,.int hi u,.int 1 v] },toks:=tk }:=I.kept fun b o e=>Heap.get?_push_of_some _ e;refine⟨(s.heap.push { cls:=.type "range",data:=.fields #[.int lo t,.int hi u,.int 1 v] }).objs.size,[(s.heap.push { cls:=.type "range",data:=.fields #[.int lo t,.int hi u,.int 1 v] }).objs.size],_,_,H,rfl,
  I1.kept (t':=tk) fun b o e=>Heap.get?_push_of_some _ e,E9 _ lo (hi-lo).toNat,?_,fun b hb=>?_,q⟩
 ·have e1:lo+((0:Nat):Int)*1=lo:=by simp
  have e2:(((hi-lo).toNat:Nat):Int)-((0:Nat):Int)=Builtin.Range.rangeSize lo hi 1:=by rw[rangeSize_one];split<;>lia
  show IsRangeIter _ _ (lo+((0:Nat):Int)*1) ((((hi-lo).toNat:Nat):Int)-((0:Nat):Int)) 1;rw[e1,e2];exact Heap.get?_push_size _ rfl
 ·have e:b=(s.heap.push { cls:=.type "range",data:=.fields #[.int lo t,.int hi u,.int 1 v] }).objs.size:=by simpa using hb
  subst e;exact I1.fpOk (Nat.le_refl _) (I1.hok.fresh (Nat.le_refl _))
def U8(ta:TA):TI:=fun σ H R=>ta σ H fun vs H1=>∃j:Int,vs=[.int j]∧-(2 ^ 62)≤j∧j<2 ^ 62∧R (Itr 0 j.toNat) H1
theorem dI{a:Expr}{ta:TA}{p pos:Pos}(hg:Gl X "range")(hm:X.mg "range" = none)(ha:PA X [a] ta)(hs:starEach [a] X.env=[(false,eval a X.env)]:=by rfl):PI X tg (.Call (.Name "range" p) [a] [] pos) (U8 ta):=by
 intro pins s σ H R I h;refine Call_ (oB I hg hm boot_range (PyProof.Rows.callWith_type1 (thn (ha pos pins s σ H _ I h) fun us s1 ⟨vs,H1,I1,r1,q1⟩=>?_) hs rfl));obtain⟨j,e,q1,q2,q⟩:=q1;subst e;cases r1 with
 |cons r rr =>
  cases rr;obtain⟨t,rfl⟩:=r;exact call_range_1 (MX I1 (by lia) (by lia) q1 q2 (by simpa using q))
def VW(wi:TI)(g:TG)(tb:TS):TS:=fun D σ H=>wi σ H fun J H1=>∃W:Nat→Nat→St→Hp→Prop,(∃m,W 0 m σ H1)∧∀i m σ H,W i m σ H →
 (J.stop i H∧D.nx σ H)∨(J.go i H∧∃N:St→Hp→Prop,(∀σ' H',N σ' H'→∃m',m' < m∧W (i+1) m' σ' H')∧∀x H',J.yld i H x H'→g x σ H' fun σ2 H2=>tb { D with nx:=N,ct:=N,bk:=D.nx } σ2 H2)
def w9(fp:List Addr)(h:Heap):List (Addr×Obj):=fp.filterMap fun b=>(h.get? b).map fun o=>(b,o)
theorem l9{fp:List Addr}{h:Heap}{b:Addr}{o:Obj}(hb:b∈fp)(e:h.get? b=some o):(b,o)∈w9 fp h:=List.mem_filterMap.mpr ⟨b,hb,by rw[e];rfl⟩
theorem KF{fp:List Addr}{h:Heap}{p:Addr×Obj}(hp:p∈w9 fp h):p.1∈fp∧h.get? p.1=some p.2:=by
 obtain⟨b,hb,e⟩:=List.mem_filterMap.mp hp;cases q:h.get? b with
 |none=>rw[q]at e;cases e
 |some o =>
  rw[q]at e;have e':(b,o)=p:=Option.some.inj e;subst e';exact⟨hb,q⟩
theorem Inv.pinned{pins:List (Addr×Obj)}{σ:St}{H:Hp}{s:Shared}{fp:List Addr}(I:Inv X pins σ H s)(hf:∀b∈fp,vQ X pins H b)(ho:∀b∈fp,∃o,s.heap.get? b=some o∧∀v,o.data≠.cell v):Inv X (pins++w9 fp s.heap) σ H s :=
 I.pins_of fun p hp=>(Zf.mp hp).elim (fun z=>I.pin p (List.mem_append_right _ z)) fun z=>by
  obtain⟨hb,e⟩:=KF z;obtain⟨f0,f1,f2,_⟩:=hf p.1 hb;obtain⟨o,e',d⟩:=ho p.1 hb;rw[e]at e';cases e';exact⟨e,f0,f1,f2,d⟩
theorem Inv.unpinned{pins pl:List (Addr×Obj)}{σ:St}{H:Hp}{s:Shared}(I:Inv X (pins++pl) σ H s):Inv X pins σ H s:=I.pins_of fun p hp=>I.pin p (List.mem_append_right _ (List.mem_append_left _ hp))
theorem cY{iter:Expr}{body:List Stmt}{wi:TI}{g:TG}{tb:TS}{pos:Pos}(hp:PassesOwn (model X.prog X.w) X.A X.env X.xe)(hc:X.calm=true)(hi:PI X tg iter wi)(hg:PG X tg g)(hb:PSs X body tb)
  (hs:∀x,foldedSetIterable iter X.env x=pure x:=by intro _;rfl):PS X (.For tg iter body [] pos) (VW wi g tb):=by
 intro pins s σ H D I h;refine wpAny_For (thn (hi pins s σ H _ I h) fun v s1 h1=>thn h1 fun itv s2 h2=>?_) hs;obtain⟨it,fp,tn,J,H2,e,I2,T,st2,f2,W,⟨m0,w0⟩,turn⟩:=h2;subst e;have stat:∀{H':Hp},(∀b∈fp,H' b=none)→∀b∈fp,vQ X pins H' b:=fun hn b hb=>⟨hn b hb,(f2 b hb).2⟩
 refine codeAny_forLoop_any (fun n s'=>∃i σ' H',Inv X pins σ' H' s'∧tn i s'.heap∧(∀b∈fp,H' b=none)∧W i n σ' H') ?_ m0 ⟨0,σ,H2,I2,st2,fun b hb=>(f2 b hb).1,w0⟩;rintro n s3 ⟨i,σ3,H3,I3,st3,fr3,w3⟩;rcases turn i n σ3 H3 w3 with⟨stop,qn⟩ | ⟨go,N,hN,step⟩
 ·refine wpAny_passesOwn hp (thn (T.done X rfl rfl rfl hc i pins s3 σ3 H3 X.xe I3 (stat fr3) st3 stop) fun r s4 ⟨hr,I4⟩=>?_);subst hr;exact wpAny_execs_nil ⟨σ3,H3,I4,qn⟩
 ·refine wpAny_passesOwn hp (thn (T.item X rfl rfl rfl hc i pins s3 σ3 H3 X.xe I3 (stat fr3) st3 go) fun r s4 ⟨u,hr,h4⟩=>?_);subst hr;refine wpAny_passesOwn hp (thn h4 fun _ s5 ⟨x,H5,I5,r5,y5,st5,fr5⟩=>?_);have I5':=I5.pinned (stat fr5) (T.obj _ _ st5);refine wpAny_passesOwn hp (thn (hg _ s5 σ3 H5 x u _ I5' r5 (step x H5 y5)) fun _ s6 ⟨σ6,H6,I6,q6⟩=>?_);refine wpAny_passesOwn hp (thn (hb _ s6 σ6 H6 _ I6 q6) fun f s7 q7=>?_);have again:∀{σ7:St}{H7:Hp},Inv X (pins++w9 fp s5.heap) σ7 H7 s7→N σ7 H7→∃m,m<n∧∃i σ' H',Inv X pins σ' H' s7∧tn i s7.heap∧(∀b∈fp,H' b=none)∧W i m σ' H':=fun {σ7 H7} I7 n7=>by
   obtain⟨m',hm,w7⟩:=hN σ7 H7 n7;refine⟨m',hm,i+1,σ7,H7,I7.unpinned,T.keep _ _ _ st5 fun b hb o e=>(I7.pin (b,o) (List.mem_append_right _ (List.mem_append_right _ (l9 hb e)))).1,fun b hb=>?_,w7⟩;obtain⟨o,e,d⟩:=T.obj _ _ st5 b hb;exact(I7.pin (b,o) (List.mem_append_right _ (List.mem_append_right _ (l9 hb e)))).2.1
  cases f with
  |next=>obtain⟨σ7,H7,I7,n7⟩:=q7;exact again I7 n7
  |cont=>obtain⟨σ7,H7,I7,n7⟩:=q7;exact again I7 n7
  |brk=>obtain⟨σ7,H7,I7,q7⟩:=q7;exact⟨σ7,H7,I7.unpinned,q7⟩
  |ret v=>obtain⟨x7,σ7,H7,I7,r7,q7⟩:=q7;exact⟨x7,σ7,H7,I7.unpinned,r7,q7⟩
end
theorem fA{K:PySem.W.Frag}{a:Addr}{xs:List V}{g:TG}{tb:TS}{D:Ends}{σ:St}{H:Hp}(Pv:Nat→St→Hp→Prop)(h0:Pv 0 σ H)(hl:∀i σ H,i≤xs.length→Pv i σ H→SqL K H a xs)
  (hs:∀i x σ H,xs[i]?=some x→Pv i σ H→g x σ H fun σ2 H2=>tb { D with nx:=Pv (i+1),ct:=Pv (i+1),bk:=D.nx } σ2 H2) (hd:∀σ H,Pv xs.length σ H→D.nx σ H) :
  ∃W:Nat→Nat→St→Hp→Prop,(∃m,W 0 m σ H)∧∀i m σ H,W i m σ H →
   ((Itl K a).stop i H∧D.nx σ H)∨((Itl K a).go i H∧∃N:St→Hp→Prop,(∀σ' H',N σ' H'→∃m',m' < m∧W (i+1) m' σ' H')∧∀x H',(Itl K a).yld i H x H'→g x σ H' fun σ2 H2=>tb { D with nx:=N,ct:=N,bk:=D.nx } σ2 H2):=by
 refine⟨fun i m σ H=>m=xs.length-i∧i≤xs.length∧Pv i σ H,⟨xs.length,by simp,Nat.zero_le _,h0⟩,?_⟩;rintro i m σ H ⟨rfl,hi,p⟩;have q:=hl i σ H hi p;by_cases hlt:i<xs.length
 ·refine .inr ⟨⟨xs,xs[i],q,by simp[hlt]⟩,Pv (i+1),fun σ' H' p'=>⟨xs.length-(i+1),by omega,rfl,hlt,p'⟩,fun x H' y=>?_⟩;obtain⟨e,y⟩:=y;subst e;exact hs i x σ _ (y xs q) p
 ·have e:i=xs.length:=by lia
  subst e;exact .inl ⟨⟨xs,q,Nat.le_refl _⟩,hd σ H p⟩
theorem fX{lo:Int}{n:Nat}{g:TG}{tb:TS}{D:Ends}{σ:St}{H:Hp}(Pv:Nat→St→Hp→Prop)(h0:Pv 0 σ H)
  (hs:∀i σ H,i<n→Pv i σ H→g (.int (lo+i)) σ H fun σ2 H2=>tb { D with nx:=Pv (i+1),ct:=Pv (i+1),bk:=D.nx } σ2 H2) (hd:∀σ H,Pv n σ H→D.nx σ H) :
  ∃W:Nat→Nat→St→Hp→Prop,(∃m,W 0 m σ H)∧∀i m σ H,W i m σ H →
   ((Itr lo n).stop i H∧D.nx σ H)∨((Itr lo n).go i H∧∃N:St→Hp→Prop,(∀σ' H',N σ' H'→∃m',m' < m∧W (i+1) m' σ' H')∧∀x H',(Itr lo n).yld i H x H'→g x σ H' fun σ2 H2=>tb { D with nx:=N,ct:=N,bk:=D.nx } σ2 H2):=by
 refine⟨fun i m σ H=>m=n-i∧i≤n∧Pv i σ H,⟨n,by simp,Nat.zero_le _,h0⟩,?_⟩;rintro i m σ H ⟨rfl,hi,p⟩;by_cases hlt:i<n
 ·refine .inr ⟨hlt,Pv (i+1),fun σ' H' p'=>⟨n-(i+1),by omega,rfl,hlt,p'⟩,fun x H' y=>?_⟩;obtain⟨e,y⟩:=y;subst e y;exact hs i σ _ hlt p
 ·have e:i=n:=by lia
  subst e;exact .inl ⟨Nat.le_refl _,hd σ H p⟩
end L2
namespace L2
open PySem PySem.Spec PyProof.Rows
abbrev R2:=V→V→Hp→VK→Prop
def OpR(X:Cx)(f:Value→Value→Sem Value)(r:R2):Prop :=
 ∀(pins:List (Addr×Obj)) (s:Shared) (σ:St) (H:Hp) (x y:V) (v u:Value) (Q:VK),Inv X pins σ H s→RelV x v→RelV y u→r x y H Q →
  wpAny (model X.prog X.w) X.A (f v u) (EP X pins σ Q) X.xe s
def UnR(X:Cx)(f:Value→Sem Value)(r:V→Hp→VK→Prop):Prop :=
 ∀(pins:List (Addr×Obj)) (s:Shared) (σ:St) (H:Hp) (x:V) (v:Value) (Q:VK),Inv X pins σ H s→RelV x v→r x H Q →
  wpAny (model X.prog X.w) X.A (f v) (EP X pins σ Q) X.xe s
def fC(X:Cx)(f:Value)(r:List V→Hp→VK→Prop):Prop :=
 ∀(pins:List (Addr×Obj)) (s:Shared) (σ:St) (H:Hp) (xs:List V) (us:List Value) (Q:VK),Inv X pins σ H s→bY xs us→r xs H Q →
  wpAny (model X.prog X.w) X.A (call f us) (EP X pins σ Q) X.xe s
def WH(X:Cx)(r:V→Hp→(Bool→Hp→Prop)→Prop):Prop :=
 ∀(pins:List (Addr×Obj)) (s:Shared) (σ:St) (H:Hp) (x:V) (v:Value) (Q:Bool→Hp→Prop),Inv X pins σ H s→RelV x v→r x H Q →
  wpAny (model X.prog X.w) X.A (truthy v) (TP X pins σ Q) X.xe s
def tOp(r:R2)(ta tb:TE):TE:=fun σ H Q=>ta σ H fun x H1=>tb σ H1 fun y H2=>r x y H2 Q
def tUn(r:V→Hp→VK→Prop)(ta:TE):TE:=fun σ H Q=>ta σ H fun x H1=>r x H1 Q
def rI(C:Int→Int→Prop)(g:Int→Int→V):R2:=fun x y H Q=>∃i j,x=.int i∧y=.int j∧C i j∧Q (g i j) H
def rI0(g:Int→Int→V):R2:=fun x y H Q=>∃i j,x=.int i∧y=.int j∧Q (g i j) H
def rU(g:Int→V):V→Hp→VK→Prop:=fun x H Q=>∃i,x=.int i∧Q (g i) H
section
variable{X:Cx}{a b c:Expr}{ta tb tc:TE}{pos:Pos}
theorem TM(ha:PE X a ta)(hb:PE X b tb){pins:List (Addr×Obj)}{s:Shared}{σ:St}{H:Hp}{R:V→V→Hp→Prop}(I:Inv X pins σ H s)
  (h:ta σ H fun x H1=>tb σ H1 fun y H2=>R x y H2) {Q:Value→Shared→Prop}{f:Value→Value→Sem Value}
  (hf:∀v u s2 x y H2,Inv X pins σ H2 s2→RelV x v→RelV y u→R x y H2→wpAny (model X.prog X.w) X.A (f v u) Q X.xe s2) :
  wpAny (model X.prog X.w) X.A (eval a X.env) (fun v s₁=>wpAny (model X.prog X.w) X.A (eval b X.env) (fun u s₂=>wpAny (model X.prog X.w) X.A (f v u) Q X.xe s₂) X.xe s₁) X.xe s:=by
 refine thn (ha pins s σ H _ I h) fun v s1 ⟨x,H1,I1,r1,q1⟩=>?_;refine thn (hb pins s1 σ H1 _ I1 q1) fun u s2 ⟨y,H2,I2,r2,q2⟩=>?_;exact hf v u s2 x y H2 I2 r1 r2 q2
theorem aX{op:Operator}{r:R2}(ho:OpR X (binaryOp op) r)(ha:PE X a ta)(hb:PE X b tb):PE X (.BinOp a op b pos) (tOp r ta tb):=by
 intro pins s σ H Q I h;exact wpAny_BinOp (TM ha hb I h fun v u s2 x y H2 I2 rx ry q=>ho pins s2 σ H2 x y v u Q I2 rx ry q)
theorem mO{op:UnaryOp}{r:V→Hp→VK→Prop}(ho:UnR X (unaryOp op) r)(ha:PE X a ta):PE X (.UnaryOp op a pos) (tUn r ta):=by
 intro pins s σ H Q I h;exact UnaryOp_ (thn (ha pins s σ H _ I h) fun v s1 ⟨x,H1,I1,r1,q1⟩=>ho pins s1 σ H1 x v Q I1 r1 q1)
theorem opI{f:Value→Value→Sem Value}{C:Int→Int→Prop}{g:Int→Int→Int}
  (rule:∀(i j:Int) (t u:Tok) (s:Shared) (Q:Value→Shared→Prop) (E:Value→Shared→Prop),C i j→Q (.int (g i j) s.toks) { s with toks:=s.toks+1 }→wpAny (model X.prog X.w) X.A (f (.int i t) (.int j u)) Q E s) :
  OpR X f (rI C fun i j=>.int (g i j)):=by
 intro pins s σ H x y v u Q I rx ry h;obtain⟨i,j,rfl,rfl,hc,q⟩:=h;obtain⟨t,rfl⟩:=rx;obtain⟨t',rfl⟩:=ry;exact rule i j t t' s _ _ hc ⟨.int (g i j),H,I.tok _,⟨_,rfl⟩,q⟩
theorem SH{f:Value→Value→Sem Value}{g:Int→Int→Int}
  (rule:∀(i j:Int) (t u:Tok) (s:Shared) (Q:Value→Shared→Prop) (E:Value→Shared→Prop),Q (.int (g i j) s.toks) { s with toks:=s.toks+1 }→wpAny (model X.prog X.w) X.A (f (.int i t) (.int j u)) Q E s) :
  OpR X f (rI0 fun i j=>.int (g i j)):=by
 intro pins s σ H x y v u Q I rx ry h;obtain⟨i,j,rfl,rfl,q⟩:=h;obtain⟨t,rfl⟩:=rx;obtain⟨t',rfl⟩:=ry;exact rule i j t t' s _ _ ⟨.int (g i j),H,I.tok _,⟨_,rfl⟩,q⟩
theorem P0{f:Value→Value→Sem Value}{g:Int→Int→Bool}
  (rule:∀(i j:Int) (t u:Tok) (s:Shared) (Q:Value→Shared→Prop) (E:Value→Shared→Prop),Q (.bool (g i j)) s→wpAny (model X.prog X.w) X.A (f (.int i t) (.int j u)) Q E s) :
  OpR X f (rI0 fun i j=>.bl (g i j)):=by
 intro pins s σ H x y v u Q I rx ry h;obtain⟨i,j,rfl,rfl,q⟩:=h;obtain⟨t,rfl⟩:=rx;obtain⟨t',rfl⟩:=ry;exact rule i j t t' s _ _ ⟨.bl (g i j),H,I,rfl,q⟩
def WJ(i j:Int):Prop:=0<j∧j<1073741824
def TX(i j:Int):Prop:=0≤j∧j≤1000000∧i.natAbs<2 ^ 64
def TY(i j:Int):Prop:=(-(2 ^ 64)<i∧i<2 ^ 64)∨(-(2 ^ 64)<j∧j<2 ^ 64)
theorem TY.ok{i j:Int}(h:TY i j):IntMulOk i j:=by
 rcases h with⟨h1,h2⟩ | ⟨h1,h2⟩
 ·exact .of_left (intBits_le_64 h1 h2)
 ·exact .of_right (intBits_le_64 h1 h2)
theorem cV:OpR X (binaryOp .Add) (rI0 fun i j=>.int (i+j)):=SH fun _ _ _ _ _ _ _ q=>add_int q
theorem iT:OpR X (binaryOp .Sub) (rI0 fun i j=>.int (i-j)):=SH fun _ _ _ _ _ _ _ q=>sub_int q
theorem dW:OpR X (binaryOp .Mult) (rI TY fun i j=>.int (i*j)):=opI fun _ _ _ _ _ _ _ hc q=>mul_int q hc.ok
theorem eQ:OpR X (binaryOp .FloorDiv) (rI WJ fun i j=>.int (i / j)):=opI fun i j _ _ _ _ _ hc q=>by
 have h1:(0:Int)<j:=hc.1;have h2:j<1073741824:=hc.2;exact floordiv_int (by lia) (by rw[Int.fdiv_eq_ediv_of_nonneg i (by lia)];exact q) (.inl (PyProof.noPylong_small (by omega)))
theorem dE:OpR X (binaryOp .Mod) (rI (fun _ j=>0<j) fun i j=>.int (i%j)):=opI fun i j _ _ _ _ _ hc q=>by
 have h1:(0:Int)<j:=hc;exact mod_int' (by lia) (by rw[Int.fmod_eq_emod_of_nonneg i (by lia)];exact q)
theorem FV:OpR X (binaryOp .Pow) (rI TX fun i j=>.int (i ^ j.toNat)):=opI fun _ _ _ _ _ _ _ hc q=>pow_int_small hc.1 hc.2.1 hc.2.2 q
theorem SE:OpR X (binaryOp .BitXor) (rI0 fun i j=>.int (Builtin.bitXor i j)):=SH fun _ _ _ _ _ _ _ q=>xor_int q
theorem unI{f:Value→Sem Value}{g:Int→Int}
  (rule:∀(i:Int) (t:Tok) (s:Shared) (Q:Value→Shared→Prop) (E:Value→Shared→Prop),Q (.int (g i) s.toks) { s with toks:=s.toks+1 }→wpAny (model X.prog X.w) X.A (f (.int i t)) Q E s) :
  UnR X f (rU fun i=>.int (g i)):=by
 intro pins s σ H x v Q I rx h;obtain⟨i,rfl,q⟩:=h;obtain⟨t,rfl⟩:=rx;exact rule i t s _ _ ⟨.int (g i),H,I.tok _,⟨_,rfl⟩,q⟩
theorem iS:UnR X (unaryOp .USub) (rU fun i=>.int (-i)):=unI fun _ _ _ _ _ q=>neg_int q
end
def UP:V→V→Bool
 |.non,.non=>true | .non,.int _=>true | .int _,.non=>true | .non,.bl _=>true | .bl _,.non=>true | .non,.str _=>true | .str _,.non=>true
 |.int _,.int _=>true | .bl _,.bl _=>true | .str _,.str _=>true | .byt _,.byt _=>true
 |.int _,.str _=>true | .str _,.int _=>true | .bl _,.str _=>true | .str _,.bl _=>true
 |_,_=>false
def rEq:R2:=fun x y H Q=>UP x y=true∧Q (.bl (decide (x=y))) H
def rNe:R2:=fun x y H Q=>UP x y=true∧Q (.bl (!decide (x=y))) H
theorem IX{i j:Int}:decide (V.int i=V.int j)=(i==j):=by
 rw[Xx];simp
theorem N9{i j:Bool}:decide (V.bl i=V.bl j)=(i==j):=by
 rw[Xx];simp
theorem IW{i j:Str}:decide (V.str i=V.str j)=(i==j):=by
 rw[Xx];simp
theorem IY{i j:Array UInt8}:decide (V.byt i=V.byt j)=(i.toList==j.toList):=by
 rw[Xx];cases i;cases j;simp
section
variable{X:Cx}{a b c:Expr}{ta tb tc:TE}{pos:Pos}
theorem cR{pins:List (Addr×Obj)}{σ:St}{H:Hp}{s:Shared}{Q:VK}{k k':Bool}(I:Inv X pins σ H s)(q:Q (.bl k) H)(e:k=k'):EP X pins σ Q (.bool k') s:=by
 subst e;exact⟨.bl k,H,I,rfl,q⟩
theorem fK:OpR X (compareOp .Eq) rEq:=by
 intro pins s σ H x y v u Q I rx ry h;obtain⟨hs,q⟩:=h;cases x with
 |non =>
  cases rx;cases y with
  |non=>cases ry;exact PySem.EqNone.eq_none_none (cR I q (by simp))
  |bl j=>cases ry;exact PySem.EqNone.eq_none_bool (cR I q (by simp))
  |int j=>obtain⟨t',rfl⟩:=ry;exact PySem.EqNone.eq_none_int (cR I q (by simp))
  |str j=>obtain⟨t',rfl⟩:=ry;exact PySem.EqNone.eq_none_str (cR I q (by simp))
  |_=>exact absurd (show false=true from hs) Bool.false_ne_true
 |bl i =>
  cases rx;cases y with
  |non=>cases ry;exact PySem.EqNone.eq_bool_none (cR I q (by simp))
  |bl j=>cases ry;exact eq_bool (cR I q N9)
  |str j=>obtain⟨t',rfl⟩:=ry;exact PySem.EqMixed.eq_bool_str (cR I q (by simp))
  |_=>exact absurd (show false=true from hs) Bool.false_ne_true
 |int i =>
  obtain⟨t,rfl⟩:=rx;cases y with
  |non=>cases ry;exact PySem.EqNone.eq_int_none (cR I q (by simp))
  |int j=>obtain⟨t',rfl⟩:=ry;exact eq_int (cR I q IX)
  |str j=>obtain⟨t',rfl⟩:=ry;exact PySem.EqMixed.eq_int_str (cR I q (by simp))
  |_=>exact absurd (show false=true from hs) Bool.false_ne_true
 |str i =>
  obtain⟨t,rfl⟩:=rx;cases y with
  |non=>cases ry;exact PySem.EqNone.eq_str_none (cR I q (by simp))
  |bl j=>cases ry;exact PySem.EqMixed.eq_str_bool (cR I q (by simp))
  |int j=>obtain⟨t',rfl⟩:=ry;exact PySem.EqMixed.eq_str_int (cR I q (by simp))
  |str j=>obtain⟨t',rfl⟩:=ry;exact eq_str (cR I q IW)
  |_=>exact absurd (show false=true from hs) Bool.false_ne_true
 |byt i =>
  obtain⟨t,rfl⟩:=rx;cases y with
  |byt j=>obtain⟨t',rfl⟩:=ry;exact PySem.W.eq_bytes (cR I q IY)
  |_=>exact absurd (show false=true from hs) Bool.false_ne_true
 |_=>cases y<;>exact absurd (show false=true from hs) Bool.false_ne_true
theorem xD:OpR X (compareOp .NotEq) rNe:=by
 intro pins s σ H x y v u Q I rx ry h;obtain⟨hs,q⟩:=h;cases x with
 |non =>
  cases rx;cases y with
  |non=>cases ry;exact PySem.EqNone.ne_none_none (cR I q (by simp))
  |bl j=>cases ry;exact PySem.EqNone.ne_none_bool (cR I q (by simp))
  |int j=>obtain⟨t',rfl⟩:=ry;exact PySem.EqNone.ne_none_int (cR I q (by simp))
  |str j=>obtain⟨t',rfl⟩:=ry;exact PySem.EqNone.ne_none_str (cR I q (by simp))
  |_=>exact absurd (show false=true from hs) Bool.false_ne_true
 |bl i =>
  cases rx;cases y with
  |non=>cases ry;exact PySem.EqNone.ne_bool_none (cR I q (by simp))
  |bl j=>cases ry;exact ne_bool (cR I q (congrArg not N9))
  |str j=>obtain⟨t',rfl⟩:=ry;exact PySem.EqMixed.ne_bool_str (cR I q (by simp))
  |_=>exact absurd (show false=true from hs) Bool.false_ne_true
 |int i =>
  obtain⟨t,rfl⟩:=rx;cases y with
  |non=>cases ry;exact PySem.EqNone.ne_int_none (cR I q (by simp))
  |int j=>obtain⟨t',rfl⟩:=ry;exact ne_int (cR I q (congrArg not IX))
  |str j=>obtain⟨t',rfl⟩:=ry;exact PySem.EqMixed.ne_int_str (cR I q (by simp))
  |_=>exact absurd (show false=true from hs) Bool.false_ne_true
 |str i =>
  obtain⟨t,rfl⟩:=rx;cases y with
  |non=>cases ry;exact PySem.EqNone.ne_str_none (cR I q (by simp))
  |bl j=>cases ry;exact PySem.EqMixed.ne_str_bool (cR I q (by simp))
  |int j=>obtain⟨t',rfl⟩:=ry;exact PySem.EqMixed.ne_str_int (cR I q (by simp))
  |str j=>obtain⟨t',rfl⟩:=ry;exact ne_str (cR I q (congrArg not IW))
  |_=>exact absurd (show false=true from hs) Bool.false_ne_true
 |byt i =>
  obtain⟨t,rfl⟩:=rx;cases y with
  |byt j=>obtain⟨t',rfl⟩:=ry;exact PySem.W.ne_bytes (cR I q (congrArg not IY))
  |_=>exact absurd (show false=true from hs) Bool.false_ne_true
 |_=>cases y<;>exact absurd (show false=true from hs) Bool.false_ne_true
theorem fS:OpR X (compareOp .Lt) (rI0 fun i j=>.bl (decide (i<j))):=P0 fun _ _ _ _ _ _ _ q=>lt_int q
theorem rZ:OpR X (compareOp .LtE) (rI0 fun i j=>.bl (decide (i≤j))):=P0 fun _ _ _ _ _ _ _ q=>le_int q
theorem zZ:OpR X (compareOp .Gt) (rI0 fun i j=>.bl (decide (j<i))):=P0 fun _ _ _ _ _ _ _ q=>gt_int q
theorem M9:OpR X (compareOp .GtE) (rI0 fun i j=>.bl (decide (j≤i))):=P0 fun _ _ _ _ _ _ _ q=>ge_int q
theorem nV:OpR X (compareOp .Is) (fun x y H Q=>y=.non∧Q (.bl (decide (x=.non))) H):=by
 intro pins s σ H x y v u Q I rx ry h;obtain⟨rfl,q⟩:=h;cases ry;refine is_none_gen (cR I q ?_);cases x<;>first
  |(cases rx;rfl)
  |(obtain⟨t,rfl⟩:=rx;rfl)
theorem HS:OpR X (compareOp .IsNot) (fun x y H Q=>y=.non∧Q (.bl (!decide (x=.non))) H):=by
 intro pins s σ H x y v u Q I rx ry h;obtain⟨rfl,q⟩:=h;cases ry;refine isnot_none_gen (cR I q ?_);cases x<;>first
  |(cases rx;rfl)
  |(obtain⟨t,rfl⟩:=rx;rfl)
theorem bD(b:Expr){op:CmpOp}(h:op≠.In:=by decide)(h2:op≠.NotIn:=by decide):behindInMarks op b=false:=by
 have e1:(op==CmpOp.In)=false:=by cases op<;>first | rfl | exact absurd rfl h
 have e2:(op==CmpOp.NotIn)=false:=by cases op<;>first | rfl | exact absurd rfl h2
 cases b<;>simp[behindInMarks,e1,e2]
theorem iY{op:CmpOp}{r:R2}(ho:OpR X (compareOp op) r)(ha:PE X a ta)(hb:PE X b tb)(hm:behindInMarks op b=false):PE X (.Compare a [op] [b] pos) (tOp r ta tb):=by
 intro pins s σ H Q I h;exact wpAny_Compare1 (TM ha hb I h fun v u s2 x y H2 I2 rx ry q=>ho pins s2 σ H2 x y v u Q I2 rx ry q) hm
def CL(t:TE):TT:=fun σ H Q=>t σ H fun x H'=>∃k,x=.bl k∧Q k H'
theorem aZ{op:CmpOp}{r:R2}(ho:OpR X (compareOp op) r)(ha:PE X a ta)(hb:PE X b tb)(hm:behindInMarks op b=false):PT X (.Compare a [op] [b] pos) (CL (tOp r ta tb)):=by
 intro pins s σ H Q I h;refine wpAny_isTrue_Compare1 (thn (ha pins s σ H _ I h) fun v s1 ⟨x,H1,I1,r1,q1⟩=>thn (hb pins s1 σ H1 _ I1 q1) fun u s2 ⟨y,H2,I2,r2,q2⟩ =>
  thn (ho pins s2 σ H2 x y v u _ I2 r1 r2 q2) fun c s3 ⟨z,H3,I3,r3,k,e,q3⟩=>?_) hm
 subst e;cases r3;exact wpAny_truthy_bool ⟨H3,I3,q3⟩
def wH(r r':R2)(ta tb tc:TE):TE:=fun σ H Q=>ta σ H fun x H1=>tb σ H1 fun y H2=>r x y H2 fun z H3=>∃k,z=.bl k ∧
 (if k=true then tc σ H3 fun w' H4=>r' y w' H4 Q else Q (.bl false) H3)
theorem DB{op op':CmpOp}{r r':R2}(ho:OpR X (compareOp op) r)(ho':OpR X (compareOp op') r')(ha:PE X a ta)(hb:PE X b tb)(hc:PE X c tc)
  (hm:lastMarks [op,op'] [b,c]=false:=by with_unfolding_all rfl):PE X (.Compare a [op,op'] [b,c] pos) (wH r r' ta tb tc):=by
 intro pins s σ H Q I h;refine Compare_chain (thn (ha pins s σ H _ I h) fun v s1 ⟨x,H1,I1,r1,q1⟩=>chain_link (thn (hb pins s1 σ H1 _ I1 q1) fun u s2 ⟨y,H2,I2,r2,q2⟩ =>
  thn (ho pins s2 σ H2 x y v u _ I2 r1 r2 q2) fun d s3 ⟨z,H3,I3,r3,k,e,q3⟩=>?_)) hm
 subst e;cases r3;refine wpAny_truthy_bool ?_;cases k with
 |false=>exact ite_ff ⟨.bl false,H3,I3,rfl,q3⟩
 |true=>exact ite_tt (chain_last (thn (hc pins s3 σ H3 _ I3 q3) fun w' s4 ⟨z',H4,I4,r4,q4⟩=>ho' pins s4 σ H4 y z' u w' Q I4 r2 r4 q4))
theorem nO{op op':CmpOp}{r r':R2}(ho:OpR X (compareOp op) r)(ho':OpR X (compareOp op') r')(ha:PE X a ta)(hb:PE X b tb)(hc:PE X c tc)
  (hm:lastMarks [op,op'] [b,c]=false:=by with_unfolding_all rfl):PT X (.Compare a [op,op'] [b,c] pos) (CL (wH r r' ta tb tc)):=by
 intro pins s σ H Q I h;refine isTrue_chain (thn (ha pins s σ H _ I h) fun v s1 ⟨x,H1,I1,r1,q1⟩=>test_link (thn (hb pins s1 σ H1 _ I1 q1) fun u s2 ⟨y,H2,I2,r2,q2⟩ =>
  thn (ho pins s2 σ H2 x y v u _ I2 r1 r2 q2) fun d s3 ⟨z,H3,I3,r3,k,e,q3⟩=>?_)) hm
 subst e;cases r3;refine wpAny_truthy_bool ?_;cases k with
 |false =>
  obtain⟨k',e',q'⟩:=q3;cases e';exact ite_ff ⟨H3,I3,q'⟩
 |true =>
  refine ite_tt (test_last (thn (hc pins s3 σ H3 _ I3 q3) fun w' s4 ⟨z',H4,I4,r4,q4⟩=>thn (ho' pins s4 σ H4 y z' u w' _ I4 r2 r4 q4) fun d' s5 ⟨z2,H5,I5,r5,k2,e2,q5⟩=>?_));subst e2;cases r5;exact wpAny_truthy_bool ⟨H5,I5,q5⟩
def VL(K:PySem.W.Frag)(x:V)(H:Hp)(k:Bool):Prop :=
 match x with
 |.non=>k=false
 |.bl b=>k=b
 |.int i=>k=(i != 0)
 |.str y=>y.length≤ZW∧k=((y.length:Int) != 0)
 |.byt y=>y.size≤ZW∧k=((y.size:Int) != 0)
 |.ref p=>(∃xs,SqL K H p xs∧k=!xs.isEmpty)∨(∃xs,SqT K H p xs∧k=!xs.isEmpty)∨∃kvs,H p=some (.dK kvs)∧k=!kvs.isEmpty
 |_=>False
theorem GG{κ:Type}{kvs:List (κ×V)}{vs:List (κ×Value)}(r:KV kvs vs):(!vs.isEmpty)=!kvs.isEmpty:=by
 cases r<;>rfl
theorem xU{xs:List V}{its:List Value}(r:bY xs its):(!its.toArray.isEmpty)=!xs.isEmpty:=by
 cases r<;>simp
theorem mC:(ZW:Nat)<2 ^ 63:=by rw[sizeLine_eq];decide
theorem RF:WH X (fun x H Q=>∃k,VL X.K x H k∧Q k H):=by
 intro pins s σ H x v Q I rx h;obtain⟨k,e,q⟩:=h;have hl:=mC;have hs:ZW=16777216:=sizeLine_eq;cases x with
 |non =>
  cases rx;have e':k=false:=e;subst e';exact truthy_none ⟨H,I,q⟩
 |bl b =>
  cases rx;have e':k=b:=e;subst e';exact wpAny_truthy_bool ⟨H,I,q⟩
 |int i =>
  obtain⟨t,rfl⟩:=rx;have e':k=(i != 0):=e;subst e';exact PySem.P.truthy_int ⟨H,I,q⟩
 |str y =>
  obtain⟨t,rfl⟩:=rx;obtain⟨hy,e'⟩:y.length≤ZW∧k=((y.length:Int) != 0):=e;subst e';exact PySem.P.truthy_str (by lia) ⟨H,I.tok _,q⟩
 |byt y =>
  obtain⟨t,rfl⟩:=rx;obtain⟨hy,e'⟩:y.size≤ZW∧k=((y.size:Int) != 0):=e;subst e';exact PySem.W.truthy_bytes (by lia) ⟨H,I.tok _,q⟩
 |ref p =>
  cases rx;have e':(∃xs,SqL X.K H p xs∧k=!xs.isEmpty)∨(∃xs,SqT X.K H p xs∧k=!xs.isEmpty)∨∃kvs,H p=some (.dK kvs)∧k=!kvs.isEmpty:=e;rcases e' with⟨xs,hx,e'⟩ | ⟨xs,hx,e'⟩ | ⟨kvs,hx,e'⟩
  ·subst e';obtain⟨its,r,pl,hz⟩:=I.list hx;have hlen:=r.length;exact wpAny_truthy_list pl.isList (by simp only[List.size_toArray];lia) ⟨H,I.tok _,by rw[xU r];exact q⟩
  ·subst e';obtain⟨its,r,pl,hz⟩:=I.tuple hx;have hlen:=r.length;exact truthy_tuple pl (by simp only[List.size_toArray];lia) ⟨H,I.tok _,by rw[xU r];exact q⟩
  ·subst e';obtain⟨hz,hS,vs,r,m⟩:kvs.length≤ZW∧(p==sysModules)=false∧∃vs,KV kvs vs∧s.heap.DictOf (dO X.prog X.w) p vs:=I.hok p _ hx;have hlen:kvs.length=vs.length:=Paired.length r;exact wpAny_truthy_dict hS m (by lia) ⟨H,I.tok _,by rw[GG r];exact q⟩
 |_=>exact(show False from e).elim
theorem cQ(ha:PE X a ta)(he:∀whole,isTrue a X.env whole=(do let v ←whole;standAt a.pos;holding [v] (truthy v))) :
  PT X a (fun σ H Q=>ta σ H fun x H'=>∃k,VL X.K x H' k∧Q k H'):=by
 intro pins s σ H Q I h;exact isTrue_plain (thn (ha pins s σ H _ I h) fun v s1 ⟨x,H1,I1,r1,q1⟩=>RF pins s1 σ H1 x v Q I1 r1 q1) (he _)
theorem vals1{x:V}{us:List Value}(r:bY [x] us):∃u,us=[u]∧RelV x u:=by
 cases r with
 |cons r1 r2=>cases r2;exact⟨_,rfl,r1⟩
theorem vals2{x y:V}{us:List Value}(r:bY [x,y] us):∃u w',us=[u,w']∧RelV x u∧RelV y w':=by
 cases r with
 |cons r1 r2 =>
  cases r2 with
  |cons r3 r4=>cases r4;exact⟨_,_,rfl,r1,r3⟩
theorem LB(hc:X.calm=true):fC X (.builtin "max") (fun xs H Q=>∃i j,xs=[.int i,.int j]∧Q (.int (if j>i then j else i)) H):=by
 intro pins s σ H xs us Q I r h;obtain⟨i,j,rfl,q⟩:=h;obtain⟨u,w',rfl,⟨t,rfl⟩,⟨t',rfl⟩⟩:=vals2 r;refine max_two_ints (I.ok.hd hc) fun h' tk k=>⟨_,H,I.kept k,?_,q⟩
 by_cases hj:j>i
 ·rw[if_pos hj,if_pos hj];exact⟨_,rfl⟩
 ·rw[if_neg hj,if_neg hj];exact⟨_,rfl⟩
theorem AQ(hc:X.calm=true):fC X (.builtin "min") (fun xs H Q=>∃i j,xs=[.int i,.int j]∧Q (.int (if j<i then j else i)) H):=by
 intro pins s σ H xs us Q I r h;obtain⟨i,j,rfl,q⟩:=h;obtain⟨u,w',rfl,⟨t,rfl⟩,⟨t',rfl⟩⟩:=vals2 r;refine min_two_ints (I.ok.hd hc) fun h' tk k=>⟨_,H,I.kept k,?_,q⟩
 by_cases hj:j<i
 ·rw[if_pos hj,if_pos hj];exact⟨_,rfl⟩
 ·rw[if_neg hj,if_neg hj];exact⟨_,rfl⟩
theorem lP:fC X (.type "int") (fun xs H Q=>(∃i,xs=[.int i]∧Q (.int i) H)∨∃k,xs=[.bl k]∧Q (.int (if k then 1 else 0)) H):=by
 intro pins s σ H xs us Q I r h;rcases h with⟨i,rfl,q⟩ | ⟨k,rfl,q⟩
 ·obtain⟨u,rfl,t,rfl⟩:=vals1 r;exact call_int_int ⟨.int i,H,I,⟨_,rfl⟩,q⟩
 ·obtain⟨u,rfl,r1⟩:=vals1 r;cases r1;exact call_int_bool ⟨.int (if k then 1 else 0),H,I.tok _,⟨_,rfl⟩,q⟩
end
end L2
namespace L2
open PySem PySem.Spec PyProof.Rows
structure LG(h:Heap)(x dx C:Addr)(mA:Str→Option Value):Prop where
 obj:h.get? x=some (PySem.W.instObj C dx)
 ns:h.Ns1 dx mA
 ne:dx≠x
theorem KI{h:Heap}{dx:Addr}{mA:Str→Option Value}(n:h.Ns1 dx mA):∃od,h.get? dx=some od∧∀name,PySem.W.lookIn name od=some (mA name):=by
 obtain⟨o,es,ep,ho,hd,hk,_,hm⟩:=n;refine⟨o,ho,fun name=>?_⟩;have e:=hm name;unfold nsFind findBy at e;rw[←Array.find?_toList]at e;unfold PySem.W.lookIn;rw[hd];dsimp only;split
 ·rename_i y q
  rw[q]at e;exact congrArg some e
 ·rename_i q
  rw[q]at e;have a:es.toList.any (·.refKey)=false:=by
   rw[List.any_eq_false];intro y hy;obtain⟨z,t,hkey⟩:=hk y (Array.mem_toList_iff.mp hy);simp[DictEntry.refKey,hkey]
  have a':¬es.toList.any (·.refKey)=true:=by rw[a];exact Bool.false_ne_true
  rw[if_neg a'];exact congrArg some e
theorem LG.look{h:Heap}{x dx C:Addr}{mA:Str→Option Value}(I:LG h x dx C mA):∃od,PySem.W.InstAt h x (PySem.W.instObj C dx) C (some od)∧∀name,PySem.W.lookIn name od=some (mA name) :=
 let⟨od,ho,hl⟩:=KI I.ns
 ⟨od,⟨I.obj,rfl,rfl,ho⟩,hl⟩
section
variable{prog:Program}{w:World}{A:Around}{E:Value→Shared→Prop}{s:Shared}{K:PySem.W.Frag}{x dx C f:Addr}{mA:Str→Option Value}{name:Str}{v:Value}
theorem get_map{expr:Bool}{Q:Value→Shared→Prop}(X:K.In s.heap)(I:LG s.heap x dx C mA)(hg:PySem.W.plainGet K C name=true)(hh:PySem.W.hasDictIn K C=true)
  (ha:PySem.W.findIn K (.ref C) name=some none) (hv:mA name=some v) (hv':PySem.W.handedIn v=true) (h:Q v { s with toks:=s.toks+1 }) :
  wpAny (model prog w) A (getAttr (.ref x) name expr) Q E s:=by
 obtain⟨od,J,hl⟩:=I.look;exact PySem.W.get_value X J (PySem.W.plainGet_of hg).1 (PySem.W.findObj_own hh ha rfl (by rw[hl,hv])) hv' h
theorem O8{ns:List Str}{Q:Unit→Shared→Prop}(X:K.In s.heap)(I:LG s.heap x dx C mA)
  (hs:PySem.W.findIn K (.ref C) "__setattr__" = some (some (.builtin "object.__setattr__"))) (hp:PySem.W.plainOver K C=true) (ht:PySem.W.takerIn K C name=some none) (hh:PySem.W.hasDictIn K C=true)
  (hw:PySem.Within mA ns) (hsz:ns.length≤ZW)
  (h:∀h',LG h' x dx C (fun y=>if y=name then some v else mA y)→Heap.SameBut dx s.heap h'→Q () { s with heap:=h',toks:=s.toks+2 }) :
  wpAny (model prog w) A (setAttr (.ref x) name v) Q E s:=by
 obtain⟨od,J,hl⟩:=I.look;refine PySem.W.set_plain X J hs (PySem.W.osa_open (s:={ s with toks:=s.toks+1 }) (r:=none) X J hp ht fun b=>?_);obtain⟨cd,hc,hd'⟩:=PySem.W.any_some hh;have hx:s.heap.get? x=some ⟨.ref C,some dx,.plain,#[]⟩:=I.obj;refine ZZ (ZY (ZZ (ZZ (wpAny_loadPart hx (ZZ (PySem.W.Looks.here (s:={ s with toks:=s.toks+1 }) (PySem.W.looks_clsIn X hc) ?_))))));rw[hd'];refine ZY (a:=some dx) (ZZ (ZY (ZZ ?_)));refine wpAny_nsSet1 (s:={ s with toks:=s.toks+1 }) I.ns fun h' hn2 hs2=>?_;obtain⟨oD,esD,epD,hoD,hdD,hcD⟩:=hn2.count (PySem.Within.cons name v hw);refine ZZ (wpAny_lookBehind hoD (by rw[hdD];exact pastItsLine_dict (Yr hcD (by rw[Yq];lia))) ?_);exact ZY (h _ ⟨(hs2.2 _ (Ne.symm I.ne)).trans I.obj,hn2,I.ne⟩ hs2)
theorem NS{R:Result→Shared→Prop}{vs:List Value}{kw:List (Str×Value)}(X:K.In s.heap)(hm:PySem.W.makesIn K C=true)
  (hi:PySem.W.findIn K (.ref C) "__init__" = some (some (.ref f))) (hf:PySem.W.typeIn K (.ref f)=some (.type "function"))
  (h:codeAny (model prog w) (A.under (.builtin "type.__call__" ⟨.ref C::vs,kw⟩)) (.call (.ref f) ⟨.ref (s.heap.objs.size+1)::vs,kw⟩) (PySem.W.InitBack (s.heap.objs.size+1) R)
   { s with heap:=(s.heap.push PySem.W.emptyDict).push (PySem.W.instObj C s.heap.objs.size) }) :
  codeAny (model prog w) A (.call (.ref C) ⟨vs,kw⟩) R s:=by
 obtain⟨hh,g,d,t,os⟩:=s;exact PySem.W.make_core (PySem.W.makes_of X hm) (PySem.W.looks_findIn X hi) (fun self=>PySem.W.bind_fn X self hf) (.inl rfl) h
end
def cB(f:Str)(v:V):List (Str×V)→List (Str×V)
 |[]=>[(f,v)]
 |(g,x)::r=>if g=f then (g,v)::r else (g,x)::cB f v r
theorem bZ(f g:Str)(v:V):∀fs:List (Str×V),(cB f v fs).lookup g=if g=f then some v else fs.lookup g
 |[]=>by
  show List.lookup g [(f,v)]=_;by_cases h:g=f
  ·have hb:(g==f)=true:=beq_iff_eq.mpr h;simp only[List.lookup,hb,if_pos h]
  ·have hb:(g==f)=false:=beq_eq_false_iff_ne.mpr h;simp only[List.lookup,hb,if_neg h]
 |(k,x)::r=>by
  have ih:=bZ f g v r;rw[show cB f v ((k,x)::r)=(if k=f then (k,v)::r else (k,x)::cB f v r) from rfl];by_cases hk:k=f
  ·rw[if_pos hk];by_cases h:g=k
   ·have hb:(g==k)=true:=beq_iff_eq.mpr h;simp only[List.lookup,hb,if_pos (h.trans hk)]
   ·have hb:(g==k)=false:=beq_eq_false_iff_ne.mpr h;simp only[List.lookup,hb,if_neg (fun e:g=f=>h (e.trans hk.symm))]
  ·rw[if_neg hk];by_cases h:g=k
   ·have hb:(g==k)=true:=beq_iff_eq.mpr h;simp only[List.lookup,hb,if_neg (fun e:g=f=>hk (h.symm.trans e))]
   ·have hb:(g==k)=false:=beq_eq_false_iff_ne.mpr h;simp only[List.lookup,hb];exact ih
theorem tY(f:Str)(v:V):∀fs:List (Str×V),f∈(cB f v fs).map (·.1)∧∀g,g∈fs.map (·.1)→g∈(cB f v fs).map (·.1)
 |[]=>⟨by simp[cB],fun g h=>by simp at h⟩
 |(k,x)::r=>by
  obtain⟨i1,i2⟩:=tY f v r;rw[show cB f v ((k,x)::r)=(if k=f then (k,v)::r else (k,x)::cB f v r) from rfl];by_cases hk:k=f
  ·rw[if_pos hk];subst hk;exact⟨by simp,fun g h=>by simpa using h⟩
  ·rw[if_neg hk];refine⟨?_,fun g h=>?_⟩
   ·rw[List.map_cons];exact Zw _ i1
   ·rw[List.map_cons]at h ⊢;rcases Zn.mp h with e | e
    ·exact Zn.mpr (.inl e)
    ·exact Zw _ (i2 g e)
theorem uT(f:Str)(v:V):∀fs:List (Str×V),(cB f v fs).length≤fs.length+1
 |[]=>by simp[cB]
 |(k,x)::r=>by
  have ih:=uT f v r;rw[show cB f v ((k,x)::r)=(if k=f then (k,v)::r else (k,x)::cB f v r) from rfl];by_cases hk:k=f
  ·rw[if_pos hk,Yq,Yq];lia
  ·rw[if_neg hk,Yq,Yq];lia
theorem uF.some_of{v:V}{o:Option Value}(r:uF (some v) o):∃u,o=some u∧RelV v u:=by
 cases o with
 |none=>exact(show False from r).elim
 |some u=>exact⟨u,rfl,r⟩
theorem KU{v:V}{u:Value}(r:RelV v u):PySem.W.handedIn u=true:=by
 cases v with
 |non=>cases (show u=Value.none from r);rfl
 |bl b=>cases (show u=Value.bool b from r);rfl
 |int i=>obtain⟨t,e⟩:=(show ∃t,u=Value.int i t from r);cases e;rfl
 |str x=>obtain⟨t,e⟩:=(show ∃t,u=Value.str x t from r);cases e;rfl
 |byt b=>obtain⟨t,e⟩:=(show ∃t,u=Value.bytes b t from r);cases e;rfl
 |flt b=>obtain⟨t,e⟩:=(show ∃t,u=Value.float b t from r);cases e;rfl
 |ref a=>cases (show u=Value.ref a from r);rfl
 |ty n=>cases (show u=Value.type n from r);rfl
section
variable{P:Program}{w:World}{H H':Hp}{h h':Heap}{a C dx:Addr}{fs fs':List (Str×V)}
theorem IH(hok:HOk P w H h)(e:H a=some (.ins C dx fs)):∃mA,LG h a dx C mA∧(∀f,uF (fs.lookup f) (mA f))∧PySem.Within mA (fs.map (·.1))∧fs.length≤1000∧H dx=some (.own a):=by
 obtain⟨d,z,ne,ob,mA,n,r,q⟩:=(show dC P w H h a (.ins C dx fs) from hok a _ e)
 exact⟨mA,⟨ob,n,ne⟩,r,q,z,d⟩
end
structure Cls(K:PySem.W.Frag)(C:Addr):Prop where
 pg:PySem.W.plainGet K C Str.empty=true
 hd:PySem.W.hasDictIn K C=true
 po:PySem.W.plainOver K C=true
 sa:PySem.W.findIn K (.ref C) "__setattr__" = some (some (.builtin "object.__setattr__"))
theorem Cls.get{K:PySem.W.Frag}{C:Addr}(c:Cls K C)(f:Str):PySem.W.plainGet K C f=true:=c.pg
def j4(K:PySem.W.Frag)(C:Addr)(f:Str):Prop:=PySem.W.findIn K (.ref C) f=some none
theorem j4.taker{K:PySem.W.Frag}{C:Addr}{f:Str}(n:j4 K C f):PySem.W.takerIn K C f=some none:=by
 unfold PySem.W.takerIn;rw[show PySem.W.findIn K (.ref C) f=some none from n];rfl
section
variable{X:Cx}{pins:List (Addr×Obj)}{σ:St}{H:Hp}{s:Shared}{a C dx:Addr}{fs:List (Str×V)}{f:Str}{v:V}{A:Around}{E:Value→Shared→Prop}
theorem GH{b:Bool}{Q:Value→Shared→Prop}(I:Inv X pins σ H s)(e:H a=some (.ins C dx fs))(c:Cls X.K C)(n:j4 X.K C f)(l:fs.lookup f=some v)
  (h:∀u s',Inv X pins σ H s'→RelV v u→Q u s'):wpAny (model X.prog X.w) A (getAttr (.ref a) f b) Q E s:=by
 obtain⟨mA,O,r,_,_,_⟩:=IH I.hok e;obtain⟨u,hu,ru⟩:=uF.some_of (v:=v) (o:=mA f) (by rw[←l];exact r f);exact get_map I.kIn O (c.get f) c.hd n hu (KU ru) (h u _ (I.tok _) ru)
theorem FE{y:V}{u:Value}{Q:Unit→Shared→Prop}(I:Inv X pins σ H s)(e:H a=some (.ins C dx fs))(c:Cls X.K C)(n:j4 X.K C f)(hl:fs.length<1000)(ry:RelV y u)
  (h:∀s',Inv X pins σ (upd H a (.ins C dx (cB f y fs))) s'→Q () s'):wpAny (model X.prog X.w) A (setAttr (.ref a) f u) Q E s:=by
 obtain⟨mA,O,r,wi,_,ho⟩:=IH I.hok e;have hz:(fs.map (·.1)).length≤ZW:=by rw[Zq,sizeLine_eq];lia
 refine O8 I.kIn O c.sa c.po n.taker c.hd wi hz fun h' O' sb=>h _ ?_;have hd:∃o,h'.get? dx=some o:=let⟨o,_,_,e',_⟩:=O'.ns;⟨o,e'⟩;refine I.write (x:=a) (e:=dx) (by rw[e];exact True.intro) (.inr ho) (fun b q hb z=>(sb.2 b hb).trans z) hd ?_;refine⟨by rw[aL O.ne];exact ho,?_,O.ne,O'.obj,_,O'.ns,fun g=>?_,fun g hg=>?_⟩
 ·have:=uT f y fs;lia
 ·show uF ((cB f y fs).lookup g) (if g=f then some u else mA g);rw[bZ];by_cases q:g=f
  ·rw[if_pos q,if_pos q];exact ry
  ·rw[if_neg q,if_neg q];exact r g
 ·by_cases q:g=f
  ·rw[q];exact(tY f y fs).1
  ·refine(tY f y fs).2 g (wi g fun z=>hg ?_);show(if g=f then some u else mA g)=none;rw[if_neg q];exact z
theorem Inv.made(I:Inv X pins σ H s):Inv X pins σ (upd (upd H s.heap.objs.size (.own (s.heap.objs.size+1))) (s.heap.objs.size+1) (.ins C s.heap.objs.size []))
  { s with heap:=(s.heap.push PySem.W.emptyDict).push (PySem.W.instObj C s.heap.objs.size) }:=by
 have e1:(s.heap.push PySem.W.emptyDict).get? s.heap.objs.size=some PySem.W.emptyDict:=Heap.get?_push_size s.heap rfl;have e2:((s.heap.push PySem.W.emptyDict).push (PySem.W.instObj C s.heap.objs.size)).get? (s.heap.objs.size+1)=some (PySem.W.instObj C s.heap.objs.size):=by
  have:=Heap.get?_push_size (s.heap.push PySem.W.emptyDict) (o:=PySem.W.instObj C s.heap.objs.size) rfl
  rwa [Heap.size_push]at this
 have e3:(s.heap.push PySem.W.emptyDict).Ns s.heap.objs.size (fun _=>none):=⟨PySem.W.emptyDict,#[],_,e1,rfl,(fun e he=>absurd he (by simp)),fun _=>rfl⟩
 have I1:=I.laid (a:=s.heap.objs.size) (o:=.own (s.heap.objs.size+1)) (h':=s.heap.push PySem.W.emptyDict) (t':=s.toks) (fun b u q=>Heap.get?_push_of_some _ q) (Nat.le_refl _) ⟨_,e1⟩;refine I1.laid (a:=s.heap.objs.size+1) (o:=.ins C s.heap.objs.size []) (t':=s.toks) (fun b u q=>Heap.get?_push_of_some _ q) (Nat.le_of_eq (Heap.size_push _ _)) ?_;have ne:s.heap.objs.size≠s.heap.objs.size+1:=Nat.ne_of_lt (Nat.lt_succ_self _);refine⟨by rw[aL ne,aB],Nat.zero_le _,ne,e2,fun _=>none,(Heap.Ns1.of_empty e3).at fun o q=>Heap.get?_push_of_some _ q,fun _=>True.intro,fun y hy=>absurd rfl hy⟩
theorem QU{prog:Program}{w:World}{env:Env}{e:Expr}{f:Str}{pos:Pos}{s:Shared}{Q:Value→Shared→Prop}(hb:attributeBase e f env (eval e env)=eval e env)
  (h:wpAny (model prog w) A (eval e env) (fun o s₁=>wpAny (model prog w) A (getAttr o f true) Q E s₁) E s):wpAny (model prog w) A (eval (.Attribute e f pos) env) Q E s :=
 Attribute_any_ h (by rw[arm_eval_Attribute,hb])
end
def VX(K:PySem.W.Frag)(ta:TE)(f:Str):TE:=fun σ H Q=>ta σ H fun x H1=>∃a C dx fs v,x=.ref a∧H1 a=some (.ins C dx fs)∧Cls K C∧j4 K C f∧fs.lookup f=some v∧Q v H1
def V5(K:PySem.W.Frag)(ta tv:TE)(f:Str):TS:=fun D σ H=>tv σ H fun y H1=>ta σ H1 fun x H2=>∃a C dx fs,x=.ref a∧H2 a=some (.ins C dx fs)∧Cls K C∧j4 K C f∧fs.length<1000 ∧
 D.nx σ (upd H2 a (.ins C dx (cB f y fs)))
section
variable{X:Cx}{o e value:Expr}{f:Str}{pos pos' tpos:Pos}{ta tv:TE}
theorem eI(he:PE X e ta)(hb:attributeBase e f X.env (eval e X.env)=eval e X.env):PE X (.Attribute e f pos) (VX X.K ta f):=by
 intro pins s σ H Q I h;refine QU hb (thn (he pins s σ H _ I h) fun u s1 ⟨x,H1,I1,rx,a,C,dx,fs,v,ex,ea,c,n,l,q⟩=>?_);subst ex;obtain rfl:u=Value.ref a:=rx;exact GH I1 ea c n l fun u' s2 I2 ru=>⟨v,H1,I2,ru,q⟩
theorem wZ(ha:PE X o ta)(hv:PE X value tv)(hs:swapsWith value (some (.Attribute o f pos')) pos.line X.env=pure false):PS X (.Assign [.Attribute o f pos'] value pos) (V5 X.K ta tv f):=by
 intro pins s σ H D I h;refine plainObj_wpAny_Assign_Attribute (thn (hv pins s σ H _ I h) fun u s1 ⟨y,H1,I1,ry,q⟩=>thn (ha pins s1 σ H1 _ I1 q) fun ov s2 ⟨x,H2,I2,rx,a,C,dx,fs,ex,ea,c,n,l,q2⟩=>?_) hs;subst ex;obtain rfl:ov=Value.ref a:=rx;exact FE I2 ea c n l ry fun s3 I3=>⟨σ,_,I3,q2⟩
end
section
variable{X:Cx}{pins:List (Addr×Obj)}{σ:St}{H:Hp}{s:Shared}{A:Around}{E:Value→Shared→Prop}{Q:Value→Shared→Prop}{c:Value}{b:Bool}
end
end L2
namespace L2
open PySem PySem.Spec PyProof.Rows
structure iB(k:Nat)(A:Around):Prop where
 hd:A.handled=none
 dp:A.depth+3*k+5<recursionLimit
 un:A.units+16*k+200<cLine
theorem iB.mono{j k:Nat}{A:Around}(r:iB k A)(h:j≤k):iB j A:=⟨r.hd,by have:=r.dp;lia,by have:=r.un;lia⟩
theorem iB.deeper{k:Nat}{A:Around}(r:iB (k+1) A)(env:Env):iB k (A.deeper env) :=
 ⟨r.hd,by have:=r.dp;show A.depth+1+3*k+5<_;lia,by have:=r.un;show A.units+3+16*k+200<_;lia⟩
theorem F8{A:Around}{C:Addr}{us:List Value}{kw:List (Str×Value)}:(A.under (.builtin "type.__call__" ⟨.ref C::us,kw⟩)).depth=A.depth+1:=by
 first | rfl | simp[Around.under,Code.weight,Code.isCreation,Code.isGuard,Code.isCaller,Code.frames,Code.isFrame,guardIds]
theorem F7{A:Around}{C:Addr}{us:List Value}{kw:List (Str×Value)}:(A.under (.builtin "type.__call__" ⟨.ref C::us,kw⟩)).units=A.units+1:=by
 first | rfl | simp[Around.under,Code.cUnits,Code.frames,Code.isFrame]
theorem iB.make{k:Nat}{A:Around}(r:iB (k+1) A)(C:Addr)(us:List Value)(kw:List (Str×Value)):iB k (A.under (.builtin "type.__call__" ⟨.ref C::us,kw⟩)) :=
 ⟨r.hd,by have:=r.dp;rw[F8];lia,by have:=r.un;rw[F7];lia⟩
theorem iB.depth{k:Nat}{A:Around}(r:iB k A):A.depth<recursionLimit:=by have:=r.dp;lia
theorem iB.units{k:Nat}{A:Around}(r:iB k A):A.units+64<cLine:=by have:=r.un;lia
theorem iB.units0{k:Nat}{A:Around}(r:iB k A):A.units<cLine:=by have:=r.un;lia
def T9:TA:=fun _ H Q=>Q [] H
def Q2(ta:TE)(tr:TA):TA:=fun σ H Q=>ta σ H fun x H1=>tr σ H1 fun xs H2=>Q (x::xs) H2
section
variable{X:Cx}{e:Expr}{es:List Expr}{te:TE}{t:TA}{pos:Pos}
theorem aC:PA X [] T9:=fun _ _ _ _ H Q I h=>Calls.spliced_nil ⟨[],H,I,.nil,h⟩
theorem aA(ha:PE X e te)(hr:PA X es t)(hs:starEach (e::es) X.env=(false,eval e X.env)::starEach es X.env:=by rfl):PA X (e::es) (Q2 te t):=by
 intro pos pins s σ H Q I h;rw[hs];show wpAny _ _ (spliced ((false,eval e X.env)::backTo pos (starEach es X.env))) _ _ s;refine Calls.spliced_cons (thn (ha pins s σ H _ I h) fun u s1 ⟨x,H1,I1,r1,q1⟩=>?_);exact thn (hr pos pins s1 σ H1 _ I1 q1) fun us s2 ⟨xs,H2,I2,r2,q2⟩=>⟨x::xs,H2,I2,.cons r1 r2,q2⟩
def VR(t:TA):TE:=fun σ H Q=>t σ H fun xs H1=>xs.length≤ZW∧∀p,H1 p=none→Q (.ref p) (upd H1 p (.tup xs))
def VV(t:TA):TE:=fun σ H Q=>t σ H fun xs H1=>xs.length≤ZW∧∀p,H1 p=none→Q (.ref p) (upd H1 p (.lst xs))
theorem bX{x1}(h:PA X es t):PE X (.Tuple es x1 pos) (VR t):=by
 intro pins s σ H Q I hq;refine wpAny_Tuple_spliced (thn (h pos pins s σ H _ I hq) fun us s1 ⟨xs,H1,I1,r,z,q⟩=>⟨by rw[←r.length];exact z,?_⟩);have hf:H1 s1.heap.objs.size=none:=I1.hok.fresh (Nat.le_refl _);refine⟨.ref s1.heap.objs.size,upd H1 s1.heap.objs.size (.tup xs),I1.laid (t':=s1.toks) (fun b u e=>Heap.get?_push_of_some _ e) (Nat.le_refl _) ?_,rfl,q _ hf⟩;exact⟨z,us,r,⟨_,Heap.get?_push_size _ rfl,rfl,_,rfl⟩⟩
theorem bS(h:PA X es t):PE X (.List es pos) (VV t):=by
 intro pins s σ H Q I hq;refine wpAny_List_spliced (thn (h pos pins s σ H _ I hq) fun us s1 ⟨xs,H1,I1,r,z,q⟩=>⟨by rw[←r.length];exact z,?_⟩);have hf:H1 s1.heap.objs.size=none:=I1.hok.fresh (Nat.le_refl _);refine⟨.ref s1.heap.objs.size,upd H1 s1.heap.objs.size (.lst xs),I1.laid (t':=s1.toks) (fun b u e=>Heap.get?_push_of_some _ e) (Nat.le_refl _) ?_,rfl,q _ hf⟩;exact⟨z,us,0,r,Heap.get?_push_size _ rfl⟩
end
abbrev Sp:=List V→Hp→VK→XK→Prop
abbrev CXT:=List Env→Hp→Shared→XK→Value→Shared→Prop
structure GX(P:Program)(w:World)(K:PySem.W.Frag)(mg:Str→Option Value)(base:Heap)(A:Around)(outer:List Env)(s:Shared)(H:Hp):Prop where
 frames:A.frames=some outer
 mod:Mod K mg base
 bs:∀b o,base.get? b=some o→s.heap.get? b=some o∧H b=none
 bsz:base.objs.size≤s.heap.objs.size
 funs:s.heap.FunFrames base outer
 frf:∀b∈frs outer,H b=none
 hok:HOk P w H s.heap
 bare:AllBare s.gens
def CE(outer:List Env)(P:Program)(w:World)(H:Hp)(s:Shared)(Q:VK)(u:Value)(s':Shared):Prop :=
 ∃v H',s'.os=s.os∧AllBare s'.gens∧Un (frs outer) [] H H' s.heap s'.heap∧HOk P w H' s'.heap∧RelV v u∧Q v H'
def CR(CX:CXT)(outer:List Env)(P:Program)(w:World)(H:Hp)(s:Shared)(Q:VK)(E:XK)(r:Result)(s':Shared):Prop :=
 match r with
 |.ok (.ret u)=>CE outer P w H s Q u s'
 |.ok _=>False
 |.error e=>CX outer H s E e s'
structure bQ(P:Program)(w:World)(K:PySem.W.Frag)(mg:Str→Option Value)(base:Heap)(CX:CXT)(k:Nat)(f:Addr)(fd:FuncData)(ps:List Str)(sp:Sp):Prop where
 len:∀vs H Q E,sp vs H Q E→vs.length=ps.length
 run:∀(A:Around) (outer:List Env) (s:Shared) (H:Hp) (args:Args) (us:List Value) (vs:List V) (Q:VK) (E:XK),iB k A→GX P w K mg base A outer s H→BindsTo s fd args (ps.zip us)→bY vs us→sp vs H Q E →
  codeAny (model P w) A (.call (.ref f) args) (CR CX outer P w H s Q E) s
theorem bQ.mono{P:Program}{w:World}{K:PySem.W.Frag}{mg:Str→Option Value}{base:Heap}{CX:CXT}{j k:Nat}{f:Addr}{fd:FuncData}{ps:List Str}{sp:Sp}(F:bQ P w K mg base CX j f fd ps sp)(h:j≤k) :
  bQ P w K mg base CX k f fd ps sp:=⟨F.len,fun A outer s H args us vs Q E hr=>F.run A outer s H args us vs Q E (hr.mono h)⟩
theorem GX.make{P:Program}{w:World}{K:PySem.W.Frag}{mg:Str→Option Value}{base:Heap}{A:Around}{outer:List Env}{s:Shared}{H:Hp}(e:GX P w K mg base A outer s H)(C:Addr)(us:List Value)(kw:List (Str×Value)) :
  GX P w K mg base (A.under (.builtin "type.__call__" ⟨.ref C::us,kw⟩)) outer s H:=⟨by first | exact e.frames | (simpa[Around.under,Code.envs,Code.isFrame,pushEnvs] using e.frames),e.mod,e.bs,e.bsz,e.funs,e.frf,e.hok,e.bare⟩
section
variable{X:Cx}{pins:List (Addr×Obj)}{σ:St}{H:Hp}{s s':Shared}
theorem Inv.env0(I:Inv X pins σ H s):GX X.prog X.w X.K X.mg X.base X.A X.stack s H :=
 ⟨I.ok.frames,I.ok.mod,I.bs,Yr I.ok.bsz I.sz,I.stack,I.stkFree,I.hok,I.bare⟩
theorem Inv.after{Q:VK}{u:Value}(I:Inv X pins σ H s)(h:CE X.stack X.prog X.w H s Q u s'):EP X pins σ Q u s':=by
 obtain⟨v,H',os,bare,un,hok,r,q⟩:=h;obtain⟨hh,g,d,t,os'⟩:=s';obtain rfl:os'=s.os:=os;exact⟨v,H',I.call (h':=hh) (g':=g) (d':=d) (t':=t) (ch:=[]) un hok bare (fun b z=>absurd z (by simp)),r,q⟩
end
def Q4(sp:Sp)(dvs:List V)(E:XK)(t:TA):TE:=fun σ H Q=>t σ H fun vs H1=>sp (vs++dvs) H1 Q E
def UA(C:Addr)(sp:Sp)(dvs:List V)(E:XK)(t:TA):TE:=fun σ H Q=>t σ H fun vs H1=>∀x dx,H1 x=none→H1 dx=none→dx≠x →
 sp (.ref x::(vs++dvs)) (upd (upd H1 dx (.own x)) x (.ins C dx [])) (fun v H2=>v=.non∧Q (.ref x) H2) E
def Binds(K:PySem.W.Frag)(fd:FuncData)(ps:List Str)(ds:List Value):Prop :=
 ∀(s:Shared) (us:List Value),K.In s.heap→(us++ds).length=ps.length→BindsTo s fd ⟨us,[]⟩ (ps.zip (us++ds))
theorem Binds.all{K:PySem.W.Frag}{fd:FuncData}{ps:List Str}(h:∀us:List Value,us.length=ps.length→bindArgs fd ⟨us,[]⟩=pure (ps.zip us)):Binds K fd ps []:=fun s us _ hl=>by
 rw[List.append_nil]at hl ⊢;exact .of_eq (h us hl)
def mI(CX:CXT)(X:Cx)(E:XK):Prop:=∀(pins:List (Addr×Obj)) (σ:St) (H:Hp) (s:Shared) (e:Value) (s':Shared),Inv X pins σ H s→CX X.stack H s E e s'→X.xe e s'
section
variable{X:Cx}{CX:CXT}{k:Nat}{f C:Addr}{fd:FuncData}{ps:List Str}{sp:Sp}{dvs:List V}{ds:List Value}{E:XK}{x m:Str}{p pos apos:Pos}{e o:Expr}{es:List Expr}{ta:TE}{t:TA}
theorem RX{pins:List (Addr×Obj)}{σ:St}{H:Hp}{s:Shared}{Q:VK}{us:List Value}{vs:List V}(F:bQ X.prog X.w X.K X.mg X.base CX k f fd ps sp)(hr:iB k X.A)(hb:Binds X.K fd ps ds)(hd:bY dvs ds)(hx:mI CX X E)
  (I:Inv X pins σ H s) (r:bY vs us) (h:sp (vs++dvs) H Q E):wpAny (model X.prog X.w) X.A (call (.ref f) us) (EP X pins σ Q) X.xe s:=by
 have r2:bY (vs++dvs) (us++ds):=r.append hd;have hl:(us++ds).length=ps.length:=by rw[←r2.length];exact F.len _ _ _ _ h
 refine wpAny_call (codeAny_mono (F.run X.A X.stack s H ⟨us,[]⟩ (us++ds) (vs++dvs) Q E hr I.env0 (hb s us I.kIn hl) r2 h) fun r s' hq=>?_);cases r with
 |error e=>exact hx pins σ H s e s' I hq
 |ok fl =>
  cases fl with
  |ret u=>exact I.after hq
  |next=>exact False.elim hq
  |brk=>exact False.elim hq
  |cont=>exact False.elim hq
theorem PY(F:bQ X.prog X.w X.K X.mg X.base CX k f fd ps sp)(hr:iB k X.A)(hg:Gl X x)(hm:X.mg x=some (.ref f))(hk:PySem.W.keepIn X.K (.ref f)=true)(hb:Binds X.K fd ps ds)(hd:bY dvs ds)(hx:mI CX X E)
  (ha:PA X (e::es) t) (hdb:(x==("__debug__" : Str))=false:=by decide) (he:starEach (e::es) X.env=(false,eval e X.env)::starEach es X.env:=by rfl) (hpl:(backTo pos (starEach es X.env)).any (·.1)=false:=by rfl) :
  PE X (.Call (.Name x p) (e::es) [] pos) (Q4 sp dvs E t):=by
 intro pins s σ H Q I h;refine wpAny_Call_Name_kw (sF I hg hm ?_ hdb);refine PySem.W.callWith_K (h₀:=X.base) I.ok.mod.kin hk (thn (ha pos pins s σ H _ I h) fun us s1 ⟨vs,H1,I1,r,q⟩=>⟨I1.kIn,?_⟩) he hpl;exact RX F hr hb hd hx I1 r q
structure Mk(K:PySem.W.Frag)(C f:Addr):Prop where
 makes:PySem.W.makesIn K C=true
 init:PySem.W.findIn K (.ref C) "__init__" = some (some (.ref f))
 fn:PySem.W.isFn K (.ref f)=true
 kp:PySem.W.keepIn K (.ref C)=true
theorem MS{pins:List (Addr×Obj)}{σ:St}{H:Hp}{s:Shared}{Q:VK}{us:List Value}{vs:List V}(M:Mk X.K C f)(F:bQ X.prog X.w X.K X.mg X.base CX k f fd ps sp)(hr:iB (k+1) X.A)(hb:Binds X.K fd ps ds)(hd:bY dvs ds)
  (hx:mI CX X E) (I:Inv X pins σ H s) (r:bY vs us)
  (h:∀x dx,H x=none→H dx=none→dx≠x→sp (.ref x::(vs++dvs)) (upd (upd H dx (.own x)) x (.ins C dx [])) (fun v H2=>v=.non∧Q (.ref x) H2) E) :
  wpAny (model X.prog X.w) X.A (call (.ref C) us) (EP X pins σ Q) X.xe s:=by
 have hq:=h (s.heap.objs.size+1) s.heap.objs.size (I.hok.fresh (Nat.le_succ _)) (I.hok.fresh (Nat.le_refl _)) (Nat.ne_of_lt (Nat.lt_succ_self _));have I2:=Inv.made (C:=C) I;have r2:bY (V.ref (s.heap.objs.size+1)::(vs++dvs)) (Value.ref (s.heap.objs.size+1)::(us++ds)):=.cons rfl (r.append hd);have hl:(Value.ref (s.heap.objs.size+1)::us++ds).length=ps.length:=by
  have e:=r2.length;rw[F.len _ _ _ _ hq]at e;exact e.symm
 refine wpAny_call (NS (f:=f) I.kIn M.makes M.init (beq_iff_eq.mp M.fn) (codeAny_mono (F.run _ X.stack _ _ ⟨Value.ref (s.heap.objs.size+1)::us,[]⟩ (Value.ref (s.heap.objs.size+1)::(us++ds)) _ _ E (hr.make C us [])
  (I2.env0.make C us []) (hb _ (Value.ref (s.heap.objs.size+1)::us) I2.kIn hl) r2 hq) fun r s' hq'=>?_))
 cases r with
 |error e=>exact hx pins σ _ _ e s' I2 hq'
 |ok fl =>
  cases fl with
  |ret u =>
   obtain⟨v,H',I3,rv,ev,q3⟩:=I2.after hq';subst ev;exact⟨rv,⟨V.ref (s.heap.objs.size+1),H',I3,rfl,q3⟩⟩
  |next=>exact False.elim hq'
  |brk=>exact False.elim hq'
  |cont=>exact False.elim hq'
theorem PX(M:Mk X.K C f)(F:bQ X.prog X.w X.K X.mg X.base CX k f fd ps sp)(hr:iB (k+1) X.A)(hg:Gl X x)(hm:X.mg x=some (.ref C))(hb:Binds X.K fd ps ds)(hd:bY dvs ds)(hx:mI CX X E)
  (ha:PA X (e::es) t) (hdb:(x==("__debug__" : Str))=false:=by decide) (he:starEach (e::es) X.env=(false,eval e X.env)::starEach es X.env:=by rfl) (hpl:(backTo pos (starEach es X.env)).any (·.1)=false:=by rfl) :
  PE X (.Call (.Name x p) (e::es) [] pos) (UA C sp dvs E t):=by
 intro pins s σ H Q I h;refine wpAny_Call_Name_kw (sF I hg hm ?_ hdb);refine PySem.W.callWith_K (h₀:=X.base) I.ok.mod.kin M.kp (thn (ha pos pins s σ H _ I h) fun us s1 ⟨vs,H1,I1,r,q⟩=>⟨I1.kIn,?_⟩) he hpl;exact MS M F hr hb hd hx I1 r q
end
def PK(X:Cx)(kws:List Keyword)(t:TA):Prop :=
 ∀(pos:Pos) (pins:List (Addr×Obj)) (s:Shared) (σ:St) (H:Hp) (Q:List V→Hp→Prop),Inv X pins σ H s→t σ H Q→wpAny (model X.prog X.w) X.A (evalAll ((backToKw pos (keywordEach kws X.env)).map (·.2))) (AP X pins σ Q) X.xe s
section
variable{X:Cx}{CX:CXT}{k:Nat}{f C:Addr}{fd:FuncData}{ps ks:List Str}{sp:Sp}{E:XK}{x m:Str}{p pos apos kpos:Pos}{e o:Expr}{es:List Expr}{kws:List Keyword}{te ta:TE}{t tk:TA}{nm:Option Str}
theorem R9:PK X [] T9:=fun _ _ _ _ H Q I h=>wpAny_evalAll_nil ⟨[],H,I,.nil,h⟩
theorem PV(ha:PE X e te)(hr:PK X kws t):PK X (⟨nm,e,kpos⟩::kws) (Q2 te t):=by
 intro pos pins s σ H Q I h;show wpAny _ _ (evalAll ((do let v ←eval e X.env;standAt pos;pure v)::(backToKw pos (keywordEach kws X.env)).map (·.2))) _ _ s;refine wpAny_evalAll_cons (ZZ (thn (ha pins s σ H _ I h) fun u s1 ⟨x,H1,I1,r1,q1⟩=>ZZ (wpAny_standAt (ZY ?_))));exact thn (hr pos pins s1 σ H1 _ I1 q1) fun us s2 ⟨xs,H2,I2,r2,q2⟩=>⟨x::xs,H2,I2,.cons r1 r2,q2⟩
variable{g:List Value→List Value→List Value}{gV:List V→List V→List V}
end
structure a9(N P:List Str)(sc:Scope):Prop where
 kind:sc.kind=.function
 co:sc.isCoroutine=false
 gen:sc.isGenerator=false
 nd:N.Nodup
 pre:N.take P.length=P
 par:∀x∈P,sc.names.lookup x=some .local∨sc.names.lookup x=some .cell
 nofree:∀y∈sc.names,y.2≠.free
theorem AS{kindOf:Str→Option NameKind}{x:Str}:∀{binds:List (Str×Value)}{m:Str→Option Value},(∀v,(x,v)∉binds)→bindL kindOf binds m x=m x
 |[],_,_=>rfl
 |(n,v)::r,m,h=>by
  unfold bindL;rw[AS fun w hw=>h w (Zw _ hw)];split
  ·have:x≠n:=by rintro rfl;exact h v Zd
   simp[this]
  ·rfl
theorem AV{kindOf:Str→Option NameKind}{x:Str}:∀{binds:List (Str×Value)}{m:Str→Option Value},(∀v,(x,v)∉binds)→bindC kindOf binds m x=m x
 |[],_,_=>rfl
 |(n,v)::r,m,h=>by
  unfold bindC;rw[AV fun w hw=>h w (Zw _ hw)];split
  ·rfl
  ·have:x≠n:=by rintro rfl;exact h v Zd
   simp[this]
theorem AU{kindOf:Str→Option NameKind}{x:Str}{v:Value}:∀{P:List Str}{vs:List Value}{i:Nat}{m:Str→Option Value},P.Nodup→P[i]?=some x→vs[i]?=some v→kindOf x=some .local →
  bindL kindOf (P.zip vs) m x=some v
 |[],_,_,_,_,h,_,_=>by simp at h
 |_::_,[],_,_,_,_,h,_=>by simp at h
 |p::P,w::vs,0,m,nd,h1,h2,hk=>by
  simp at h1 h2;subst h1;subst h2;show bindL kindOf ((p,w)::P.zip vs) m p=_;unfold bindL;rw[AS fun v hv=>(List.nodup_cons.mp nd).1 (List.of_mem_zip hv).1,if_pos hk];simp
 |p::P,w::vs,i+1,m,nd,h1,h2,hk=>by
  show bindL kindOf ((p,w)::P.zip vs) m x=_;unfold bindL;exact AU (i:=i) (List.nodup_cons.mp nd).2 (by simpa using h1) (by simpa using h2) hk
theorem AX{kindOf:Str→Option NameKind}{x:Str}{v:Value}:∀{P:List Str}{vs:List Value}{i:Nat}{m:Str→Option Value},P.Nodup→P[i]?=some x→vs[i]?=some v→kindOf x≠some .local →
  bindC kindOf (P.zip vs) m x=some v
 |[],_,_,_,_,h,_,_=>by simp at h
 |_::_,[],_,_,_,_,h,_=>by simp at h
 |p::P,w::vs,0,m,nd,h1,h2,hk=>by
  simp at h1 h2;subst h1;subst h2;show bindC kindOf ((p,w)::P.zip vs) m p=_;unfold bindC;rw[AV fun v hv=>(List.nodup_cons.mp nd).1 (List.of_mem_zip hv).1,if_neg hk];simp
 |p::P,w::vs,i+1,m,nd,h1,h2,hk=>by
  show bindC kindOf ((p,w)::P.zip vs) m x=_;unfold bindC;exact AX (i:=i) (List.nodup_cons.mp nd).2 (by simpa using h1) (by simpa using h2) hk
def start(N:List Str)(vs:List V):St:=vs.map some++List.replicate (N.length-vs.length) none
def zB(CX:CXT)(P:Program)(w:World)(K:PySem.W.Frag)(mg:Str→Option Value)(base:Heap)(N:List Str)(qual:Str)(scope:Scope)(f:Addr)(cd:Value)(A:Around)(outer:List Env)(s:Shared)(H:Hp)(E:XK):Cx where
 prog:=P
 w:=w
 K:=K
 mg:=mg
 base:=base
 A:=A.deeper (envOfC qual scope s.heap.objs.size f cd)
 N:=N
 s₀:=s
 H₀:=H
 env:=envOfC qual scope s.heap.objs.size f cd
 outer:=outer
 stack:=envOfC qual scope s.heap.objs.size f cd::outer
 ex:=[]
 calm:=true
 fn:=fun _=>true
 pn:=[]
 xe:=fun e s'=>wpAny (model P w) (A.deeper (envOfC qual scope s.heap.objs.size f cd)) (leaving (envOfC qual scope s.heap.objs.size f cd) e) (fun _ s''=>CX outer H s E e s'') (fun e' s''=>CX outer H s E e' s'') s'
theorem EK{sc:Scope}{n:Nat}{x:Str}(h:sc.names.lookup x=some .cell):∃c,(cellsFrom n sc.names []).lookup x=some c:=by
 have q:=PySem.W.cellsFrom_some sc.names n [] (.inl h);exact Option.isSome_iff_exists.mp q
theorem KQ{CX:CXT}{P:Program}{w:World}{K:PySem.W.Frag}{mg:Str→Option Value}{base:Heap}{N ps:List Str}{qual:Str}{scope:Scope}{f:Addr}{cd:Value}{A:Around}{outer:List Env}{s s1:Shared}{H:Hp}{E:XK}{us:List Value}{vs:List V}
  (S:a9 N ps scope) (hd:A.handled=none) (e0:GX P w K mg base A outer s H) (hl:vs.length=ps.length) (r:bY vs us)
  (x:InCallC s s.heap.objs.size (bindL (envOfC qual scope s.heap.objs.size f cd).kindOf (ps.zip us) fun _=>none) (cellsFrom (s.heap.objs.size+1) scope.names []) (bindC (envOfC qual scope s.heap.objs.size f cd).kindOf (ps.zip us) fun _=>none) s1) :
  Inv (zB CX P w K mg base N qual scope f cd A outer s H E) [] (start N vs) H s1:=by
 have hpl:ps.length≤N.length:=by have:=congrArg List.length S.pre;rw[Yw]at this;lia
 obtain⟨h1,tk,rfl,hk⟩:=x.done;have noA:∀b:Addr,b∉(zB CX P w K mg base N qual scope f cd A outer s H E).ex:=fun b z=>absurd (show b∈([]:List Addr) from z) (by simp);refine⟨⟨e0.mod,S.kind,rfl,rfl,Nat.le_refl _,fun y z c h1 h2=>?_,fun y hy=>?_,fun y c _ h=>?_,fun _=>hd,Around.frames_deeper e0.frames,.inr ⟨rfl,rfl⟩,fun b z=>absurd z (noA b),e0.bs,e0.bsz,fun b _ _=>noA b,fun b z=>absurd z (noA b),e0.funs,e0.frf⟩,
  rfl,e0.bare,Un.kept hk,⟨_,x.toInCall.ns,fun i y v h1 h2 h3=>?_⟩,fun y c h=>⟨_,x.cell y c h⟩,e0.hok.fresh (Nat.le_refl _),fun y c h=>?_,fun p hp=>absurd (show p∈([]:List (Addr×Obj)) from hp) (by simp),e0.hok.kept hk,?_⟩
 ·exact name_of_addr x.apart (PySem.mem_of_lookup h1) (PySem.mem_of_lookup h2)
 ·have hy:scope.names.lookup y=some .cell∨scope.names.lookup y=some .free:=hy;rcases hy with hy | hy
  ·exact EK hy
  ·exact absurd rfl (S.nofree _ (PySem.mem_of_lookup hy))
 ·exact Nat.le_of_lt (x.above y c (PySem.mem_of_lookup h))
 ·have hi:i<vs.length:=by
   unfold start at h2;by_cases hi:i<vs.length
   ·exact hi
   ·rw[Zy (by simpa using hi)]at h2;rw[List.getElem?_replicate]at h2;split at h2<;>cases h2
  have ha:vs[i]?=some v:=by
   unfold start at h2;rw[Zx (by simpa using hi),Zk]at h2;cases e:vs[i]? with
   |none=>rw[e]at h2;cases h2
   |some a=>rw[e]at h2;cases h2;rfl
  obtain⟨u,hu,rv⟩:=r.get ha;have hp:ps[i]?=some y:=by
   rw[←S.pre,List.getElem?_take_of_lt (by lia)];exact h1
  have ndP:ps.Nodup:=by rw[←S.pre];exact S.nd.sublist (List.take_sublist _ _)
  refine⟨u,rv,?_⟩;rcases S.par y (Zg hp) with k | k
  ·exact .inl ⟨k,AU ndP hp hu k⟩
  ·obtain⟨c,e⟩:=EK (n:=s.heap.objs.size+1) k;refine .inr ⟨.inl k,c,e,?_⟩;have q:=x.cell y c e;rw[AX ndP hp hu (by show scope.names.lookup y≠_;rw[k];decide)]at q;exact q
 ·exact e0.hok.fresh (Nat.le_of_lt (x.above y c (PySem.mem_of_lookup h)))
 ·unfold start;show _=N.length;rw[Zm,Zq,List.length_replicate]
  lia
theorem RB{CX:CXT}{P:Program}{w:World}{K:PySem.W.Frag}{mg:Str→Option Value}{base:Heap}{k:Nat}{f:Addr}{name qual:Str}{params:Arguments}{body:List Stmt}{scope:Scope}{dV kV doc pm cdv ct oc:Value}{an od:Option Addr}
  {osl:Array (Option Value)}{N ps:List Str}{sp:Sp}(lk:K.lookup f=some ⟨oc,od,.func (PySem.W.fnOf name qual params body scope dV kV doc pm an cdv ct),osl⟩) (hcd:PySem.W.codeIn K cdv qual=true) (S:a9 N ps scope)
  (len:∀vs H Q E,sp vs H Q E→vs.length=ps.length)
  (hbody:∀(A:Around) (outer:List Env) (s:Shared) (H:Hp) (vs:List V) (Q:VK) (E:XK),iB k (A.deeper (envOfC qual scope s.heap.objs.size f cdv))→sp vs H Q E →
   ∃t,PSs (zB CX P w K mg base N qual scope f cdv A outer s H E) body t∧t { nx:=fun _ H'=>Q .non H',rt:=Q } (start N vs) H) :
  bQ P w K mg base CX (k+1) f (PySem.W.fnOf name qual params body scope dV kV doc pm an cdv ct) ps sp:=by
 refine⟨len,fun A outer s H args us vs Q E hr e0 hb r hsp=>?_⟩;have hl:=len _ _ _ _ hsp;have KX:K.In s.heap:=e0.mod.kin.keeps fun b o e=>(e0.bs b o e).1;have lim:s.heap.NoLimit:=e0.mod.nolimit.keeps fun b o e=>(e0.bs b o e).1;have hkind:∀y∈ps.zip us,scope.names.lookup y.1=some .local∨(scope.names.lookup y.1=some .cell∧((cellsFrom (s.heap.objs.size+1) scope.names []).lookup y.1).isSome=true):=fun ⟨n,v⟩ hy=>by
  rcases S.par n (List.of_mem_zip hy).1 with q | q
  ·exact .inl q
  ·exact .inr ⟨q,PySem.W.cellsFrom_some _ _ _ (.inl q)⟩
 refine codeAny_call_function hr.depth (KX _ _ lk) rfl S.co S.gen rfl (PySem.W.codeRec_of KX hcd) (hb _ _ _ _ ?_);refine wpAny_newFunctionEnv_cells S.kind hkind fun env he s1 x=>?_;subst he;refine⟨lim.keeps x.toInCall.keep,codeAny_func ?_⟩;obtain⟨t,ht,hq⟩:=hbody A outer s H vs Q E (hr.deeper _) hsp;have I:Inv (zB CX P w K mg base N qual scope f cdv A outer s H E) [] (start N vs) H s1:=KQ S hr.hd e0 hl r x;refine ZX (ht [] s1 (start N vs) H _ I hq) (fun fl s' hs=>?_) fun e s' hs=>hs;have fin:∀{σ':St}{H':Hp}{v:V}{u:Value},Inv (zB CX P w K mg base N qual scope f cdv A outer s H E) [] σ' H' s'→RelV v u→Q v H'→CE outer P w H s Q u s' :=
  fun {σ' H' v u} J rv q=>⟨v,H',J.os,J.bare,J.base,J.hok,rv,q⟩
 cases fl with
 |ret u =>
  obtain⟨v,σ',H',J,rv,q⟩:=hs;exact fin J rv q
 |next =>
  obtain⟨σ',H',J,q⟩:=hs;exact fin (v:=V.non) (u:=Value.none) J rfl q
 |brk =>
  obtain⟨_,_,_,q⟩:=hs;exact False.elim q
 |cont =>
  obtain⟨_,_,_,q⟩:=hs;exact False.elim q
end L2
namespace L2
open PySem PySem.Spec PyProof.Rows
section
variable{X:Cx}{x:Str}{p pos:Pos}{e:Expr}{es:List Expr}{t:TA}{id T:String}{r:List V→Hp→VK→Prop}
def tCB(r:List V→Hp→VK→Prop)(t:TA):TE:=fun σ H Q=>t σ H fun vs H1=>r vs H1 Q
theorem aT(hc:fC X (.builtin id) r)(hg:Gl X x)(hm:X.mg x=none)(hv:bootBuiltins x=some (.builtin id))(ha:PA X (e::es) t)(hn:x≠"__name__":=by decide)(hdb:(x==("__debug__" : Str))=false:=by decide)
  (he:starEach (e::es) X.env=(false,eval e X.env)::starEach es X.env:=by rfl) (hpl:(backTo pos (starEach es X.env)).any (·.1)=false:=by rfl):PE X (.Call (.Name x p) (e::es) [] pos) (tCB r t):=by
 intro pins s σ H Q I h;refine wpAny_Call_Name_kw (oB I hg hm hv ?_ hn hdb);exact PyProof.Rows.callWith_builtin1 (thn (ha pos pins s σ H _ I h) fun us s1 ⟨vs,H1,I1,r1,q1⟩=>hc pins s1 σ H1 vs us Q I1 r1 q1) he hpl
theorem dG(hc:fC X (.type T) r)(hg:Gl X x)(hm:X.mg x=none)(hv:bootBuiltins x=some (.type T))(ha:PA X (e::es) t)(hn:x≠"__name__":=by decide)(hdb:(x==("__debug__" : Str))=false:=by decide)
  (he:starEach (e::es) X.env=(false,eval e X.env)::starEach es X.env:=by rfl) (hpl:(backTo pos (starEach es X.env)).any (·.1)=false:=by rfl):PE X (.Call (.Name x p) (e::es) [] pos) (tCB r t):=by
 intro pins s σ H Q I h;refine wpAny_Call_Name_kw (oB I hg hm hv ?_ hn hdb);exact PyProof.Rows.callWith_type1 (thn (ha pos pins s σ H _ I h) fun us s1 ⟨vs,H1,I1,r1,q1⟩=>hc pins s1 σ H1 vs us Q I1 r1 q1) he hpl
end
end L2
namespace HT
open PySem PyProof.Rows
section
open PySem.SeqAt
open PySem.AutoSeq1 (wpAny_loadPart')
open PySem.MeetsSeq PySem.MeetsSeq2 PySem.MeetsSeq3
end
section
variable{prog:Program}{w:World}{A:Around}{E:Value→Shared→Prop}{s:Shared}
def sIx(n d:Nat):Option Int→Nat
 |none=>d
 |some v=>if v<0 then (v+(n:Int)).toNat else min v.toNat n
theorem rQ(n d:Nat):sIx n d none=d:=rfl
theorem vS(n d k:Nat):sIx n d (some (k:Int))=min k n:=by
 show(if (k:Int)<0 then ((k:Int)+(n:Int)).toNat else min (k:Int).toNat n)=min k n;rw[if_neg (by lia),Int.toNat_natCast]
end
end HT
namespace L2
open PySem PySem.Spec PyProof.Rows
abbrev TO:=St→Hp→(Option Int→Hp→Prop)→Prop
def PO(X:Cx)(e:Option Expr)(t:TO):Prop :=
 ∀(pins:List (Addr×Obj)) (s:Shared) (σ:St) (H:Hp) (Q:Option Int→Hp→Prop),Inv X pins σ H s→t σ H Q →
  wpAny (model X.prog X.w) X.A (evalPart e X.env) (fun u s'=>∃o H',Inv X pins σ H' s'∧IsPart u o∧Q o H') X.xe s
def OW:TO:=fun _ H Q=>Q none H
def T7(t:TE):TO:=fun σ H Q=>t σ H fun x H1=>∃i,x=.int i∧Q (some i) H1
theorem intsAre_of{ns:List Int}:∀{us:List Value},bY (ns.map V.int) us→IntsAre us ns:=by
 induction ns with
 |nil=>intro us r;rw[List.map_nil]at r;cases r;exact .nil
 |cons n ns ih =>
  intro us r;rw[List.map_cons]at r;cases r with
  |cons r1 r2 =>
   obtain⟨t,e⟩:=r1;subst e;exact .cons n t (ih r2)
section
variable{X:Cx}{e:Expr}{te:TE}{lo hi:Option Expr}{tl th:TO}{pos p2:Pos}
theorem vW:PO X none OW:=by
 intro pins s σ H Q I h;rw[evalPart_none];exact ZY ⟨none,H,I,.none,h⟩
theorem vV(h:PE X e te):PO X (some e) (T7 te):=by
 intro pins s σ H Q I hw;rw[evalPart_some];refine thn (h pins s σ H _ I hw) fun u s1 ⟨x,H1,I1,r1,q1⟩=>?_;obtain⟨i,rfl,q⟩:=q1;obtain⟨t,rfl⟩:=r1;exact⟨some i,H1,I1,.int i t,q⟩
def SlR(X:Cx)(r:V→Option Int→Option Int→Hp→VK→Prop):Prop :=
 ∀(pins:List (Addr×Obj)) (s:Shared) (σ:St) (H:Hp) (x:V) (v vl vu:Value) (lo hi:Option Int) (sl:Addr) (Q:VK),Inv X pins σ H s→RelV x v→s.heap.IsSliceOf sl vl vu .none→IsPart vl lo→IsPart vu hi→r x lo hi H Q →
  ∃T id,typeLookup (.type T) "__getitem__" = pure (some (.builtin id))∧s.TypeIs v T∧wpAny (model X.prog X.w) X.A (getItem v (.ref sl)) (EP X pins σ Q) X.xe s
def tSl(r:V→Option Int→Option Int→Hp→VK→Prop)(te:TE)(tl th:TO):TE:=fun σ H Q=>te σ H fun x H1=>tl σ H1 fun l H2=>th σ H2 fun u H3=>r x l u H3 Q
theorem rX{r:V→Option Int→Option Int→Hp→VK→Prop}(hr:SlR X r)(he:PE X e te)(hl:PO X lo tl)(hu:PO X hi th):PE X (.Subscript e (.Slice lo hi none p2) pos) (tSl r te tl th):=by
 intro pins s σ H Q I h;refine Subscript_ (thn (he pins s σ H _ I h) fun v s1 ⟨x,H1,I1,r1,q1⟩=>?_);refine wpAny_Slice (thn (hl pins s1 σ H1 _ I1 q1) fun vl s2 ⟨l,H2,I2,pl,q2⟩=>thn (hu pins s2 σ H2 _ I2 q2) fun vu s3 ⟨u,H3,I3,pu,q3⟩=>?_);rw[evalPart_none];refine ZY ?_;have I4:Inv X pins σ H3 { s3 with heap:=s3.heap.push { cls:=.type "slice",data:=.fields #[vl,vu,.none] } }:=I3.kept (t':=s3.toks) fun b ob q=>Heap.get?_push_of_some _ q;obtain⟨T,id,hT,ht,hg⟩:=hr pins { s3 with heap:=s3.heap.push { cls:=.type "slice",data:=.fields #[vl,vu,.none] } } σ H3 x v vl vu l u s3.heap.objs.size Q I4 r1 (Heap.IsSliceOf.new ..) pl pu q3;show wpAny (model X.prog X.w) X.A (subscriptTail e (.Slice lo hi none p2) v (.ref s3.heap.objs.size)) (EP X pins σ Q) X.xe { s3 with heap:=s3.heap.push { cls:=.type "slice",data:=.fields #[vl,vu,.none] } };exact tail_any (ops:=[.ref s3.heap.objs.size,v]) ht hT hg (by with_unfolding_all rfl)
def vO(xs:List V)(lo hi:Option Int):List V:=(xs.drop (HT.sIx xs.length 0 lo)).take (HT.sIx xs.length xs.length hi-HT.sIx xs.length 0 lo)
theorem EH(xs:List V)(lo hi:Option Int):(vO xs lo hi).length≤xs.length:=by
 unfold vO;rw[Yw,Yd]
 lia
end
end L2
namespace L2
open PySem PySem.Spec PyProof.Rows
def ixN(n:Nat)(i:Int):Option Nat:=if 0≤i then (if i<n then some i.toNat else none) else if -(n:Int)≤i then some (i+n).toNat else none
def atI{α:Type}(xs:List α)(i:Int):Option α:=(ixN xs.length i).bind fun j=>xs[j]?
theorem IG{n:Nat}{i:Int}{j:Nat}(h:ixN n i=some j):seqIndex? i n=some j∧j<n∧-(n:Int)≤i∧i<n:=by
 unfold ixN at h;by_cases h0:0≤i
 ·rw[if_pos h0]at h;by_cases h1:i<n
  ·rw[if_pos h1]at h;have e:i.toNat=j:=Option.some.inj h;exact⟨by rw[seqIndex_of h0 h1,e],by lia,by lia,h1⟩
  ·rw[if_neg h1]at h;cases h
 ·rw[if_neg h0]at h;by_cases h1 : -(n:Int)≤i
  ·rw[if_pos h1]at h;have e:(i+n).toNat=j:=Option.some.inj h;exact⟨by rw[seqIndex_neg (by lia) h1,e],by lia,h1,by lia⟩
  ·rw[if_neg h1]at h;cases h
theorem v9{α:Type}{xs:List α}{i:Int}{v:α}(h:atI xs i=some v):∃j,seqIndex? i xs.length=some j∧xs[j]?=some v∧j<xs.length∧-(xs.length:Int)≤i∧i<xs.length:=by
 unfold atI at h;cases e:ixN xs.length i with
 |none=>rw[e]at h;cases h
 |some j =>
  rw[e]at h;obtain⟨h1,h2,h3,h4⟩:=IG e;exact⟨j,h1,h,h2,h3,h4⟩
theorem c9{α:Type}{xs:List α}{j:Nat}{v:α}(h:xs[j]?=some v):atI xs (j:Int)=some v:=by
 have hj:j<xs.length:=(Zj.mp h).1;have e:ixN xs.length (j:Int)=some j:=by
  unfold ixN;rw[if_pos (by lia),if_pos (by lia)];simp
 unfold atI;rw[e];exact h
def QV(b:Expr):Prop:=∀o i,subscripted b false o i=operate [o,i] (getItem o i)
def IxR(X:Cx)(r:R2):Prop :=
 ∀(value slice:Expr) (pins:List (Addr×Obj)) (s:Shared) (σ:St) (H:Hp) (x y:V) (v u:Value) (Q:VK),Inv X pins σ H s→RelV x v→RelV y u→r x y H Q →
  subscripted slice false v u=operate [v,u] (getItem v u)→wpAny (model X.prog X.w) X.A (subscriptTail value slice v u) (EP X pins σ Q) X.xe s
def MtR(X:Cx)(id:String)(r:V→List V→Hp→VK→Prop):Prop :=
 ∀(pins:List (Addr×Obj)) (s:Shared) (σ:St) (H:Hp) (x:V) (xs:List V) (v:Value) (us:List Value) (Q:VK),Inv X pins σ H s→RelV x v→bY xs us→r x xs H Q →
  wpAny (model X.prog X.w) X.A (call (.builtin id) (v::us)) (EP X pins σ Q) X.xe s
section
variable{X:Cx}{a b:Expr}{ta tb:TE}{pos:Pos}
theorem IxR.or{r r':R2}(h:IxR X r)(h':IxR X r'):IxR X (fun x y H Q=>r x y H Q∨r' x y H Q):=by
 intro value slice pins s σ H x y v u Q I rx ry q hs;rcases q with q | q
 ·exact h value slice pins s σ H x y v u Q I rx ry q hs
 ·exact h' value slice pins s σ H x y v u Q I rx ry q hs
theorem aM{r:R2}(hr:IxR X r)(ha:PE X a ta)(hb:PE X b tb)(hs:QV b):PE X (.Subscript a b pos) (tOp r ta tb):=by
 intro pins s σ H Q I h;exact Subscript_ (TM ha hb I h fun v u s2 x y H2 I2 rx ry q=>hr a b pins s2 σ H2 x y v u Q I2 rx ry q (hs _ _))
def R0(K:PySem.W.Frag):R2:=fun x y H Q=>∃p xs i v,x=.ref p∧y=.int i∧SqL K H p xs∧atI xs i=some v∧Q v H
def RZ(K:PySem.W.Frag):R2:=fun x y H Q=>∃p xs i v,x=.ref p∧y=.int i∧SqT K H p xs∧atI xs i=some v∧Q v H
def UU:R2:=fun x y H Q=>∃z i c,x=.str z∧y=.int i∧z.length≤ZW∧atI z.cps.toList i=some c∧Q (.str ⟨#[c]⟩) H
theorem aV:IxR X (R0 X.K):=by
 intro value slice pins s σ H x y v u Q I rx ry h hs;obtain⟨p,xs,i,z,rfl,rfl,hq,he,q⟩:=h;cases rx;obtain⟨t,rfl⟩:=ry;obtain⟨its,r,pl,hz⟩:=I.list hq;obtain⟨j,h1,h2,h3,h4,h5⟩:=v9 he;obtain⟨w,ew,rw'⟩:=r.get h2;have hl:=r.length;have hn:=mC;have fin:EP X pins σ Q w s:=⟨z,H,I,rw',q⟩
 by_cases h0:0≤i
 ·have hj:i.toNat=j:=by
   rw[seqIndex_of h0 h5]at h1;exact Option.some.inj h1
  exact item_listR pl.isList h0 (by lia) (by rw[hj];simpa using ew) fin hs
 ·have hj:(i+(its.toArray.size:Int)).toNat=j:=by
   rw[seqIndex_neg (by lia) h4]at h1;rw[List.size_toArray,←hl];exact Option.some.inj h1
  exact subscriptTail_builtinR (x:=w) pl.isList.typeIs slot_list_getitem.lookup
   (wpAny_getItem_list_neg (Q:=fun r s'=>r=w∧EP X pins σ Q r s') pl.isList (by lia) (by rw[List.size_toArray]<;>lia) (by lia) (by rw[hj];simpa using ew) ⟨rfl,fin⟩) hs
theorem aU:IxR X (RZ X.K):=by
 intro value slice pins s σ H x y v u Q I rx ry h hs;obtain⟨p,xs,i,z,rfl,rfl,hq,he,q⟩:=h;cases rx;obtain⟨t,rfl⟩:=ry;obtain⟨its,r,pl,hz⟩:=I.tuple hq;obtain⟨j,h1,h2,h3,h4,h5⟩:=v9 he;obtain⟨w,ew,rw'⟩:=r.get h2;have hl:=r.length;have hn:=mC;have fin:EP X pins σ Q w s:=⟨z,H,I,rw',q⟩
 exact subscriptTail_builtinR (x:=w) pl.typeIs slot_tuple_getitem.lookup
  (getItem_tuple (j:=j) (Q:=fun r s'=>r=w∧EP X pins σ Q r s') pl (by lia) (by lia) (by rw[List.size_toArray,←hl];exact h1) (by simpa using ew) ⟨rfl,fin⟩) hs
theorem S8:IxR X UU:=by
 intro value slice pins s σ H x y v u Q I rx ry h hs;obtain⟨z,i,c,rfl,rfl,hz,he,q⟩:=h;obtain⟨t,rfl⟩:=rx;obtain⟨t',rfl⟩:=ry;obtain⟨j,h1,h2,h3,h4,h5⟩:=v9 he;have hl:z.cps.toList.length=z.length:=by simp[Str.length]
 rw[hl]at h1 h4 h5;have hn:=mC;exact tail_any (typeIs_str s z t) slot_str_getitem.lookup (getItem_str (c:=c) (by
  have e1:decide (i < -(2 ^ 63:Int))=false:=decide_eq_false (by lia);have e2:decide (i≥2 ^ 63)=false:=decide_eq_false (by lia);rw[e1,e2,Bool.or_false]) (by rw[h1];simpa using h2) ⟨.str ⟨#[c]⟩,H,I.tok _,⟨_,rfl⟩,q⟩) hs
def rIx(K:PySem.W.Frag):R2:=fun x y H Q=>R0 K x y H Q∨RZ K x y H Q∨UU x y H Q
theorem oH:IxR X (rIx X.K):=aV.or (aU.or S8)
theorem F5(its:List Value)(n j:Nat)(u:Value):Obj.mapSeq (·.setIfInBounds j u) { cls:=.type "list",data:=.seq its.toArray n }={ cls:=.type "list",data:=.seq (its.set j u).toArray n }:=by
 simp[Obj.mapSeq]
theorem Inv.lst{pins:List (Addr×Obj)}{σ:St}{H:Hp}{s:Shared}{p:Addr}{xs:List V}(I:Inv X pins σ H s)(h:H p=some (.lst xs)) :
  ∃(its:List Value) (n:Nat),bY xs its∧s.heap.get? p=some { cls:=.type "list",data:=.seq its.toArray n }∧xs.length≤ZW:=by
 obtain⟨z,its,n,r,e⟩:=I.hok p _ h;exact⟨its,n,r,e,z⟩
theorem Inv.lstUpd{pins:List (Addr×Obj)}{σ:St}{H:Hp}{s:Shared}{p:Addr}{xs ys:List V}{its its':List Value}{n n':Nat}{f:Obj→Obj}(I:Inv X pins σ H s)(h:H p=some (.lst xs))
  (ho:s.heap.get? p=some { cls:=.type "list",data:=.seq its.toArray n }) (hf:f { cls:=.type "list",data:=.seq its.toArray n }={ cls:=.type "list",data:=.seq its'.toArray n' }) (r:bY ys its') (hz:ys.length≤ZW) (t:Nat) :
  Inv X pins σ (upd H p (.lst ys)) { s with heap:=s.heap.update p f,toks:=t }:=by
 have e:(s.heap.update p f).get? p=some { cls:=.type "list",data:=.seq its'.toArray n' }:=by
  rw[Heap.get?_update_self f ho (by rw[hf]<;>rfl),hf]
 refine I.write (x:=p) (e:=p) (by rw[h];trivial) (.inl rfl) (fun b u hb q=>(Heap.get?_update_other _ _ (Ne.symm hb)).trans q) ⟨_,e⟩ ?_;exact⟨hz,its',n',r,e⟩
def UT:V→V→V→Hp→(Hp→Prop)→Prop:=fun o i v H Q=>∃p xs k j,o=.ref p∧i=.int k∧H p=some (.lst xs)∧ixN xs.length k=some j∧Q (upd H p (.lst (xs.set j v)))
theorem set_list:TR X UT:=by
 intro pins s σ H o i v ov iv u Q I ro ri rv h;obtain⟨p,xs,k,j,rfl,rfl,hp,hj,q⟩:=h;cases ro;obtain⟨t,rfl⟩:=ri;obtain⟨its,n,r,ho,hz⟩:=I.lst hp;obtain⟨h1,h2,h3,h4⟩:=IG hj;have hl:=r.length;have hn:=mC;have I':Inv X pins σ (upd H p (.lst (xs.set j v))) { s with heap:=s.heap.update p (Obj.mapSeq (·.setIfInBounds j u)) } :=
  I.lstUpd hp ho (F5 its n j u) (r.set rv j) (by rw[List.length_set];exact hz) s.toks
 by_cases h0:0≤k
 ·have hk:k.toNat=j:=by
   rw[seqIndex_of h0 h4]at h1;exact Option.some.inj h1
  exact PySem.W.ki_setAt ho h0 (by lia) (by rw[List.size_toArray,←hl];exact h4) (by rw[hk];exact⟨_,I',q⟩)
 ·have hk:(k+(its.toArray.size:Int)).toNat=j:=by
   rw[seqIndex_neg (by lia) h3]at h1;rw[List.size_toArray,←hl];exact Option.some.inj h1
  exact PySem.W.ki_setBack ho (by lia) (by rw[List.size_toArray,←hl];exact h3) (by lia) (by rw[hk];exact⟨_,I',q⟩)
theorem A8(lo hi:Option Int)(n:Nat):(sliceBounds lo hi none n).1=((HT.sIx n 0 lo:Nat):Int)∧(sliceBounds lo hi none n).2.1=((HT.sIx n n hi:Nat):Int)∧(sliceBounds lo hi none n).2.2=1:=by
 refine⟨?_,?_,rfl⟩
 ·cases lo with
  |none=>simp[sliceBounds,HT.sIx]
  |some i =>
   simp only[sliceBounds,HT.sIx,Option.getD_none,show(1:Int)>0 by decide,if_true];by_cases h:i<0
   ·simp only[h,if_true]<;>lia
   ·simp only[h,if_false]<;>lia
 ·cases hi with
  |none=>simp[sliceBounds,HT.sIx]
  |some i =>
   simp only[sliceBounds,HT.sIx,Option.getD_none,show(1:Int)>0 by decide,if_true];by_cases h:i<0
   ·simp only[h,if_true]<;>lia
   ·simp only[h,if_false]<;>lia
theorem y6(its:List Value)(lo hi:Option Int):slicePick its.toArray lo hi none=((its.drop (HT.sIx its.length 0 lo)).take (HT.sIx its.length its.length hi-HT.sIx its.length 0 lo)).toArray:=by
 obtain⟨h1,h2,h3⟩:=A8 lo hi its.toArray.size;unfold slicePick;rw[h1,h2,h3];simp only[sliceRange_one,pick_run,List.size_toArray]<;>rfl
def V6(K:PySem.W.Frag):V→Option Int→Option Int→Hp→VK→Prop:=fun x lo hi H Q=>∃a xs,x=.ref a∧SqL K H a xs∧∀p,H p=none→Q (.ref p) (upd H p (.lst (vO xs lo hi)))
theorem vR:SlR X (V6 X.K):=by
 intro pins s σ H x v vl vu lo hi sl Q I rx hs pl pu h;obtain⟨a,xs,rfl,hx,q⟩:=h;cases rx;obtain⟨its,r,ht,hz⟩:=I.list hx;have hlen:=r.length;refine⟨"list",_,slot_list_getitem.lookup,ht.isList.typeIs,?_⟩;refine wpAny_getItem_list_slice ht.isList hs pl pu .none (by simp) ?_ (by rw[List.size_toArray]<;>lia);rw[y6,←hlen];refine⟨.ref s.heap.objs.size,_,I.laid (t':=s.toks) (o:=.lst (vO xs lo hi)) (fun b ob q=>Heap.get?_push_of_some _ q) (Nat.le_refl _) ?_,rfl,q _ (I.hok.fresh (Nat.le_refl _))⟩;exact⟨Yr (EH xs lo hi) hz,_,0,(r.drop (HT.sIx xs.length 0 lo)).take (HT.sIx xs.length xs.length hi-HT.sIx xs.length 0 lo),Heap.get?_push_size _ rfl⟩
def oK:V→Bool
 |.non=>true
 |.bl _=>true
 |.int _=>true
 |.str _=>true
 |_=>false
def eqV:V→V→Bool
 |.non,.non=>true
 |.bl a,.bl b=>a==b
 |.bl a,.int b=>(if a then 1 else 0)==b
 |.int a,.bl b=>a==(if b then 1 else 0)
 |.int a,.int b=>a==b
 |.str a,.str b=>a==b
 |_,_=>false
theorem TH{A:Around}{s:Shared}{y x:V}{u v:Value}(ry:RelV y u)(rx:RelV x v)(fy:oK y=true)(fx:oK x=true):SeqAt.EqAt A s u v (eqV y x):=by
 cases y with
 |non =>
  cases ry;cases x with
  |non=>cases rx;exact SeqAt.EqAt.same _
  |bl b=>cases rx;exact SeqAt.EqAt.none_bool b
  |int b=>obtain⟨t,rfl⟩:=rx;exact SeqAt.EqAt.none_int b t
  |str b=>obtain⟨t,rfl⟩:=rx;exact SeqAt.EqAt.none_str b t
  |_=>exact absurd (show false=true from fx) Bool.false_ne_true
 |bl a =>
  cases ry;cases x with
  |non=>cases rx;exact SeqAt.EqAt.bool_none a
  |bl b=>cases rx;exact SeqAt.EqAt.bool_bool a b
  |int b=>obtain⟨t,rfl⟩:=rx;exact SeqAt.EqAt.bool_int a b t
  |str b=>obtain⟨t,rfl⟩:=rx;exact SeqAt.EqAt.bool_str a b t
  |_=>exact absurd (show false=true from fx) Bool.false_ne_true
 |int a =>
  obtain⟨t',rfl⟩:=ry;cases x with
  |non=>cases rx;exact SeqAt.EqAt.int_none a t'
  |bl b=>cases rx;exact SeqAt.EqAt.int_bool a t' b
  |int b=>obtain⟨t,rfl⟩:=rx;exact SeqAt.EqAt.int_int a t' b t
  |str b=>obtain⟨t,rfl⟩:=rx;exact SeqAt.EqAt.int_str a t' b t
  |_=>exact absurd (show false=true from fx) Bool.false_ne_true
 |str a =>
  obtain⟨t',rfl⟩:=ry;cases x with
  |non=>cases rx;exact SeqAt.EqAt.str_none a t'
  |bl b=>cases rx;exact SeqAt.EqAt.str_bool a t' b
  |int b=>obtain⟨t,rfl⟩:=rx;exact SeqAt.EqAt.str_int a t' b t
  |str b=>obtain⟨t,rfl⟩:=rx;exact SeqAt.EqAt.str_str a t' b t
  |_=>exact absurd (show false=true from fx) Bool.false_ne_true
 |_=>exact absurd (show false=true from fy) Bool.false_ne_true
def eqU(x:V)(u:Value):Bool:=match u with
 |.none=>eqV .non x
 |.bool b=>eqV (.bl b) x
 |.int i _=>eqV (.int i) x
 |.str z _=>eqV (.str z) x
 |_=>false
theorem GP{x y:V}{u:Value}(r:RelV y u)(f:oK y=true):eqU x u=eqV y x:=by
 cases y with
 |non=>cases r;rfl
 |bl b=>cases r;rfl
 |int i=>obtain⟨t,rfl⟩:=r;rfl
 |str z=>obtain⟨t,rfl⟩:=r;rfl
 |_=>exact absurd (show false=true from f) Bool.false_ne_true
theorem sX{x:V}:∀{xs:List V}{us:List Value},bY xs us→xs.all oK=true→us.any (eqU x)=xs.any fun y=>eqV y x
 |_,_,.nil,_=>rfl
 |y::xs,u::us,.cons r t,f=>by
  rw[List.all_cons,Xw]at f;rw[List.any_cons,List.any_cons,GP r f.1,sX t f.2]
theorem lB{A:Around}{s:Shared}{x:V}{v:Value}(rx:RelV x v)(fx:oK x=true):∀{xs:List V}{us:List Value},bY xs us→xs.all oK=true→∀u∈us,SeqAt.EqAt A s u v (eqU x u)
 |_,_,.nil,_=>fun u hu=>by cases hu
 |y::xs,u::us,.cons r t,f=>fun u' hu=>by
  rw[List.all_cons,Xw]at f;rcases Zn.mp hu with rfl | hu
  ·rw[GP r f.1];exact TH r rx f.1 fx
  ·exact lB rx fx t f.2 u' hu
def inV(x:V)(xs:List V):Bool:=xs.any fun y=>eqV y x
def rIn(K:PySem.W.Frag)(neg:Bool):R2:=fun x y H Q=>∃p xs,y=.ref p∧(SqL K H p xs∨SqT K H p xs)∧oK x=true∧xs.all oK=true∧Q (.bl (if neg then !inV x xs else inV x xs)) H
theorem J9:OpR X (compareOp .In) (rIn X.K false):=by
 intro pins s σ H x y v u Q I rx ry h;obtain⟨p,xs,rfl,hq,fx,fs,q⟩:=h;cases ry;rcases hq with hq | hq
 ·obtain⟨its,r,pl,hz⟩:=I.list hq;refine SeqAt.in_listAt (eqU x) pl.isList (fun w hw=>lB rx fx r fs w (by simpa using hw)) ⟨.bl _,H,I,rfl,?_⟩;rw[show its.toArray.any (eqU x)=its.any (eqU x) by simp,sX r fs];exact q
 ·obtain⟨its,r,pl,hz⟩:=I.tuple hq;refine SeqAt.in_tupleAt (eqU x) pl (fun w hw=>lB rx fx r fs w (by simpa using hw)) ⟨.bl _,H,I,rfl,?_⟩;rw[show its.toArray.any (eqU x)=its.any (eqU x) by simp,sX r fs];exact q
theorem rY:OpR X (compareOp .NotIn) (rIn X.K true):=by
 intro pins s σ H x y v u Q I rx ry h;obtain⟨p,xs,rfl,hq,fx,fs,q⟩:=h;cases ry;rcases hq with hq | hq
 ·obtain⟨its,r,pl,hz⟩:=I.list hq;refine SeqAt.notIn_listAt (eqU x) pl.isList (fun w hw=>lB rx fx r fs w (by simpa using hw)) ⟨.bl _,H,I,rfl,?_⟩;rw[show its.toArray.any (eqU x)=its.any (eqU x) by simp,sX r fs];exact q
 ·obtain⟨its,r,pl,hz⟩:=I.tuple hq;refine SeqAt.notIn_tupleAt (eqU x) pl (fun w hw=>lB rx fx r fs w (by simpa using hw)) ⟨.bl _,H,I,rfl,?_⟩;rw[show its.toArray.any (eqU x)=its.any (eqU x) by simp,sX r fs];exact q
theorem aO:fC X (.builtin "len") (fun xs H Q=>∃p ys,xs=[.ref p]∧(SqL X.K H p ys∨SqT X.K H p ys)∧Q (.int ys.length) H):=by
 intro pins s σ H xs us Q I r h;obtain⟨p,ys,rfl,hq,q⟩:=h;obtain⟨u,rfl,rx⟩:=vals1 r;cases rx;have hn:=mC;rcases hq with hq | hq
 ·obtain⟨its,r',pl,hz⟩:=I.list hq;have hlen:=r'.length;exact Calls.call_len_list pl.isList (by simp only[List.size_toArray]<;>lia) ⟨.int ys.length,H,I.tok _,⟨s.toks+1,by rw[List.size_toArray,hlen]⟩,q⟩
 ·obtain⟨its,r',pl,hz⟩:=I.tuple hq;have hlen:=r'.length;exact len_tuple pl (by simp only[List.size_toArray]<;>lia) ⟨.int ys.length,H,I.tok _,⟨s.toks+1,by rw[List.size_toArray,hlen]⟩,q⟩
theorem fH:fC X (.type "list") (fun xs H Q=>∃p ys,xs=[.ref p]∧(SqL X.K H p ys∨SqT X.K H p ys)∧∀l,H l=none→Q (.ref l) (upd H l (.lst ys))):=by
 intro pins s σ H xs us Q I r h;obtain⟨p,ys,rfl,hq,q⟩:=h;obtain⟨u,rfl,rx⟩:=vals1 r;cases rx;have fin:∀(its:List Value),bY ys its→ys.length≤ZW→∀(h':Heap) (c':Nat),(∀b o',s.heap.get? b=some o'→h'.get? b=some o') →
   h'.get? s.heap.objs.size=some { cls:=.type "list",dict:=none,data:=.seq its.toArray c',slots:=#[] }→EP X pins σ Q (.ref s.heap.objs.size) { s with heap:=h' }:=fun its r' hz h' c' kp e =>
  ⟨.ref s.heap.objs.size,_,I.laid (t':=s.toks) kp (Nat.le_refl _) (show dC X.prog X.w _ h' _ (.lst ys) from⟨hz,its,c',r',e⟩),rfl,q _ (I.hok.fresh (Nat.le_refl _))⟩
 rcases hq with hq | hq
 ·obtain⟨its,r',pl,hz⟩:=I.list hq;have hlen:=r'.length;obtain⟨o,ho,hc,n,hd⟩:=pl.isList;exact call_list_seq p (.inl rfl) ho hc hd (fun h' c' kp e=>fin its r' hz h' c' kp e) (by simp only[List.size_toArray]<;>lia)
 ·obtain⟨its,r',pl,hz⟩:=I.tuple hq;have hlen:=r'.length;obtain⟨o,ho,hc,n,hd⟩:=pl;exact call_list_seq p (.inr rfl) ho hc hd (fun h' c' kp e=>fin its r' hz h' c' kp e) (by simp only[List.size_toArray]<;>lia)
def tyV(K:PySem.W.Frag)(T:String)(x:V)(H:Hp):Prop:=match x with
 |.str _=>T="str"
 |.int _=>T="int"
 |.ref p=>(T="list"∧∃xs,SqL K H p xs)∨(T="tuple"∧∃o,K.lookup p=some o∧o.cls=.type "tuple"∧o.dict=none) ∨
   (T="dict"∧((∃kvs,H p=some (.dK kvs))∨∃kvs,H p=some (.dT kvs)))∨(T="set"∧∃S n,H p=some (.set S n))
 |_=>False
theorem E8{pins:List (Addr×Obj)}{σ:St}{H:Hp}{s:Shared}{T:String}{x:V}{v:Value}(I:Inv X pins σ H s)(r:RelV x v)(ty:tyV X.K T x H) :
  s.TypeIs v T∧∀a,v=.ref a→∃ob,s.heap.get? a=some ob∧ob.dict=none:=by
 cases x with
 |str z =>
  obtain⟨t,rfl⟩:=r;cases (show T="str" from ty);exact⟨typeIs_str s z t,fun _ e=>nomatch e⟩
 |int i =>
  obtain⟨t,rfl⟩:=r;cases (show T="int" from ty);exact⟨typeIs_int s i t,fun _ e=>nomatch e⟩
 |ref p =>
  cases r;rcases ty with⟨rfl,xs,hq⟩ | ⟨rfl,o,hk,hc,hd⟩ | ⟨rfl,hk⟩ | ⟨rfl,S,n,hk⟩
  ·obtain⟨its,_,pl,_⟩:=I.list hq;refine⟨pl.isList.typeIs,fun a e=>?_⟩;cases e;obtain⟨o,n,e,c,hd,_⟩:=pl;exact⟨o,e,hd⟩
  ·refine⟨⟨o,I.kIn p o hk,hc⟩,fun a e=>?_⟩;cases e;exact⟨o,I.kIn _ o hk,hd⟩
  ·have z:∃o,s.heap.get? p=some o∧o.ExactDict:=by
    rcases hk with⟨kvs,hk⟩ | ⟨kvs,hk⟩
    ·obtain⟨_,_,_,_,o,_,_,e,ex,_⟩:=I.hok p _ hk;exact⟨o,e,ex⟩
    ·obtain⟨_,_,_,_,o,_,_,e,ex,_⟩:=I.hok p _ hk;exact⟨o,e,ex⟩
   obtain⟨o,e,ex⟩:=z;refine⟨⟨o,e,ex.1⟩,fun a e2=>?_⟩;cases e2;exact⟨o,e,ex.2.1⟩
  ·obtain⟨o,_,_,_,e,ex,_⟩:=I.hok p _ hk;refine⟨⟨o,e,ex.1⟩,fun a e2=>?_⟩;cases e2;exact⟨o,e,ex.2.1⟩
 |_=>exact False.elim ty
def VZ(K:PySem.W.Frag)(T:String)(r:V→List V→Hp→VK→Prop)(to:TE):TE:=fun σ H Q=>to σ H fun x H1=>tyV K T x H1∧r x [] H1 Q
def tBM(K:PySem.W.Frag)(T:String)(r:V→List V→Hp→VK→Prop)(to:TE)(t:TA):TE:=fun σ H Q=>to σ H fun x H1=>tyV K T x H1∧t σ H1 fun xs H2=>r x xs H2 Q
variable{o e:Expr}{es:List Expr}{to:TE}{t:TA}{name:Str}{apos cpos:Pos}{T id:String}{r:V→List V→Hp→VK→Prop}
theorem FT(pa:PlainAttrs T)(slot:Slot T name id)(hty:typeOf (.builtin id)=pure (.type "method_descriptor"))(hm:MtR X id r)(ho:PE X o to)
  (hbase:attributeBase o name X.env (eval o X.env)=eval o X.env:=by rfl) (hline:(apos.endLine==cpos.line)=true:=by rfl):PE X (.Call (.Attribute o name apos) [] [] cpos) (VZ X.K T r to):=by
 intro pins s σ H Q I h;refine wpAny_Call_method0_late hbase hline (thn (ho pins s σ H _ I h) fun v s1 ⟨x,H1,I1,r1,ty,q1⟩=>?_);obtain⟨h1,h2⟩:=E8 I1 r1 ty;exact⟨T,id,pa,slot,hty,h1,h2,Calls.callWith_builtin rfl (PySem.evalArgs_none (hm pins s1 σ H1 x [] v [] Q I1 r1 .nil q1))⟩
theorem nS(pa:PlainAttrs T)(slot:Slot T name id)(hty:typeOf (.builtin id)=pure (.type "method_descriptor"))(hm:MtR X id r)(ho:PE X o to)(ha:PA X (e::es) t)
  (hbase:attributeBase o name X.env (eval o X.env)=eval o X.env:=by rfl)
  (hfew:((backTo cpos (starEach (e::es) X.env)).all (fun x=>!x.1)&&(backToKw cpos (keywordEach [] X.env)).all (fun x=>x.1.isSome)
   && decide ((e::es).length+([]:List Keyword).length+(if ([]:List Keyword).isEmpty then 0 else 1)<30))=true:=by rfl)
  (hline:(apos.endLine==cpos.line)=true:=by rfl) (hs:starEach (e::es) X.env=(false,eval e X.env)::starEach es X.env:=by rfl) (hplain:(backTo cpos (starEach es X.env)).any (·.1)=false:=by rfl) :
  PE X (.Call (.Attribute o name apos) (e::es) [] cpos) (tBM X.K T r to t):=by
 intro pins s σ H Q I h;refine wpAny_Call_method_late hbase hfew hline rfl (thn (ho pins s σ H _ I h) fun v s1 ⟨x,H1,I1,r1,ty,q1⟩=>?_);obtain⟨h1,h2⟩:=E8 I1 r1 ty;refine⟨T,id,pa,slot,hty,h1,h2,?_⟩;have hA:=ha cpos pins s1 σ H1 _ I1 q1;rw[hs]at hA ⊢;refine Calls.callWith_builtin (by show(false||(backTo cpos (starEach es X.env)).any (·.1))=false;rw[hplain]<;>rfl) (Calls.evalArgs_plain ?_);exact thn hA fun us s2 ⟨vs,H2,I2,r2,q2⟩=>hm pins s2 σ H2 x vs v us Q I2 r1 r2 q2
end
end L2
namespace L2
open PySem PySem.Spec PyProof.Rows
def MtM(X:Cx)(id:String)(r:V→List V→Hp→VK→Prop):Prop :=
 ∀(pins:List (Addr×Obj)) (s:Shared) (σ:St) (H:Hp) (x:V) (xs:List V) (v:Value) (us:List Value) (Q:VK),Inv X pins σ H s→RelV x v→bY xs us→r x xs H Q →
  wpAny (model X.prog X.w) X.A (call (.builtin id) (v::us)) (EP X pins σ Q) X.xe s
theorem bY.one:∀{x:V}{us:List Value},bY [x] us→∃u,us=[u]∧RelV x u:=by
 intro x us h;cases h with
 |cons r h=>cases h;exact⟨_,rfl,r⟩
theorem bY.two:∀{x y:V}{us:List Value},bY [x,y] us→∃u v,us=[u,v]∧RelV x u∧RelV y v:=by
 intro x y us h;cases h with
 |cons r h=>cases h with
  |cons q h=>cases h;exact⟨_,_,rfl,r,q⟩
theorem bY.zero:∀{us:List Value},bY [] us→us=[]
 |_,.nil=>rfl
theorem bY.dropLast{xs:List V}{us:List Value}(h:bY xs us):bY xs.dropLast us.dropLast:=by
 induction h with
 |nil=>exact .nil
 |cons r t ih =>
  cases t with
  |nil=>exact .nil
  |cons q t'=>exact .cons r ih
theorem bY.rep{xs:List V}{us:List Value}(h:bY xs us):∀k:Nat,bY (List.replicate k xs).flatten (List.replicate k us).flatten
 |0=>.nil
 |k+1=>by
  rw[List.replicate_succ,List.replicate_succ,List.flatten_cons,List.flatten_cons];exact bY.append h (bY.rep h k)
theorem GO{α:Type}(l:List α):l.eraseIdx (l.length-1)=l.dropLast:=by
 induction l with
 |nil=>rfl
 |cons a r ih =>
  cases r with
  |nil=>rfl
  |cons b r =>
   have e:(a::b::r).length-1=((b::r).length-1)+1:=by
    have h1:(a::b::r).length=r.length+2:=rfl;have h2:(b::r).length=r.length+1:=rfl
    lia
   rw[e,List.eraseIdx_cons_succ,ih]
   all_goals rfl
theorem foldl_rep(its:List Value):∀(k:Nat) (acc:List Value),
  List.foldl (fun x1 x2=>x1++x2) acc.toArray (List.replicate k its.toArray)=(acc++(List.replicate k its).flatten).toArray
 |0,acc=>by simp
 |k+1,acc=>by
  have e:acc.toArray++its.toArray=(acc++its).toArray:=by simp
  have e2:(acc++its)++(List.replicate k its).flatten=acc++(List.replicate (k+1) its).flatten:=by
   rw[List.replicate_succ,List.flatten_cons,Yb]
  rw[←e2,←foldl_rep its k (acc++its),←e,List.replicate_succ,List.foldl_cons]
section
variable{X:Cx}{pins:List (Addr×Obj)}{σ:St}{H:Hp}{s:Shared}{l b:Addr}{xs ys zs:List V}
theorem Inv.lset{its its':List Value}{n:Nat}{f:Array Value→Array Value}{t':Nat}(I:Inv X pins σ H s)(hH:H l=some (.lst xs))
  (e:s.heap.get? l=some { cls:=.type "list",data:=.seq its.toArray n }) (hf:f its.toArray=its'.toArray) (hv:bY ys its') (hz:ys.length≤ZW) :
  Inv X pins σ (upd H l (.lst ys)) { s with heap:=s.heap.update l (Obj.mapSeq f),toks:=t' }:=by
 have q:=PySem.IsL.update e f;rw[hf]at q;refine I.write (x:=l) (e:=l) (by rw[hH];exact trivial) (.inl rfl) (fun b' u hb hu=>(Heap.get?_update_other s.heap (Obj.mapSeq f) (Ne.symm hb)).trans hu) ⟨_,q⟩ ?_;exact⟨hz,its',_,hv,q⟩
theorem Inv.lnew{its:List Value}{t':Nat}(I:Inv X pins σ H s)(hv:bY ys its)(hz:ys.length≤ZW) :
  Inv X pins σ (upd H s.heap.objs.size (.lst ys)) { s with heap:=s.heap.push { cls:=.type "list",data:=.seq its.toArray },toks:=t' } :=
 I.laid (fun _ _ q=>Heap.get?_push_of_some _ q) (Nat.le_refl _) ⟨hz,its,0,hv,Heap.get?_push_size _ rfl⟩
theorem Inv.fresh(I:Inv X pins σ H s):H s.heap.objs.size=none:=I.hok.fresh (Nat.le_refl _)
theorem Inv.lstM(I:Inv X pins σ H s)(hH:H l=some (.lst xs)):xs.length≤ZW∧∃(its:List Value) (n:Nat),bY xs its∧xs.length=its.length∧s.heap.get? l=some { cls:=.type "list",data:=.seq its.toArray n }:=by
 obtain⟨z,its,n,r,e⟩:=I.hok l _ hH;exact⟨z,its,n,r,r.length,e⟩
theorem DG{n:Nat}(h:n≤ZW):Builtin.List.listTooLong n=false:=by
 unfold Builtin.List.listTooLong;exact decide_eq_false (by lia)
end
section
variable{X:Cx}
def PP:V→List V→Hp→VK→Prop:=fun x vs H Q=>∃l xs y,x=.ref l∧vs=[y]∧H l=some (.lst xs)∧xs.length<ZW∧Q .non (upd H l (.lst (xs++[y])))
theorem cD:MtM X "list.append" PP:=by
 intro pins s σ H x vs v us Q I rx rv h;obtain⟨l,xs,y,rfl,rfl,hH,hz,q⟩:=h;cases rx;obtain⟨u,rfl,ru⟩:=rv.one;obtain⟨z,its,n,r,hl,e⟩:=I.lstM hH;refine call_meets F.slot_list_append ⟨_,e,rfl⟩ F.entry_list_append (F.args_list_append_2 _ _) (PySem.list_append l its.toArray n u (by rw[List.size_toArray];lia)) ⟨e,?_⟩;refine⟨.non,_,I.lset (its':=its++[u]) hH e (by simp) (r.append (.cons ru .nil)) ?_,rfl,q⟩;rw[Zm,ZQ]
 lia
def PN:V→List V→Hp→VK→Prop:=fun x vs H Q=>∃l b xs zs,x=.ref l∧vs=[.ref b]∧H l=some (.lst xs)∧H b=some (.lst zs)∧xs.length+zs.length≤ZW∧Q .non (upd H l (.lst (xs++zs)))
theorem TZ:MtM X "list.extend" PN:=by
 intro pins s σ H x vs v us Q I rx rv h;obtain⟨l,b,xs,zs,rfl,rfl,hH,hB,hz,q⟩:=h;cases rx;obtain⟨u,rfl,ru⟩:=rv.one;cases ru;obtain⟨z,its,n,r,hl,e⟩:=I.lstM hH;obtain⟨z2,its2,n2,r2,hl2,e2⟩:=I.lstM hB;have hsz:its.toArray.size+its2.toArray.size≤ZW:=by rw[List.size_toArray,List.size_toArray];lia
 have hlong:¬(!its.toArray.isEmpty&&Builtin.List.listTooLong (its.toArray.size+its2.toArray.size))=true:=by
  rw[DG hsz,Bool.and_false];exact Bool.false_ne_true
 refine call_meets F.slot_list_extend ⟨_,e,rfl⟩ F.entry_list_extend (F.args_list_extend_2 _ _)
  (AutoSeq1.list_extend_list_list_0 l its.toArray n b its2.toArray n2 hlong (by rw[List.size_toArray];lia) (by lia)) ⟨e,e2,?_⟩
 refine⟨.non,_,I.lset (its':=its++its2) hH e (by simp) (r.append r2) ?_,rfl,q⟩;rw[Zm]
 lia
def V8:V→List V→Hp→VK→Prop:=fun x vs H Q=>∃l xs y,x=.ref l∧vs=[]∧H l=some (.lst xs)∧xs[xs.length-1]?=some y∧Q y (upd H l (.lst xs.dropLast))
theorem F3:MtM X "list.pop" V8:=by
 intro pins s σ H x vs v us Q I rx rv h;obtain⟨l,xs,y,rfl,rfl,hH,hy,q⟩:=h;cases rx;have hus:=rv.zero;subst hus;obtain⟨z,its,n,r,hl,e⟩:=I.lstM hH;obtain⟨u,hu,ru⟩:=r.get hy;have hy':its.toArray[its.toArray.size-1]?=some u:=by
  show its.toArray[its.length-1]?=some u;rw[←Array.getElem?_toList,←hl];exact hu
 refine call_meets F.slot_list_pop ⟨_,e,rfl⟩ F.entry_list_pop (F.args_list_pop_1 _) (MeetsSeq.list_pop_last l its.toArray n u hy' (by rw[List.size_toArray];lia)) ⟨e,?_⟩;refine⟨y,_,I.lset (its':=its.dropLast) hH e ?_ r.dropLast ?_,ru,q⟩
 ·show its.toArray.eraseIdxIfInBounds (its.toArray.size-1)=its.dropLast.toArray;rw[List.size_toArray,List.eraseIdxIfInBounds_toArray,GO]
 ·rw[List.length_dropLast]
  lia
def V9:R2:=fun x y H Q=>∃l b xs zs,x=.ref l∧y=.ref b∧H l=some (.lst xs)∧H b=some (.lst zs)∧xs.length+zs.length≤ZW∧∀p,H p=none→Q (.ref p) (upd H p (.lst (xs++zs)))
theorem tW:OpR X (binaryOp .Add) V9:=by
 intro pins s σ H x y v u Q I rx ry h;obtain⟨l,b,xs,zs,rfl,rfl,hH,hB,hz,q⟩:=h;cases rx;cases ry;obtain⟨z,its,n,r,hl,e⟩:=I.lstM hH;obtain⟨z2,its2,n2,r2,hl2,e2⟩:=I.lstM hB;refine PySem.P.add_list e e2 ?_ (by rw[List.size_toArray,List.size_toArray];lia);have ea:its.toArray++its2.toArray=(its++its2).toArray:=by simp
 rw[ea];exact⟨.ref _,_,I.lnew (t':=s.toks) (r.append r2) (by rw[Zm];lia),rfl,q _ I.fresh⟩
def V7:R2:=fun x y H Q=>∃l k xs,x=.ref l∧y=.int k∧H l=some (.lst xs)∧-(2 ^ 63)≤k∧k<2 ^ 63∧xs.length*k.toNat≤ZW ∧
 ∀p,H p=none→Q (.ref p) (upd H p (.lst (List.replicate k.toNat xs).flatten))
theorem len_rep{α:Type}(xs:List α)(k:Nat):(List.replicate k xs).flatten.length=k*xs.length:=by
 induction k with
 |zero=>simp
 |succ k ih=>rw[List.replicate_succ,List.flatten_cons,Zm,ih,Nat.succ_mul,Nat.add_comm]
theorem FU:OpR X (binaryOp .Mult) V7:=by
 intro pins s σ H x y v u Q I rx ry h;obtain⟨l,k,xs,rfl,rfl,hH,h1,h2,hz,q⟩:=h;cases rx;obtain⟨t,rfl⟩:=ry;obtain⟨z,its,n,r,hl,e⟩:=I.lstM hH;have hlen:its.toArray.size*k.toNat≤ZW:=by rw[List.size_toArray,←hl];exact hz
 have hcap:¬its.toArray.size*k.toNat>(2 ^ 63-1) / 8:=by
  have:(ZW:Nat)≤(2 ^ 63-1) / 8:=by decide
  lia
 have hfit:¬(!Builtin.List.listFitsIndex k)=true:=by
  rw[fitsIndex_both h1 h2];exact Bool.false_ne_true
 have hlong:¬Builtin.List.listTooLong (its.toArray.size*k.toNat)=true:=by
  rw[DG hlen];exact Bool.false_ne_true
 have hnew:List.foldl (fun x1 x2=>x1++x2) #[] (List.replicate (if its.toArray.isEmpty=true then 0 else k.toNat) its.toArray)=(List.replicate k.toNat its).flatten.toArray:=by
  have f0:∀m:Nat,List.foldl (fun x1 x2=>x1++x2) #[] (List.replicate m its.toArray)=(List.replicate m its).flatten.toArray:=fun m=>by
   have:=foldl_rep its m [];rw[List.nil_append]at this;exact this
  rw[f0];cases its with
  |nil=>simp
  |cons a r'=>rw[if_neg (by simp)]
 refine wpAny_binaryOp_repeat_ref (T:="list") (U:="int") (by decide) ⟨_,e,rfl⟩ (fun s'=>typeIs_int s' k t) noFill_list_mul F.fills_int_mul F.slot_int_rmul repeat_list F.slot_int_index.lookup
  (call_meets F.slot_int_rmul (typeIs_int s k t) F.entry_int_rmul (F.args_int_rmul_2 _ _) (int___rmul___int_list k t l its.toArray n)
   ⟨e,rfl,⟨_,e,rfl⟩,call_meets F.slot_list_mul ⟨_,e,rfl⟩ F.entry_list_mul (F.args_list_mul_2 _ _) (AutoListH.list___mul___list_int_3 l its.toArray n k t hfit hcap hlong) ⟨e,?_⟩⟩)
 rw[hnew];exact⟨.ref _,_,I.lnew (t':=s.toks) (r.rep k.toNat) (by rw[len_rep,Nat.mul_comm];exact hz),rfl,q _ I.fresh⟩
end
section
variable{prog:Program}{w:World}{A:Around}{E:Value→Shared→Prop}{s:Shared}
end
section
variable{X:Cx}
end
end L2
namespace Att
open PySem PySem.W PySem.Calls PyProof.Rows
theorem vM{P:Params}{h:Heap}:∀(ns:List Int) (vs:List Value),WellAll P h vs (ns.map WData.int)→IntsAre vs ns:=by
 intro ns;induction ns with
 |nil =>
  intro vs w;rw[List.map_nil]at w;cases w;exact .nil
 |cons n ns ih =>
  intro vs w;rw[List.map_cons]at w;cases w with
  |cons a b =>
   cases a;exact .cons _ _ (ih _ b)
theorem J0{l:OpenLaw}{n:Nat}(hn:l.most=some n){P:Params}{h:Heap}{args:List WData}{vals:List Value}
  (hpre:l.row.toRowW.claim.pre args=true) (hwl:WellAll P h vals args) :
  ∃a vs ns,vals=[Value.ref a]∧args=[WData.list (ns.map WData.int)]∧h.get? a=some { cls:=.type "list",data:=.seq vs.toArray }∧IntsAre vs ns∧ns.length≤n:=by
 have hsh:WShape.hasAll [] args [.list .int]=true:=(pre_splitW hpre).1;have hc:l.pre.holds [] { args:=args }=true:=(pre_splitW hpre).2;obtain⟨d,r,rfl,h1,h2⟩:=hasAllW_cons hsh;obtain rfl:=hasAllW_nil h2;obtain⟨xs,rfl,h3⟩:=hasW_list h1;obtain⟨ns,rfl⟩:=items_int h3;have hlen:ns.length≤n:=by
  unfold OpenLaw.pre at hc;have h4:(WTm.not (.lt (.lit (.int (n:Int))) (.len (.arg 0)))).holds [] { args:=[.list (ns.map .int)] }=true:=by
   have h4:=(holds_andW hc).1;rw[hn]at h4;exact h4
  have h5:=condW_of h4 (w_not (w_lt w_lit (w_len_list (w_arg rfl))));rw[Zq]at h5;refine Nat.le_of_not_lt fun q=>?_;have q':(n:Int)<((ns.length:Nat):Int):=by omega
  first
   |(rw[decide_eq_true q']at h5;exact absurd h5 (by decide))
   |(simp at h5;omega)
 cases hwl with
 |cons w1 w2 =>
  cases w2;cases w1 with
  |list ho hall=>exact⟨_,_,ns,rfl,rfl,ho,vM ns _ hall,hlen⟩
theorem J3(l:OpenLaw)(args:List WData):l.row.toRowW.claim.post args (.bool true) args=true :=
 postW_of (r:=l.row.toRowW) (X:=(true==true))
  (show WShape.has [] (.bool true) .bool=true by first | rfl | decide | simp[WShape.has,WShape.arms,WShape.armsAll])
  (show(WTm.eq .res (.lit (.bool true))).value [] { args:=args,res:=some (.bool true),after:=args }=some (.bool (true==true)) from w_eq_bool (w_res rfl) w_lit) rfl
theorem EM{l:OpenLaw}{n:Nat}{q:Program}{loose:List Str}{XP:(Str→Option Value)→Heap→Prop}{YP:World→Heap→Prop}{d:DefRec}
  (hn:l.most=some n) (hdf:d.params.defaults=[])
  (call:∀(w:World) (s₀ s₁:Shared) (mg mb:Str→Option Value) (fa:Addr) (o:Obj) (pm cd doc:Value) (a:Addr) (vs:List Value) (ns:List Int),
   Ground q loose [] XP w s₀ mg mb s₁.heap→YP w s₁.heap →
   s₁.heap.get? fa=some o→o.data=.func (docDef d.name d.params d.body d.scope pm cd doc)→s₁.heap.CodeRec cd d.name→mg d.name=some (.ref fa) →
   s₁.heap.get? a=some { cls:=.type "list",data:=.seq vs.toArray }→IntsAre vs ns→ns.length≤n→s₁.gens=#[] →
   codeAny (model l.prog w) callerA (.call (.ref fa) ⟨[.ref a],[]⟩) (fun r s'=>r=.ok (.ret (.bool true))∧OldK s₁.heap s'.heap∧s'.os=s₁.os∧AllBare s'.gens) s₁) :
  WalkO q loose XP YP l.row.toRowW d [] (fun f vs=>PySem.call f vs):=by
 intro w s₀ s₁ mg mb G Y fa o pm cd doc dV kV ho hd hcd hD hmg hg args vals as hpre hlay hrd hwl hlo;obtain rfl:dV=.none:=Dflts.none hD hdf;obtain rfl:kV=.none:=Dflts.noKw hD;obtain⟨a,vs,ns,rfl,rfl,hobj,hints,hlen⟩:=J0 hn hpre hwl;refine enter_call (codeAny_mono (call w s₀ s₁ mg mb fa o pm cd doc a vs ns G Y ho (fd_plain hd) hcd hmg hobj hints hlen hg) fun r s' hq=>?_);obtain⟨rfl,h2,h3,h4⟩:=hq;exact⟨.inl ⟨.bool true,.bool true,[],rfl,fun _=>rfl,.bool true,J3 l _,fun _=>⟨List.Pairwise.nil,fun _ hm=>(nomatch hm)⟩⟩,h2,h3,h4⟩
section
variable{prog:Program}{w:World}{A:Around}{E:Value→Shared→Prop}{s:Shared}{K:Frag}
end
end Att
namespace L2
open PySem PySem.Spec PyProof.Rows
theorem pD:∀{vs:List Value}{ns:List Int},IntsAre vs ns→bY (ns.map V.int) vs
 |_,_,.nil=>.nil
 |_,_,.cons n t h=>.cons ⟨t,rfl⟩ (pD h)
def TU(H:Hp):Prop:=∀b,H b=none∨∃o xs,H b=some (.frz o (.lst xs))
theorem NV{P:Program}{w:World}{K:PySem.W.Frag}{mg mb:Str→Option Value}{CX:CXT}{k:Nat}{fa a:Addr}{fd:FuncData}{x:Str}{sp:Sp}{s₁:Shared}{vs:List Value}{ns:List Int}
  (KX:K.In s₁.heap) (hns:s₁.heap.Ns ZV mg) (hb:s₁.heap.Ns builtinsNs mb) (hbb:∀x:Str,x≠"__name__"→mb x=bootBuiltins x) (hlim:s₁.heap.NoLimit) (hg:s₁.gens=#[])
  (ha:s₁.heap.get? a=some { cls:=.type "list",data:=.seq vs.toArray }) (hi:IntsAre vs ns) (hl:ns.length≤ZW) (hr:iB k callerA)
  (F:∀base:Heap,K.In base→base.Ns ZV mg→bQ P w K mg base CX k fa fd [x] sp) (hbind:∀(s:Shared) (u:Value),BindsTo s fd ⟨[u],[]⟩ [(x,u)])
  (hsp:∀H:Hp,TU H→SqL K H a (ns.map V.int)→sp [.ref a] H (fun v _=>v=.bl true) fun _ _ _=>False)
  (hCX:∀H e s',CX [] H s₁ (fun _ _ _=>False) e s'→False) :
  codeAny (model P w) callerA (.call (.ref fa) ⟨[.ref a],[]⟩) (fun r s'=>r=.ok (.ret (.bool true))∧OldK s₁.heap s'.heap∧s'.os=s₁.os∧AllBare s'.gens) s₁:=by
 have rv:=pD hi;have lenV:=hi.length;have core:∀H:Hp,TU H→SqL K H a (ns.map V.int)→HOk P w H s₁.heap→(∀b,H b≠none→b=a)→(H a≠none→K.lookup a=none) →
   codeAny (model P w) callerA (.call (.ref fa) ⟨[.ref a],[]⟩) (fun r s'=>r=.ok (.ret (.bool true))∧OldK s₁.heap s'.heap∧s'.os=s₁.os∧AllBare s'.gens) s₁:=by
  intro H hO hS hok hA hK;have base_of:∀{b:Addr}{o:Obj},s₁.heap.get? b=some o→H b=none→(BV s₁.heap H).get? b=some o:=fun e n=>N0 e n;have noA:∀{b:Addr}{o:Obj}{es:Array DictEntry}{ep:Nat},s₁.heap.get? b=some o→o.data=.dict es ep→H b=none:=fun {b o es ep} e d=>by
   cases q:H b with
   |none=>rfl
   |some u =>
    have e':b=a:=hA b (by rw[q];simp);subst e';rw[ha]at e;cases e;have d':Data.seq vs.toArray _=Data.dict es ep:=d;cases d'
  have nsK:∀{b:Addr}{m:Str→Option Value},s₁.heap.Ns b m→(BV s₁.heap H).Ns b m:=fun {b m} ⟨o,es,ep,e,d,r⟩=>⟨o,es,ep,base_of e (noA e d),d,r⟩
  have hKb:K.In (BV s₁.heap H):=fun b o e=>base_of (KX b o e) (by
   cases q:H b with
   |none=>rfl
   |some u =>
    have e':b=a:=hA b (by rw[q];simp);subst e';rw[hK (by rw[q];simp)]at e;cases e)
  have hM:Mod K mg (BV s₁.heap H):=⟨hKb,nsK hns,⟨mb,nsK hb,hbb⟩,let⟨mc,h1,h2⟩:=hlim;⟨mc,nsK h1,h2⟩⟩
  have e0:GX P w K mg (BV s₁.heap H) callerA [] s₁ H:=⟨rfl,hM,fun b o e=>QB e,Nat.le_of_eq (KS _ _),trivial,fun b hb=>absurd (show b∈([]:List Addr) from hb) (by simp),hok,.of_eq hg⟩
  refine codeAny_mono ((F _ hKb (nsK hns)).run callerA [] s₁ H ⟨[.ref a],[]⟩ [.ref a] [.ref a] _ _ hr e0 (hbind s₁ (.ref a)) (.cons rfl .nil) (hsp H hO hS)) fun r s' h=>?_;cases r with
  |error e=>exact(hCX H e s' h).elim
  |ok fl =>
   cases fl with
   |next=>exact False.elim h
   |brk=>exact False.elim h
   |cont=>exact False.elim h
   |ret u =>
    obtain⟨v,H',os,bare,un,hok',r',q⟩:=h;have q':v=.bl true:=q;subst q';obtain rfl:u=Value.bool true:=r';refine⟨rfl,OldK.of_keep fun b o e=>?_,os,bare⟩;cases q:H b with
    |none=>exact un.keep b o e q (by intro z;exact absurd (show b∈([]:List Addr) from z) (by simp)) (by simp)
    |some u =>
     rcases hO b with z | ⟨ob,xs,z⟩
     ·rw[q]at z;cases z
     ·have z2:=un.frzs b ob _ z;obtain⟨e1,_⟩:=hok b _ z;obtain⟨e2,_⟩:=hok' b _ z2;rw[e]at e1;cases e1;exact e2
 cases hk:K.lookup a with
 |some o =>
  have e:=KX a o hk;rw[ha]at e;cases e;refine core (fun _=>none) (fun _=>.inl rfl) (.inr ⟨_,vs.toArray,_,hk,rfl,rfl,rfl,by rw[List.size_toArray,lenV];exact hl,by simpa using rv⟩) (fun b u z=>by have z':(none:Option HO)=some u:=z;cases z') (fun b z=>absurd rfl z) fun z=>absurd rfl z
 |none =>
  refine core (fun b=>if b=a then some (.frz { cls:=.type "list",data:=.seq vs.toArray } (.lst (ns.map V.int))) else none) (fun b=>?_) (.inl (.inr ⟨{ cls:=.type "list",data:=.seq vs.toArray },if_pos rfl⟩)) (fun b u z=>?_) (fun b z=>?_) fun _=>hk
  ·by_cases hb:b=a
   ·exact .inr ⟨_,_,if_pos hb⟩
   ·exact .inl (if_neg hb)
  ·by_cases hb:b=a
   ·have z':=(if_pos hb).symm.trans z;cases z';subst hb;exact⟨ha,by rw[Zq];exact hl,vs,_,rv,ha⟩
   ·have z':=(if_neg hb).symm.trans z;cases z'
  ·by_cases hb:b=a
   ·exact hb
   ·exact absurd (if_neg hb) z
theorem OS{l:PySem.W.OpenLaw}{n k:Nat}{q:Program}{loose:List Str}{XP:(Str→Option Value)→Heap→Prop}{YP:World→Heap→Prop}{d:DefRec}{K:Params→PySem.W.Frag}{CX:World→CXT}{sp:World→Sp}{x:Str}
  (hn:l.most=some n) (hn2:n≤ZW) (hdf:d.params.defaults=[]) (hr:iB k callerA)
  (hY:∀(w:World) (h:Heap),YP w h→(K w.params).In h)
  (F:∀(w:World) (mg:Str→Option Value) (fa:Addr) (h:Heap),(K w.params).In h→h.Ns ZV mg→mg d.name=some (.ref fa) →
   ∃fd:FuncData,(∀(s:Shared) (u:Value),BindsTo s fd ⟨[u],[]⟩ [(x,u)]) ∧
    ∀base:Heap,(K w.params).In base→base.Ns ZV mg→bQ l.prog w (K w.params) mg base (CX w) k fa fd [x] (sp w))
  (hsp:∀(w:World) (H:Hp) (a:Addr) (ns:List Int),ns.length≤n→TU H→SqL (K w.params) H a (ns.map V.int)→sp w [.ref a] H (fun v _=>v=.bl true) fun _ _ _=>False)
  (hCX:∀(w:World) (H:Hp) (s:Shared) (e:Value) (s':Shared),CX w [] H s (fun _ _ _=>False) e s'→False) :
  PySem.W.WalkO q loose XP YP l.row.toRowW d [] (fun f vs=>PySem.call f vs):=by
 refine Att.EM hn hdf fun w s₀ s₁ mg mb fa o pm cd doc a vs ns G Y ho hd hcd hmg hobj hints hlen hg=>?_;have KX:=hY w _ Y;obtain⟨fd,hb,hF⟩:=F w mg fa _ KX G.T.g hmg;exact NV KX G.T.g G.T.b G.T.builtins G.T.nolimit hg hobj hints (Yr hlen hn2) hr hF hb (fun H hO hS=>hsp w H a ns hlen hO hS) fun H e s'=>hCX w H s₁ e s'
def inClass(s:Stmt)(j:Nat):Stmt:=match s with
 |.ClassDef _ _ _ body _ _ _ _ _ _ _=>body.getD j (.Pass ⟨0,0,0,0⟩)
 |_=>.Pass ⟨0,0,0,0⟩
def kH(s:Stmt):Arguments:=match s with
 |.FunctionDef _ a _ _ _ _ _ _ _ _=>a
 |_=>{ posonlyargs:=[],args:=[],vararg:=none,kwonlyargs:=[],kw_defaults:=[],kwarg:=none,defaults:=[] }
def iH(s:Stmt):List Stmt:=match s with
 |.FunctionDef _ _ b _ _ _ _ _ _ _=>b
 |_=>[]
def aS(s:Stmt):Scope:=match s with
 |.FunctionDef _ _ _ _ _ _ sc _ _ _=>sc
 |_=>{ kind:=.function,names:=[],isGenerator:=false,isCoroutine:=false }
abbrev CX0:CXT:=fun _ _ _ _ _ _=>False
abbrev E0:XK:=fun _ _ _=>False
theorem bE{X:Cx}:mI CX0 X E0:=fun _ _ _ _ _ _ _ h=>h.elim
structure Fun(K:PySem.W.Frag)(x qual:Str)(st:Stmt)(f:Addr)(fd:FuncData):Prop where
 ex:∃(oc:Value) (od:Option Addr) (kV doc pm:Value) (an:Option Addr) (cdv ct:Value) (osl:Array (Option Value)),
  fd=PySem.W.fnOf x qual (kH st) (iH st) (aS st) .none kV doc pm an cdv ct∧K.lookup f=some ⟨oc,od,.func fd,osl⟩∧PySem.W.codeIn K cdv qual=true
 kp:PySem.W.keepIn K (.ref f)=true
section
variable{P:Program}{w:World}{K:PySem.W.Frag}{mg:Str→Option Value}{base:Heap}
theorem Fun.ok{x qual:Str}{st:Stmt}{f:Addr}{fd:FuncData}{N ps:List Str}{k:Nat}{sp:Sp}(F:Fun K x qual st f fd)(S:a9 N ps (aS st))(len:∀vs H Q E,sp vs H Q E→vs.length=ps.length)
  (hbody:∀(cdv:Value) (A:Around) (outer:List Env) (s:Shared) (H:Hp) (vs:List V) (Q:VK) (E:XK),iB k (A.deeper (envOfC qual (aS st) s.heap.objs.size f cdv))→sp vs H Q E →
   ∃t,PSs (zB CX0 P w K mg base N qual (aS st) f cdv A outer s H E).nox (iH st) t∧t { nx:=fun _ H'=>Q .non H',rt:=Q } (start N vs) H):bQ P w K mg base CX0 (k+1) f fd ps sp:=by
 obtain⟨oc,od,kV,doc,pm,an,cdv,ct,osl,rfl,lk,hcd⟩:=F.ex;refine RB lk hcd S len fun A outer s H vs Q E hr hsp=>?_;obtain⟨t,h,q⟩:=hbody cdv A outer s H vs Q E hr hsp;exact⟨t,h.nox,q⟩
theorem Fun.binds{x qual:Str}{st:Stmt}{f:Addr}{fd:FuncData}{ps:List Str}(F:Fun K x qual st f fd)
  (h:∀(kV doc pm:Value) (an:Option Addr) (cdv ct:Value) (us:List Value),us.length=ps.length→bindArgs (PySem.W.fnOf x qual (kH st) (iH st) (aS st) .none kV doc pm an cdv ct) ⟨us,[]⟩=pure (ps.zip us)):Binds K fd ps []:=by
 obtain⟨oc,od,kV,doc,pm,an,cdv,ct,osl,rfl,lk,hcd⟩:=F.ex;exact .all (h kV doc pm an cdv ct)
theorem GI{x qual:Str}{st:Stmt}{f:Addr}{oc:Value}{od an:Option Addr}{osl:Array (Option Value)}{kV doc pm cdv ct:Value}(l:K.lookup f=some ⟨oc,od,.func (PySem.W.fnOf x qual (kH st) (iH st) (aS st) .none kV doc pm an cdv ct),osl⟩)
  (c:PySem.W.codeIn K cdv qual=true) (k:PySem.W.keepIn K (.ref f)=true):Fun K x qual st f (PySem.W.fnOf x qual (kH st) (iH st) (aS st) .none kV doc pm an cdv ct):=⟨⟨oc,od,kV,doc,pm,an,cdv,ct,osl,rfl,l,c⟩,k⟩
end
theorem II{A:Around}{k:Nat}(hr:iB k A):A.units+1<cLine:=Ys (Nat.add_le_add_left (by decide:1≤64) _) hr.units
section
variable{X:Cx}
theorem pv(i:Nat){x:Str}{pos:Pos}(hN:X.N[i]?=some x:=by rfl)(hv:Vis X.env.scope x:=by first | exact Or.inl rfl | exact Or.inr (Or.inl rfl) | exact Or.inr (Or.inr rfl))(hd:(x==("__debug__" : Str))=false:=by decide)
  (hcd:(x==("__classdict__" : Str))=false:=by decide):PE X (.Name x pos) (OU i):=SC hN hv hd hcd
end
theorem dX{A B:Prop}(h:B):if false=true then A else B:=by
 rw[if_neg Bool.false_ne_true];exact h
theorem gO{A B:Prop}(h:A):if true=true then A else B:=by
 rw[if_pos rfl];exact h
theorem eY{c A B:Prop}[Decidable c](h1:c→A)(h2:¬c→B):if c then A else B:=by
 by_cases h:c
 ·rw[if_pos h];exact h1 h
 ·rw[if_neg h];exact h2 h
theorem U6{c A B:Prop}[Decidable c](hc:c)(h:B):if (!decide c)=true then A else B:=by
 rw[decide_eq_true hc];exact dX h
def aW(H H':Hp):Prop:=∀b o,H b=some o→H' b=some o
theorem aW.refl(H:Hp):aW H H:=fun _ _ h=>h
theorem aW.trans{H H1 H2:Hp}(a:aW H H1)(b:aW H1 H2):aW H H2:=fun c o h=>b c o (a c o h)
theorem aW.free{H H':Hp}(e:aW H H'){l:Addr}(h:H' l=Option.none):H l=Option.none:=by
 cases q:H l with
 |none=>rfl
 |some o =>
  rw[e l o q]at h;cases h
theorem aW.seq{K:PySem.W.Frag}{H H':Hp}{a:Addr}{xs:List V}(e:aW H H')(h:SqL K H a xs):SqL K H' a xs:=by
 rcases h with(h | ⟨o,h⟩) | h
 ·exact .inl (.inl (e _ _ h))
 ·exact .inl (.inr ⟨o,e _ _ h⟩)
 ·exact .inr h
end L2
set_option Elab.async false
set_option linter.all false
set_option maxRecDepth 100000
set_option maxHeartbeats 4000000
namespace L2
open PySem PySem.Spec PyProof.Rows
def lO(cells:List (Str×Addr)):List (Str×NameKind)→List (Str×Addr)→List (Str×Addr)
 |[],cs=>cs
 |x::r,cs=>lO cells r (if x.2=.free then ((cells.lookup x.1).map fun c=>(x.1,c)).toList++cs else cs)
theorem p5{scope:Scope}{env:Env}(h:∀x∈scope.names,x.2=.free→∃c,env.cells.lookup x.1=some c) :
  closureFor scope env=pure (lO env.cells scope.names []):=by
 have key:∀(l:List (Str×NameKind)) (cs:List (Str×Addr)) (f:Str×NameKind→List (Str×Addr)→Sem (ForInStep (List (Str×Addr)))),
   (∀x∈l,x.2=.free→∃c,env.cells.lookup x.1=some c) →
   (∀x cs,f x cs=if (x.2==NameKind.free)=true then (cellOf env x.1 >>= fun a=>pure (ForInStep.yield ((x.1,a)::cs))) else pure (ForInStep.yield cs)) →
   forIn l cs f=pure (lO env.cells l cs):=by
  intro l;induction l with
  |nil=>intro cs f _ _;rfl
  |cons x r ih =>
   intro cs f hx hf;rw[List.forIn_cons,hf];by_cases hk:x.2=.free
   ·obtain⟨c,hc⟩:=hx x Zd hk;rw[if_pos (by simp[hk])];have e:cellOf env x.1=pure c:=by unfold cellOf;rw[hc]
    rw[e];simp only[pure_bind];rw[ih _ f (fun y hy=>hx y (Zw _ hy)) hf];show _=pure (lO env.cells r (if x.2=.free then ((env.cells.lookup x.1).map fun c=>(x.1,c)).toList++cs else cs));rw[if_pos hk,hc];rfl
   ·rw[if_neg (by simp[hk])];simp only[pure_bind];rw[ih _ f (fun y hy=>hx y (Zw _ hy)) hf];show _=pure (lO env.cells r (if x.2=.free then ((env.cells.lookup x.1).map fun c=>(x.1,c)).toList++cs else cs));rw[if_neg hk]
 simp only[closureFor];rw[key scope.names [] _ h (fun x cs=>by obtain⟨n,k⟩:=x;rfl)]
 first | rfl | simp only[pure_bind]
theorem B4{cells:List (Str×Addr)}:∀(l:List (Str×NameKind)) (cs:List (Str×Addr)) {x:Str}{c:Addr},(lO cells l cs).lookup x=some c→cs.lookup x=some c∨cells.lookup x=some c
 |[],_,_,_,h=>.inl h
 |y::r,cs,x,c,h=>by
  have h':(lO cells r (if y.2=.free then ((cells.lookup y.1).map fun c=>(y.1,c)).toList++cs else cs)).lookup x=some c:=h;rcases B4 r _ h' with q | q
  ·by_cases hk:y.2=.free
   ·rw[if_pos hk]at q;cases hl:cells.lookup y.1 with
    |none=>rw[hl]at q;exact .inl q
    |some d =>
     rw[hl]at q;have q':(((y.1,d)::cs).lookup x)=some c:=q;rw[List.lookup_cons]at q';cases hb:x==y.1 with
     |true =>
      rw[hb]at q';have e:=eq_of_beq hb;subst e
      right
      rw[hl];exact q'
     |false=>rw[hb]at q';exact .inl q'
   ·rw[if_neg hk]at q;exact .inl q
  ·exact .inr q
theorem EJ{cells:List (Str×Addr)}:∀(l:List (Str×NameKind)) (cs:List (Str×Addr)) (x:Str),((x,NameKind.free)∈l∧∃c,cells.lookup x=some c)∨(∃c,cs.lookup x=some c)→∃c,(lO cells l cs).lookup x=some c
 |[],cs,x,h=>by
  rcases h with⟨q,_⟩ | q
  ·cases q
  ·exact q
 |y::r,cs,x,h=>by
  show ∃c,(lO cells r (if y.2=.free then ((cells.lookup y.1).map fun c=>(y.1,c)).toList++cs else cs)).lookup x=some c;apply EJ r;rcases h with⟨q,c,hc⟩ | ⟨c,hc⟩
  ·rcases Zn.mp q with q | q
   ·right
    subst q;rw[if_pos rfl,hc];refine⟨c,?_⟩;show((x,c)::cs).lookup x=some c;rw[List.lookup_cons];simp
   ·exact .inl ⟨q,c,hc⟩
  ·right
   by_cases hk:y.2=.free
   ·rw[if_pos hk];cases hl:cells.lookup y.1 with
    |none=>exact⟨c,hc⟩
    |some d =>
     show ∃c,((y.1,d)::cs).lookup x=some c;rw[List.lookup_cons];cases hb:x==y.1 with
     |true=>exact⟨d,rfl⟩
     |false=>exact⟨c,hc⟩
   ·rw[if_neg hk];exact⟨c,hc⟩
theorem qK{env:Env}:∀{names:List (Str×NameKind)}{x:Str}{k':NameKind},
  (names.map fun (n,k)=>if (k==NameKind.free&&env.scope.kind==.function&&env.kindOf n==some .cell) then (n,NameKind.cell) else (n,k)).lookup x=some k' →
  ∃k,(x,k)∈names∧(k=k'∨(k=.free∧k'=.cell))
 |[],_,_,h=>by simp at h
 |(n,k)::r,x,k',h=>by
  have ih:=@qK env r x k';have h':List.lookup x ((if (k==NameKind.free&&env.scope.kind==.function&&env.kindOf n==some .cell)=true then (n,NameKind.cell) else (n,k))::_)=some k':=h;by_cases hc:(k==NameKind.free&&env.scope.kind==.function&&env.kindOf n==some .cell)=true
  ·rw[if_pos hc,List.lookup_cons]at h';cases hb:x==n with
   |true =>
    rw[hb]at h';have e:=eq_of_beq hb;subst e;cases h';refine⟨k,Zd,.inr ⟨?_,rfl⟩⟩;simp only[Xw]at hc;exact eq_of_beq hc.1.1
   |false =>
    rw[hb]at h';obtain⟨k2,q,z⟩:=ih h';exact⟨k2,Zw _ q,z⟩
  ·rw[if_neg hc,List.lookup_cons]at h';cases hb:x==n with
   |true =>
    rw[hb]at h';have e:=eq_of_beq hb;subst e;cases h';exact⟨k,Zd,.inl rfl⟩
   |false =>
    rw[hb]at h';obtain⟨k2,q,z⟩:=ih h';exact⟨k2,Zw _ q,z⟩
theorem rS{env:Env}:∀{names:List (Str×NameKind)}{x:Str},names.lookup x=some .free →
  (names.map fun (n,k)=>if (k==NameKind.free&&env.scope.kind==.function&&env.kindOf n==some .cell) then (n,NameKind.cell) else (n,k)).lookup x=some .cell ∨
  (names.map fun (n,k)=>if (k==NameKind.free&&env.scope.kind==.function&&env.kindOf n==some .cell) then (n,NameKind.cell) else (n,k)).lookup x=some .free
 |[],_,h=>by simp at h
 |(n,k)::r,x,h=>by
  have ih:=@rS env r x;show List.lookup x ((if (k==NameKind.free&&env.scope.kind==.function&&env.kindOf n==some .cell)=true then (n,NameKind.cell) else (n,k))::_)=some .cell ∨
   List.lookup x ((if (k==NameKind.free&&env.scope.kind==.function&&env.kindOf n==some .cell)=true then (n,NameKind.cell) else (n,k))::_)=some .free
  rw[List.lookup_cons]at h;by_cases hc:(k==NameKind.free&&env.scope.kind==.function&&env.kindOf n==some .cell)=true
  ·rw[if_pos hc];simp only[List.lookup_cons];cases hb:x==n with
   |true=>exact .inl rfl
   |false=>rw[hb]at h;exact ih h
  ·rw[if_neg hc];simp only[List.lookup_cons];cases hb:x==n with
   |true=>rw[hb]at h;exact .inr h
   |false=>rw[hb]at h;exact ih h
def Cx.comp(X:Cx)(N:List Str)(scope:Scope)(cl:List (Str×Addr))(C:Addr)(fp:List Addr)(s:Shared)(H:Hp):Cx :=
 { prog:=X.prog,w:=X.w,K:=X.K,mg:=X.mg,base:=X.base,A:=X.A,N:=N,s₀:=s,H₀:=H,env:=compEnvC scope cl C X.env,outer:=X.stack,stack:=X.stack,ex:=fp,fn:=fun _=>false,calm:=X.calm,pn:=[],xe:=fun _ _=>False }
def inner(js:List (Option Nat))(σ:St):St:=js.map fun o=>match o with
 |none=>none
 |some j=>(σ[j]?).getD none
def GF(N:List Str)(scope:Scope):List Str→List (Option Nat)→Bool
 |[],[]=>true
 |x::r,o::q=>(match o with | none=>true | some j=>N[j]?==some x&&scope.names.lookup x==some .free)&&GF N scope r q
 |_,_=>false
theorem DQ{N:List Str}{scope:Scope}:∀{N':List Str}{js:List (Option Nat)},GF N scope N' js=true→js.length=N'.length
 |[],[],_=>rfl
 |_::r,_::q,h=>by
  have h':=(Bool.and_eq_true_iff.mp h).2;rw[Yq,Yq,DQ h']
theorem IF{N:List Str}{scope:Scope}:∀{N':List Str}{js:List (Option Nat)}{i:Nat}{x:Str}{j:Nat},GF N scope N' js=true→N'[i]?=some x→js[i]?=some (some j)→N[j]?=some x∧scope.names.lookup x=some .free
 |[],[],_,_,_,_,h,_=>by simp at h
 |y::r,o::q,0,x,j,h,h1,h2=>by
  have h':=(Bool.and_eq_true_iff.mp h).1;simp at h1 h2;subst h1 h2;have h'':=Bool.and_eq_true_iff.mp h';exact⟨eq_of_beq h''.1,eq_of_beq h''.2⟩
 |y::r,o::q,i+1,x,j,h,h1,h2=>by
  have h':=(Bool.and_eq_true_iff.mp h).2;exact IF (i:=i) h' (by simpa using h1) (by simpa using h2)
theorem NZ{js:List (Option Nat)}{σ:St}{i:Nat}{v:V}(h:(inner js σ)[i]?=some (some v)):∃j,js[i]?=some (some j)∧σ[j]?=some (some v):=by
 unfold inner at h;rw[Zk]at h;cases e:js[i]? with
 |none=>rw[e]at h;cases h
 |some o =>
  rw[e]at h;cases o with
  |none=>cases h
  |some j =>
   refine⟨j,rfl,?_⟩;have h':(σ[j]?).getD none=some v:=by simpa using h
   cases q:σ[j]? with
   |none=>rw[q]at h';cases h'
   |some z=>rw[q]at h';simp at h';rw[h']
structure Fills(σ σ':St):Prop where
 len:σ.length=σ'.length
 at_:∀(i:Nat) v,σ[i]?=some (some v)→σ'[i]?=some (some v)
theorem Fills.refl(σ:St):Fills σ σ:=⟨rfl,fun _ _ h=>h⟩
theorem Fills.set{σ σ':St}(f:Fills σ σ'){i:Nat}(x:V)(h:σ[i]?=some none):Fills σ (σ'.set i (some x)):=by
 refine⟨by rw[List.length_set];exact f.len,fun j v q=>?_⟩;by_cases e:i=j
 ·subst e;rw[h]at q;cases q
 ·rw[List.getElem?_set_ne e];exact f.at_ j v q
section
variable{X:Cx}{pins:List (Addr×Obj)}{σ:St}{H:Hp}{s:Shared}
theorem OD{N':List Str}{js:List (Option Nat)}{scope:Scope}{fp:List Addr}{m:Str→Option Value}{h1:Heap}{tk:Nat}(I:Inv X pins σ H s)
  (hk:scope.kind=.function) (hcell:∀y∈scope.names,y.2≠.cell) (hfree:∀y∈scope.names,y.2=.free→X.env.kindOf y.1=some .cell∨X.env.kindOf y.1=some .free) (hjs:GF X.N scope N' js=true)
  (fpok:∀b∈fp,vQ X pins H b) (fpl:∀b∈fp,b<s.heap.objs.size) (hns:h1.Ns s.heap.objs.size m) (hsb:∀b o,s.heap.get? b=some o→h1.get? b=some o) :
  Inv (X.comp N' scope (lO X.env.cells scope.names []) s.heap.objs.size fp s H) [] (inner js σ) H { s with heap:=h1,toks:=tk }:=by
 have incl:∀{x c},(lO X.env.cells scope.names []).lookup x=some c→X.env.cells.lookup x=some c:=fun {x c} q=>by
  rcases B4 _ _ q with z | z
  ·simp at z
  ·exact z
 have inn:∀{x:Str},(x,NameKind.free)∈scope.names→∃c,(lO X.env.cells scope.names []).lookup x=some c:=fun {x} q=>EJ _ _ _ (.inl ⟨q,I.ok.has x (hfree _ q rfl)⟩);have fnot:∀b∈fp,b∉frs X.stack:=fun b hb z=>(Zn.mp (I.stkSub b z)).elim (fpok b hb).2.1 (fpok b hb).2.2.1;refine⟨⟨I.ok.mod,?_,I.ok.glob,I.ok.blt,Nat.le_refl _,?_,?_,?_,I.ok.hd,I.ok.frames,.inl rfl,?_,I.bs,Yr I.ok.bsz I.sz,?_,fnot,I.stack,I.stkFree⟩,rfl,I.bare,Un.kept hsb,⟨m,hns,?_⟩,?_,I.fresh,?_,?_,I.hok.kept hsb,?_⟩
 ·exact hk
 ·intro x y c e1 e2;exact I.ok.inj x y c (incl e1) (incl e2)
 ·intro x h;have q:∃k,(x,k)∈scope.names∧k=.free:=by
   rcases h with h | h
   ·obtain⟨k,q1,q2⟩:=qK (env:=X.env) h;rcases q2 with rfl | ⟨q2,_⟩
    ·exact absurd rfl (hcell _ q1)
    ·exact⟨k,q1,q2⟩
   ·obtain⟨k,q1,q2⟩:=qK (env:=X.env) h;rcases q2 with rfl | ⟨_,q2⟩
    ·exact⟨_,q1,rfl⟩
    ·cases q2
  obtain⟨k,q1,rfl⟩:=q;exact inn q1
 ·intro x c h _;cases h
 ·intro b hb;exact⟨Nat.ne_of_lt (fpl b hb),fun x c e=>(fpok b hb).2.2.2.2.1 x c (incl e)⟩
 ·intro b o e hb;rcases(fpok b hb).2.2.2.1 with z | z
  ·exact I.ok.noex b o e z
  ·exact absurd (Yt (Heap.lt_size e) (Yr I.ok.bsz z)) (Nat.lt_irrefl _)
 ·intro i x v e1 e2 _;obtain⟨j,q1,q2⟩:=NZ e2;obtain⟨q3,q4⟩:=IF hjs e1 q1;have q5:(x,NameKind.free)∈scope.names:=by
   have:∀{l:List (Str×NameKind)},l.lookup x=some .free→(x,NameKind.free)∈l:=by
    intro l;induction l with
    |nil=>intro z;simp at z
    |cons y r ih =>
     intro z;obtain⟨n,k⟩:=y;rw[List.lookup_cons]at z;cases hb:x==n with
     |true=>rw[hb]at z;have e:=eq_of_beq hb;subst e;cases z;exact Zd
     |false=>rw[hb]at z;exact Zw _ (ih z)
   exact this q4
  have kf:=hfree _ q5 rfl;obtain⟨m0,hn0,hl0⟩:=id I.loc;obtain⟨u,r,lk⟩:=hl0 j x v q3 q2 (kf.elim (fun z=>.inr (.inl z)) fun z=>.inr (.inr z));refine⟨u,r,?_⟩;rcases lk with⟨z,_⟩ | ⟨_,c,hc,o,ho,hd⟩
  ·rcases kf with k | k
   ·rw[k]at z;cases z
   ·rw[k]at z;cases z
  ·obtain⟨c',hc'⟩:=inn q5;have e:=incl hc';rw[hc]at e;cases e;exact .inr ⟨rS q4,c,hc',o,hsb _ _ ho,hd⟩
 ·intro x c e;obtain⟨v,o,ho,hd⟩:=I.cell x c (incl e);exact⟨v,o,hsb _ _ ho,hd⟩
 ·intro x c e;exact I.freeC x c (incl e)
 ·intro p hp;cases hp
 ·show(inner js σ).length=N'.length;unfold inner;rw[Zq];exact DQ hjs
def PF(X:Cx)(ifs:List Expr)(t:TT):Prop :=
 ∀(pins:List (Addr×Obj)) (s:Shared) (σ:St) (H:Hp) (Q:Bool→Hp→Prop),Inv X pins σ H s→t σ H Q →
  wpAny (model X.prog X.w) X.A (forIn ifs true fun c r=>if r=true then do let ok ←isTrue c X.env (eval c X.env);pure (ForInStep.yield ok) else pure (ForInStep.yield r)) (TP X pins σ Q) X.xe s
def wG:TT:=fun _ H Q=>Q true H
theorem dN:PF X [] wG:=fun _ _ _ H _ I h=>wpAny_tests_nil ⟨H,I,h⟩
theorem BL{c:Expr}{t:TT}(h:PT X c t):PF X [c] t:=fun pins s σ H Q I hw=>wpAny_tests_one (h pins s σ H Q I hw)
end
section
variable{prog:Program}{w:World}{A:Around}{E:Value→Shared→Prop}{R:Result→Shared→Prop}{s:Shared}
theorem EI{elt target iter:Expr}{ifs:List Expr}{scope:Scope}{pos:Pos}{it acc:Value}{env:Env}(I:Nat→Shared→Prop)
  (turn:∀n s,I n s→wpAny (model prog w) A (pyNext it) (fun r s₁=>match r with
   |none=>R (.ok .next) s₁
   |some v=>wpAny (model prog w) A (letOwnedTupleGo target it v) (fun _ s₀=>wpAny (model prog w) A (assign target env v) (fun _ s₂ =>
     wpAny (model prog w) A (forIn ifs true fun c r=>if r=true then do let ok ←isTrue c env (eval c env);pure (ForInStep.yield ok) else pure (ForInStep.yield r)) (fun ok s₃ =>
      if ok=true then wpAny (model prog w) A (eval elt env) (fun x s₄ =>
       wpAny (model prog w) A (call (.builtin "list.append") [acc,x]) (fun _ s₅=>∃m,m<n∧I m s₅) (fun _ _=>False) s₄) (fun _ _=>False) s₃
      else ∃m,m<n∧I m s₃) (fun _ _=>False) s₂) (fun _ _=>False) s₀) (fun _ _=>False) s₁) (fun _ _=>False) s)
  (n:Nat) (h:I n s) :
  codeAny (model prog w) A (.compLoop (.ListComp elt [⟨target,iter,ifs,0⟩] scope pos) 0 it acc env) R s:=by
 refine codeAny_loop rfl I (fun n s hI=>?_) n h;show wpAny _ A ((compTurn (.ListComp elt [⟨target,iter,ifs,0⟩] scope pos) 0 it acc env).onRaise (fun x=>do noteFrame x env;theTreesLotGoes x)) _ _ s;refine wpAny_noted ?_;rw[compTurn_list];refine ZZ (wpAny_standAt (ZZ (ZX (turn n s hI) (fun r s₁ h₁=>?_) fun _ _ h'=>h'.elim)));cases r with
 |none=>exact ZY h₁
 |some v =>
  refine ZZ (ZX h₁ (fun _ s₀ h₀=>?_) fun _ _ h'=>h'.elim);refine ZZ (ZX h₀ (fun _ s₂ h₂=>ZZ (ZX h₂ (fun ok s₃ h₃=>?_) fun _ _ h'=>h'.elim)) fun _ _ h'=>h'.elim);cases ok with
  |false=>exact ZY ⟨rfl,h₃⟩
  |true =>
   exact ZZ (ZZ (ZX h₃ (fun x s₄ h₄=>ZZ (ZX h₄ (fun _ s₅ h₅=>ZY (ZY ⟨rfl,h₅⟩)) fun _ _ h'=>h'.elim)) fun _ _ h'=>h'.elim))
end
section
variable{X:Cx}
def Q3(js:List (Option Nat))(wi:TI)(g:TG)(tc:TT)(te:TE):TE:=fun σ H Q=>wi σ H fun J H1=>∀D,H1 D=none→∃W:Nat→Nat→List V→Hp→Prop,(∃m,W 0 m [] (upd H1 D (.lst []))) ∧
 ∀i m ys H,W i m ys H→(J.stop i H∧Q (.ref D) H)∨(J.go i H∧∃N:List V→Hp→Prop,(∀ys' H',N ys' H'→∃m',m' < m∧W (i+1) m' ys' H')∧∀x H',J.yld i H x H'→g x (inner js σ) H' fun σ2 H2=>Fills (inner js σ) σ2∧tc σ2 H2 fun b H3 =>
  if b=true then te σ2 H3 fun y H4=>H4 D=some (.lst ys)∧ys.length<ZW∧N (ys++[y]) (upd H4 D (.lst (ys++[y]))) else N ys H3)
theorem yM{N':List Str}{js:List (Option Nat)}{scope:Scope}{target iter elt:Expr}{ifs:List Expr}{pos:Pos}{g:TG}{tc:TT}{te:TE}{pins:List (Addr×Obj)}{σ:St}{H:Hp}{s:Shared}{Q:VK}{E:Value→Shared→Prop}
  {RR:Value→Addr→Result→Shared→Prop}{it:Addr}{fp:List Addr}{tn:Nat→Heap→Prop}{J:It}(I:Inv X pins σ H s) (T:Turn X.prog X.w X.K target J fp it tn) (st:tn 0 s.heap) (f:∀b∈fp,vQ X pins H b) (hc:X.calm=true)
  (q:∀D,H D=none→∃W:Nat→Nat→List V→Hp→Prop,(∃m,W 0 m [] (upd H D (.lst []))) ∧
   ∀i m ys H,W i m ys H→(J.stop i H∧Q (.ref D) H)∨(J.go i H∧∃N:List V→Hp→Prop,(∀ys' H',N ys' H'→∃m',m' < m∧W (i+1) m' ys' H')∧∀x H',J.yld i H x H'→g x (inner js σ) H' fun σ2 H2=>Fills (inner js σ) σ2∧tc σ2 H2 fun b H3 =>
  if b=true then te σ2 H3 fun y H4=>H4 D=some (.lst ys)∧ys.length<ZW∧N (ys++[y]) (upd H4 D (.lst (ys++[y]))) else N ys H3))
  (hg:∀cl C fp s H,PG (X.comp N' scope cl C fp s H) target g) (hf:∀cl C fp s H,PF (X.comp N' scope cl C fp s H) ifs tc) (he:∀cl C fp s H,PE (X.comp N' scope cl C fp s H) elt te)
  (hk:scope.kind=.function) (hcell:∀y∈scope.names,y.2≠.cell) (hfree:∀y∈scope.names,y.2=.free→X.env.kindOf y.1=some .cell∨X.env.kindOf y.1=some .free) (hjs:GF X.N scope N' js=true)
  (hRR:∀D C H' s',Inv X pins σ H' s'→Q (.ref D) H'→(∃m,s'.heap.Ns C m)→H' C=none→C≠X.env.locals→X.s₀.heap.objs.size≤C→C∉X.fs→(∀x c,X.env.cells.lookup x=some c→c≠C)→(∀p∈X.pn++pins,p.1≠C) →
   RR (.ref D) C (.ok .next) s') :
  wpAny (model X.prog X.w) X.A (newList []) (fun acc s₃=>wpAny (model X.prog X.w) X.A (newFunctionEnv scope X.env.globals (lO X.env.cells scope.names []) [] X.env.qual none .none (some X.env)) (fun cenv s₄ =>
   codeAny (model X.prog X.w) X.A (.compStart (.ListComp elt [⟨target,iter,ifs,0⟩] scope pos) 0 (.ref it) acc { cenv with scope:=relabel scope X.env }) (RR acc cenv.locals) s₄) E s₃) E s:=by
 refine wpAny_newObj_type (wpAny_newFunctionEnv hcell (by intro y hy;simp at hy) (fun h₁ hns₁ hsb₁=>?_) hk);dsimp only at hns₁ hsb₁ ⊢;have I3:Inv X pins σ (upd H s.heap.objs.size (.lst [])) { s with heap:=s.heap.push { cls:=.type "list",dict:=none,data:=.seq ([]:List Value).toArray } }:=I.lnew (its:=[]) (ys:=[]) (t':=s.toks) .nil (Nat.zero_le _);obtain⟨W,⟨m0,w0⟩,turn⟩:=q s.heap.objs.size I.fresh;generalize hD:s.heap.objs.size=D at I3 turn w0 ⊢;have hsz:(s.heap.push { cls:=.type "list",dict:=none,data:=.seq ([]:List Value).toArray }).objs.size=D+1:=by rw[Heap.size_push,hD]
 have fpl:∀b∈fp,b<D:=fun b hb=>by
  obtain⟨o,e,_⟩:=T.obj _ _ st b hb;rw[←hD];exact Heap.lt_size e
 generalize hs3:({ s with heap:=s.heap.push { cls:=.type "list",dict:=none,data:=.seq ([]:List Value).toArray } }:Shared)=s3 at I3;have eh:s.heap.push { cls:=.type "list",dict:=none,data:=.seq ([]:List Value).toArray }=s3.heap:=by rw[←hs3]
 rw[eh]at hns₁ hsb₁ hsz ⊢;have f3:∀b∈fp,vQ X pins (upd H D (.lst [])) b:=fun b hb=>⟨by rw[aL (Nat.ne_of_lt (fpl b hb))];exact(f b hb).1,(f b hb).2⟩
 have keep1:∀b o,s3.heap.get? b=some o→h₁.get? b=some o:=fun b o e=>hsb₁.extBut b o (Nat.ne_of_lt (Heap.lt_size e)) (Heap.get?_push_of_some _ e);have I4:=OD (N':=N') (js:=js) (tk:=s.toks+([]:List (Str×Value)).length) I3 hk hcell hfree hjs f3 (fun b hb=>by rw[hsz];exact YQ (fpl b hb)) hns₁ keep1;have es:({ s with heap:=h₁,toks:=s.toks+([]:List (Str×Value)).length }:Shared)={ s3 with heap:=h₁,toks:=s.toks+([]:List (Str×Value)).length }:=by rw[←hs3]
 rw[show({ s with heap:=h₁,toks:=s.toks+([]:List (Str×Value)).length }:Shared)={ s3 with heap:=h₁,toks:=s.toks+([]:List (Str×Value)).length } from es];have st4:tn 0 h₁:=T.keep _ _ _ st fun b hb o e=>keep1 b o (eh▸Heap.get?_push_of_some _ e);have hCne:s3.heap.objs.size≠X.env.locals:=Nat.ne_of_gt I3.lt;have loop:∀s4:Shared,tn 0 s4.heap→Inv (X.comp N' scope (lO X.env.cells scope.names []) s3.heap.objs.size fp s3 (upd H D (.lst []))) [] (inner js σ) (upd H D (.lst [])) s4 →
   codeAny (model X.prog X.w) X.A (.compLoop (.ListComp elt [⟨target,iter,ifs,0⟩] scope pos) 0 (.ref it) (.ref D) (compEnvC scope (lO X.env.cells scope.names []) s3.heap.objs.size X.env)) (RR (.ref D) s3.heap.objs.size) s4:=by
  intro s4 st4 I4;generalize hX:X.comp N' scope (lO X.env.cells scope.names []) s3.heap.objs.size fp s3 (upd H D (.lst []))=X' at I4;have xprog:X'.prog=X.prog:=by rw[←hX];rfl
  have stat:∀{H':Hp},(∀b∈fp,H' b=none)→∀b∈fp,vQ X' [] H' b:=fun hn b hb=>by
   rw[←hX];refine⟨hn b hb,?_,?_,.inl hb,?_,fun p hp=>nomatch hp⟩
   ·exact Nat.ne_of_lt (by show b<s3.heap.objs.size;rw[hsz];exact YQ (fpl b hb))
   ·exact fun z=>(Zn.mp (I3.stkSub b z)).elim (f3 b hb).2.1 (f3 b hb).2.2.1
   ·intro x c e;rcases B4 _ _ e with z | z
    ·simp at z
    ·exact(f3 b hb).2.2.2.2.1 x c z
  have hg':=hg (lO X.env.cells scope.names []) s3.heap.objs.size fp s3 (upd H D (.lst []));have hf':=hf (lO X.env.cells scope.names []) s3.heap.objs.size fp s3 (upd H D (.lst []));have he':=he (lO X.env.cells scope.names []) s3.heap.objs.size fp s3 (upd H D (.lst []));rw[hX]at hg' hf' he';have xA:X'.A=X.A:=by rw[←hX];rfl
  have xw:X'.w=X.w:=by rw[←hX];rfl
  have xK:X'.K=X.K:=by rw[←hX];rfl
  have xc:X'.calm=true:=by rw[←hX];exact hc
  have xe:X'.env=compEnvC scope (lO X.env.cells scope.names []) s3.heap.objs.size X.env:=by rw[←hX];rfl
  have xx:X'.xe=fun _ _=>False:=by rw[←hX];rfl
  have T':Turn X'.prog X'.w X'.K target J fp it tn:=by rw[xprog,xw,xK];exact T
  rw[←xA,←xw,←xprog,←xe];refine EI (fun n s'=>∃i ys H',Inv X' [] (inner js σ) H' s'∧tn i s'.heap∧(∀b∈fp,H' b=none)∧W i n ys H') ?_ m0 ⟨0,[],_,I4,st4,fun b hb=>(f3 b hb).1,w0⟩;rintro n s5 ⟨i,ys,H5,I5,st5,fr5,w5⟩;rcases turn i n ys H5 w5 with⟨stop,q⟩ | ⟨go,N,hN,step⟩
  ·refine thn (T'.done X' rfl rfl rfl xc i [] s5 _ H5 _ I5 (stat fr5) st5 stop) fun r s6 ⟨hr,I6⟩=>?_;subst hr;subst hX;have I7:Inv X pins σ H5 s6:=I3.call' (s':=s6) I6.os I6.base I6.hok I6.bare fun b hb=>⟨(f3 b hb).2.2.2.1,(f3 b hb).2.1,(f3 b hb).2.2.2.2.1,(f3 b hb).2.2.2.2.2⟩
   obtain⟨m6,hn6,_⟩:=I6.loc;refine hRR D s3.heap.objs.size H5 s6 I7 q ⟨m6,hn6⟩ I6.free hCne I3.sz (I3.nofs (Nat.le_refl _)) (fun x c e z=>?_) (fun p hp z=>?_)
   ·obtain⟨v,y⟩:=I3.cell x c e;exact absurd (Yt y.lt (by rw[z];exact Nat.le_refl _)) (Nat.lt_irrefl _)
   ·exact absurd (Yt (Heap.lt_size (I3.pin p hp).1) (by rw[z];exact Nat.le_refl _)) (Nat.lt_irrefl _)
  ·refine thn (T'.item X' rfl rfl rfl xc i [] s5 _ H5 _ I5 (stat fr5) st5 go) fun r s6 ⟨u,hr,h6⟩=>?_;subst hr;refine thn h6 fun _ s7 ⟨x,H7,I7,r7,y7,st7,fr7⟩=>?_;have I7':=I7.pinned (stat fr7) (T.obj _ _ st7);refine ZX (hg' _ s7 _ H7 x u _ I7' r7 (step x H7 y7)) (fun _ s8 ⟨σ8,H8,I8,fill8,q8⟩=>?_) (fun _ _ z=>by rw[xx]at z;exact z);refine ZX (hf' _ s8 σ8 H8 _ I8 q8) (fun b s9 ⟨H9,I9,q9⟩=>?_) (fun _ _ z=>by rw[xx]at z;exact z);have again:∀{H':Hp}{s':Shared}{ys':List V},Inv X' ([]++w9 fp s7.heap) σ8 H' s'→N ys' H'→∃m,m<n∧∃i ys H',Inv X' [] (inner js σ) H' s'∧tn i s'.heap∧(∀b∈fp,H' b=none)∧W i m ys H':=fun {H' s' ys'} I' n'=>by
    obtain⟨m',hm,w'⟩:=hN ys' H' n';refine⟨m',hm,i+1,ys',H',I'.unpinned.weak fill8.len fill8.at_,T.keep _ _ _ st7 fun b hb o e=>(I'.pin (b,o) (List.mem_append_right _ (List.mem_append_right _ (l9 hb e)))).1,fun b hb=>?_,w'⟩;obtain⟨o,e,d⟩:=T.obj _ _ st7 b hb;exact(I'.pin (b,o) (List.mem_append_right _ (List.mem_append_right _ (l9 hb e)))).2.1
   cases b with
   |false=>exact again I9 q9
   |true =>
    refine ZX (he' _ s9 σ8 H9 _ I9 q9) (fun yv s10 ⟨y,H10,I10,ry,hD10,hz,q10⟩=>?_) (fun _ _ z=>by rw[xx]at z;exact z);refine ZX (cD (X:=X') _ s10 σ8 H10 (.ref D) [y] (.ref D) [yv] (fun _ H'=>H'=upd H10 D (.lst (ys++[y]))) I10 rfl (.cons ry .nil) ⟨D,ys,y,rfl,rfl,hD10,hz,rfl⟩) (fun _ s11 ⟨_,H11,I11,_,e11⟩=>?_) (fun _ _ z=>by rw[xx]at z;exact z);subst e11;exact again I11 q10
 have l4:=loop { s3 with heap:=h₁,toks:=s.toks+([]:List (Str×Value)).length } st4 I4;exact codeAny_compStart_list l4 (T.self _ 0 _ _ _ st4 l4)
theorem fO{N':List Str}{js:List (Option Nat)}{scope:Scope}{target iter elt:Expr}{ifs:List Expr}{pos:Pos}{wi:TI}{g:TG}{tc:TT}{te:TE}(hc:X.calm=true)(hi:PI X target iter wi)
  (hg:∀cl C fp s H,PG (X.comp N' scope cl C fp s H) target g) (hf:∀cl C fp s H,PF (X.comp N' scope cl C fp s H) ifs tc) (he:∀cl C fp s H,PE (X.comp N' scope cl C fp s H) elt te)
  (hk:scope.kind=.function:=by rfl) (hcell:(scope.names.all fun y=>y.2 != .cell)=true:=by rfl) (hfree:(scope.names.all fun y=>y.2 != .free||(X.env.kindOf y.1==some .cell||X.env.kindOf y.1==some .free))=true:=by rfl)
  (hnames:(scope.names.all fun y=>y.2 != .local||scope.names.lookup y.1==some .local)=true:=by rfl) (hjs:GF X.N scope N' js=true:=by rfl) (hs:∀x,foldedSetIterable iter X.env x=pure x:=by intro _;rfl) :
  PE X (.ListComp elt [⟨target,iter,ifs,0⟩] scope pos) (Q3 js wi g tc te):=by
 have hcell':∀y∈scope.names,y.2≠.cell:=fun y hy z=>by have:=List.all_eq_true.mp hcell y hy;simp[z]at this
 have hfree':∀y∈scope.names,y.2=.free→X.env.kindOf y.1=some .cell∨X.env.kindOf y.1=some .free:=fun y hy z=>by have:=List.all_eq_true.mp hfree y hy;simpa[z] using this
 have hnames':∀y∈scope.names,y.2=.local→scope.names.lookup y.1=some .local:=fun y hy z=>by have:=List.all_eq_true.mp hnames y hy;simpa[z] using this
 intro pins s σ H Q I h;rw[eval_ListComp];refine wpAny_comprehension_free (use:=none) rfl hs (p5 fun x hx z=>I.ok.has x.1 (hfree' x hx z)) hk hnames' ?_;refine thn (hi pins s σ H _ I h) fun v s1 h1=>thn h1 fun itv s2 h2=>?_;obtain⟨it,fp,tn,J,H2,e,I2,T,st2,f2,q2⟩:=h2;subst e;refine yM (RR:=fun acc C=>compPost (model X.prog X.w) X.A X.xe none (EP X pins σ Q) acc C) I2 T st2 f2 hc q2 hg hf he hk hcell' hfree' hjs ?_;intro D C H' s' I' q ⟨m,hn⟩ c0 c1 c2 c3 c4 c5;exact⟨m,hn,fun h' hs'=>⟨.ref D,H',I'.turned (t':=s'.toks) (fun b o hb e=>(hs'.2 b hb).trans e) c0 c1 (.inr c2) c4 c5,rfl,q⟩⟩
theorem cN{N':List Str}{js:List (Option Nat)}{scope:Scope}{target iter elt:Expr}{ifs:List Expr}{pos pos' spos:Pos}{x:Str}{i:Nat}{wi:TI}{g:TG}{tc:TT}{te:TE}(hN:X.N.Nodup)(hi':X.N[i]?=some x)(hx:Loc X.env.scope x)(hc:X.calm=true)(hi:PI X target iter wi)
  (hg:∀cl C fp s H,PG (X.comp N' scope cl C fp s H) target g) (hf:∀cl C fp s H,PF (X.comp N' scope cl C fp s H) ifs tc) (he:∀cl C fp s H,PE (X.comp N' scope cl C fp s H) elt te)
  (hsw:swapsWith (.ListComp elt [⟨target,iter,ifs,0⟩] scope pos) (some (.Name x pos')) spos.line X.env=pure true:=by rfl)
  (hk:scope.kind=.function:=by rfl) (hcell:(scope.names.all fun y=>y.2 != .cell)=true:=by rfl) (hfree:(scope.names.all fun y=>y.2 != .free||(X.env.kindOf y.1==some .cell||X.env.kindOf y.1==some .free))=true:=by rfl)
  (hnames:(scope.names.all fun y=>y.2 != .local||scope.names.lookup y.1==some .local)=true:=by rfl) (hjs:GF X.N scope N' js=true:=by rfl) (hs:∀x,foldedSetIterable iter X.env x=pure x:=by intro _;rfl)
  (hfn:X.fn x=true∨X.env.scope.names.lookup x=some .local:=by first | exact .inl rfl | exact .inr rfl | assumption) :
  PS X (.Assign [.Name x pos'] (.ListComp elt [⟨target,iter,ifs,0⟩] scope pos) spos) (OZ (Q3 js wi g tc te) (jN i)):=by
 have hcell':∀y∈scope.names,y.2≠.cell:=fun y hy z=>by have:=List.all_eq_true.mp hcell y hy;simp[z]at this
 have hfree':∀y∈scope.names,y.2=.free→X.env.kindOf y.1=some .cell∨X.env.kindOf y.1=some .free:=fun y hy z=>by have:=List.all_eq_true.mp hfree y hy;simpa[z] using this
 have hnames':∀y∈scope.names,y.2=.local→scope.names.lookup y.1=some .local:=fun y hy z=>by have:=List.all_eq_true.mp hnames y hy;simpa[z] using this
 intro pins s σ H D I h;rw[exec_Assign_Name_used _ _ _ _ hsw];refine ZZ (wpAny_standAt (ZZ ?_));show wpAny _ X.A (do let _ ←comprehension (.ListComp elt [⟨target,iter,ifs,0⟩] scope pos) scope X.env _ (newList []) false (eval iter X.env) (some (assign (.Name x pos') X.env))) _ _ s;refine ZZ (ZX (wpAny_comprehension_free (use:=some (assign (.Name x pos') X.env)) (Q:=fun _ s'=>SP X pins D .next s') rfl hs (p5 fun x hx z=>I.ok.has x.1 (hfree' x hx z)) hk hnames' ?_) (fun _ s' hq=>ZY (ZY hq)) fun _ _ e=>e);refine thn (hi pins s σ H _ I h) fun v s1 h1=>thn h1 fun itv s2 h2=>?_;obtain⟨it,fp,tn,J,H2,e,I2,T,st2,f2,q2⟩:=h2;subst e;refine yM (Q:=fun x H1=>jN i x σ H1 D.nx) (RR:=fun acc C=>compPost (model X.prog X.w) X.A X.xe (some (assign (.Name x pos') X.env)) (fun _ s'=>SP X pins D .next s') acc C) I2 T st2 f2 hc q2 hg hf he hk hcell' hfree' hjs ?_;intro D' C H' s' I' q ⟨m,hn⟩ c0 c1 c2 c3 c4 c5;obtain⟨oC,es,ep,hoC,hdC,rC⟩:=id hn;have I'':Inv X (pins++[(C,oC)]) σ H' s':=I'.pins_of fun p hp=>(Zf.mp hp).elim (fun z=>I'.pin p (List.mem_append_right _ z)) fun z=>by
  have e:=Zb.mp z;subst e;exact⟨hoC,c0,c1,c3,fun v z=>by rw[hdC]at z;cases z⟩
 show wpAny _ X.A (assign (.Name x pos') X.env (.ref D')) _ _ _;refine wpAny_assign_Name (iM I'' hN hi' hx (v:=.ref D') rfl (fun s3 I3=>?_) hfn);have hC3:=I3.pin (C,oC) (List.mem_append_right _ (List.mem_append_right _ (Zb.mpr rfl)));refine⟨m,⟨oC,es,ep,hC3.1,hdC,rC⟩,fun h' hs'=>?_⟩;exact⟨_,H',I3.unpinned.turned (t':=s3.toks) (fun b o hb e=>(hs'.2 b hb).trans e) c0 c1 (.inr c2) c4 c5,q⟩
end
theorem sS{J:It}{js:List (Option Nat)}{σ:St}{H1:Hp}{R:Hp→Prop}{D:Addr}{g:TG}{tc:TT}{te:TE}(n:Nat)(Pv:Nat→List V→Hp→Prop)(h0:Pv 0 [] (upd H1 D (.lst [])))
  (hs:∀i ys H,i<n→Pv i ys H→J.go i H∧∀x H',J.yld i H x H'→g x (inner js σ) H' fun σ2 H2=>Fills (inner js σ) σ2∧tc σ2 H2 fun b H3 =>
   if b=true then te σ2 H3 fun y H4=>H4 D=some (.lst ys)∧ys.length<ZW∧Pv (i+1) (ys++[y]) (upd H4 D (.lst (ys++[y]))) else Pv (i+1) ys H3)
  (hd:∀ys H,Pv n ys H→J.stop n H∧R H) :
  ∃W:Nat→Nat→List V→Hp→Prop,(∃m,W 0 m [] (upd H1 D (.lst []))) ∧
   ∀i m ys H,W i m ys H→(J.stop i H∧R H)∨(J.go i H∧∃N:List V→Hp→Prop,(∀ys' H',N ys' H'→∃m',m' < m∧W (i+1) m' ys' H')∧∀x H',J.yld i H x H'→g x (inner js σ) H' fun σ2 H2=>Fills (inner js σ) σ2∧tc σ2 H2 fun b H3 =>
    if b=true then te σ2 H3 fun y H4=>H4 D=some (.lst ys)∧ys.length<ZW∧N (ys++[y]) (upd H4 D (.lst (ys++[y]))) else N ys H3):=by
 refine⟨fun i m ys H=>m=n-i∧i≤n∧Pv i ys H,⟨n,by simp,Nat.zero_le _,h0⟩,?_⟩;rintro i m ys H ⟨rfl,hi,p⟩;by_cases hlt:i<n
 ·obtain⟨go,step⟩:=hs i ys H hlt p;exact .inr ⟨go,Pv (i+1),fun ys' H' p'=>⟨n-(i+1),by omega,rfl,hlt,p'⟩,step⟩
 ·have e:i=n:=by lia
  subst e;exact .inl (hd ys H p)
theorem comp_map{J:It}{js:List (Option Nat)}{σ:St}{H1:Hp}{R:Hp→Prop}{D:Addr}{g:TG}{te:TE}(n:Nat)(Pv:Nat→List V→Hp→Prop)(h0:Pv 0 [] (upd H1 D (.lst [])))
  (hs:∀i ys H,i<n→Pv i ys H→J.go i H∧∀x H',J.yld i H x H'→g x (inner js σ) H' fun σ2 H2=>Fills (inner js σ) σ2∧te σ2 H2 fun y H4=>H4 D=some (.lst ys)∧ys.length<ZW∧Pv (i+1) (ys++[y]) (upd H4 D (.lst (ys++[y]))))
  (hd:∀ys H,Pv n ys H→J.stop n H∧R H) :
  ∃W:Nat→Nat→List V→Hp→Prop,(∃m,W 0 m [] (upd H1 D (.lst []))) ∧
   ∀i m ys H,W i m ys H→(J.stop i H∧R H)∨(J.go i H∧∃N:List V→Hp→Prop,(∀ys' H',N ys' H'→∃m',m' < m∧W (i+1) m' ys' H')∧∀x H',J.yld i H x H'→g x (inner js σ) H' fun σ2 H2=>Fills (inner js σ) σ2∧wG σ2 H2 fun b H3 =>
    if b=true then te σ2 H3 fun y H4=>H4 D=some (.lst ys)∧ys.length<ZW∧N (ys++[y]) (upd H4 D (.lst (ys++[y]))) else N ys H3):=by
 refine sS n Pv h0 ?_ hd;simp only[wG,if_true];exact hs
end L2
set_option Elab.async false
set_option linter.all false
set_option maxRecDepth 100000
set_option maxHeartbeats 4000000
namespace L2
open PySem PySem.Spec PyProof.Rows
def VP(lo c:Int)(n:Nat):It:=⟨fun i _=>i<n,fun i H x H'=>H'=H∧x=.int (lo+i*c),fun i _=>n≤i⟩
theorem CK{P:Program}{w:World}{K:PySem.W.Frag}{tg:Expr}(it:Addr)(lo c:Int)(n:Nat):Turn P w K tg (VP lo c n) [it] it (fun i h=>IsRangeIter h it (lo+(i:Nat)*c) ((n:Int)-(i:Nat)) c) where
 mem:=by simp
 obj:=fun i h st b hb=>by
  have e:b=it:=by simpa using hb
  subst e;exact⟨_,st,fun v z=>by
   have z':Data.fields _=Data.cell v:=z;cases z'⟩
 keep:=fun i h h' st k=>k it (by simp) _ st
 item:=by
  intro X hP hw hK hc i pins s σ H E I hf st hg;subst hP hw hK;obtain⟨f0,f1,f2,f3,f4,f5⟩:=hf it (by simp);have W:=Walks.range (prog:=X.prog) (w:=X.w) (I.ok.hd hc) it lo c n;refine W.item i s _ _ hg st fun v h' tk hv st' kk=>?_;obtain⟨t,rfl⟩:=hv;have I1:Inv X pins σ H { s with heap:=h',toks:=tk }:=I.turned (fun b o hb e=>kk b o (by simpa using hb) e) f0 f1 f3 f4 f5;exact⟨_,rfl,N1 (s:={ s with heap:=h',toks:=tk }) (n:="range_iterator") st' rfl rfl (by decide) ⟨.int (lo+i*c),H,I1,⟨t,rfl⟩,⟨rfl,rfl⟩,st',fun b hb=>(hf b hb).1⟩⟩
 done:=by
  intro X hP hw hK hc i pins s σ H E I hf st hg;subst hP hw hK;obtain⟨f0,f1,f2,f3,f4,f5⟩:=hf it (by simp);exact wpAny_pyNext_range_end (I.ok.hd hc) st (by have:n≤i:=hg;lia) fun h' eb=>⟨rfl,I.turned (t':=s.toks) (fun b o hb e=>eb b o hb e) f0 f1 f3 f4 f5⟩
 self:=fun _ _ _ _ _ st h=>wpAny_pyIter_rangeiter st h
section
variable{X:Cx}{tg:Expr}
def U7(ta:TA):TI:=fun σ H R=>ta σ H fun vs H1=>∃n:Nat,vs=[.int 0,.int (2*n),.int 2]∧n<1000000∧R (VP 0 2 n) H1
theorem J4{a b c:Expr}{ta:TA}{p pos:Pos}(hg:Gl X "range")(hm:X.mg "range" = none)(ha:PA X [a,b,c] ta)(hs:starEach [a,b,c] X.env=[(false,eval a X.env),(false,eval b X.env),(false,eval c X.env)]:=by rfl)
  (hs2:starEach [b,c] X.env=[(false,eval b X.env),(false,eval c X.env)]:=by rfl):PI X tg (.Call (.Name "range" p) [a,b,c] [] pos) (U7 ta):=by
 intro pins s σ H R I h;refine Call_ (oB I hg hm boot_range (PyProof.Rows.callWith_type1 (thn (ha pos pins s σ H _ I h) fun us s1 ⟨vs,H1,I1,r1,q1⟩=>?_) (by rw[hs,hs2]) (by rw[hs2];rfl)));obtain⟨n,e,hn,q⟩:=q1;subst e;cases r1 with
 |cons r rr =>
  cases rr with
  |cons r' rr =>
   cases rr with
   |cons r'' rr =>
    cases rr;obtain⟨t,rfl⟩:=r;obtain⟨t',rfl⟩:=r';obtain⟨t'',rfl⟩:=r'';refine call_range_3 (by decide) ?_ (.inl (PyProof.noPylong_small (by lia)));have hsz:Builtin.Range.rangeSize 0 (2*n) 2=n:=by
     unfold Builtin.Range.rangeSize;simp only[show(2:Int)>0 by decide,if_true];split<;>lia
    have hsmall:Builtin.Range.small 0 (2*n) 2=true:=by
     unfold Builtin.Range.small;rw[hsz];have fits:∀i:Int,-(2 ^ 62)≤i→i<2 ^ 62→Builtin.Range.rangeFitsLong i=true:=fun i h1 h2=>by
      unfold Builtin.Range.rangeFitsLong;rw[Xw,decide_eq_true_eq,decide_eq_true_eq]
      lia
     simp only[fits 0 (by lia) (by lia),fits (2*n) (by lia) (by lia),fits 2 (by lia) (by lia),fits n (by lia) (by lia),Bool.true_and,Bool.and_true];rw[if_pos (by decide),fits (2*n+(2-1)) (by lia) (by lia),Bool.or_true]
    refine wpAny_pyIter_range (IsRange.new ..) hsmall ?_;have I2:Inv X pins σ H1 { s1 with heap:=s1.heap.push { cls:=.type "range",data:=.fields #[.int 0 t,.int (2*n) t',.int 2 t''] },toks:=s1.toks }:=I1.kept fun b o e=>Heap.get?_push_of_some _ e;refine⟨(s1.heap.push { cls:=.type "range",data:=.fields #[.int 0 t,.int (2*n) t',.int 2 t''] }).objs.size,[(s1.heap.push { cls:=.type "range",data:=.fields #[.int 0 t,.int (2*n) t',.int 2 t''] }).objs.size],_,_,H1,rfl,
     I2.kept (t':=s1.toks) fun b o e=>Heap.get?_push_of_some _ e,CK _ 0 2 n,?_,fun b hb=>?_,q⟩
    ·show IsRangeIter _ _ (0+((0:Nat):Int)*2) ((n:Int)-((0:Nat):Int)) 2;have e1:(0:Int)+((0:Nat):Int)*2=0:=by simp
     have e2:(n:Int)-((0:Nat):Int)=Builtin.Range.rangeSize 0 (2*n) 2:=by rw[hsz];simp
     rw[e1,e2];exact Heap.get?_push_size _ rfl
    ·have e:b=(s1.heap.push { cls:=.type "range",data:=.fields #[.int 0 t,.int (2*n) t',.int 2 t''] }).objs.size:=by simpa using hb
     subst e;exact I2.fpOk (Nat.le_refl _) (I2.hok.fresh (Nat.le_refl _))
end
section
variable{X:Cx}{pins:List (Addr×Obj)}{σ:St}{H:Hp}{s:Shared}{h':Heap}
theorem Inv.turnedNew{t':Nat}{ch:List Addr}{T:Addr}{o:HO}(I:Inv X pins σ H s)(k:∀b u,b∉ch→s.heap.get? b=some u→h'.get? b=some u)(there:∀b u,s.heap.get? b=some u→∃u',h'.get? b=some u')(hT:s.heap.objs.size≤T)
  (hf:∀b∈ch,vQ X pins H b) (new:dC X.prog X.w (upd H T o) h' T o):Inv X pins σ (upd H T o) { s with heap:=h',toks:=t' }:=by
 have hn:=I.hok.fresh hT;have nit:∀b u,H b=some u→b∉ch:=fun b u e z=>by rw[(hf b z).1]at e;cases e
 refine I.step (g':=s.gens) (d':=s.drawn) (ch:=ch) (fun b hb=>?_) (fun b o _ _ hc e _=>k b o hc e) (fun b o _ _ hc e _=>⟨o.slots,k b o hc e⟩) (fun b u hc e n=>?_) (fun b u hc e=>there b u e)
  (fun b xs e=>?_) (fun b ob u e=>?_) (fun b ps e=>⟨#[],?_⟩) (fun m hm=>?_) (fun b u e=>?_) I.bare
 ·exact⟨(hf b hb).2.2.2.1,(hf b hb).2.1,(hf b hb).2.2.2.2.1,(hf b hb).2.2.2.2.2⟩
 ·rw[aL (Nat.ne_of_lt (Yt (Heap.lt_size e) hT))];exact n
 ·rw[aL (aJ e hn)];exact e
 ·rw[aL (aJ e hn)];exact e
 ·rw[aL (aJ e hn),e];simp
 ·obtain⟨ob,es,ep,ho,r⟩:=hm;exact⟨ob,es,ep,k _ ob (fun z=>(hf _ z).2.1 rfl) ho,r⟩
 ·by_cases hb:b=T
  ·subst hb;rw[aB]at e;cases e;exact new
  ·rw[aL hb]at e;refine(I.hok b u e).stay (fun c v hc q=>k c v ?_ q) (fun c q=>by rw[aL (aJ q hn)];exact q) fun c xs q=>by rw[aL (aJ q hn)];exact q
   rcases hc with z | z
   ·rw[z];exact nit b u e
   ·exact nit c _ z
end
def Ite(K:PySem.W.Frag)(a:Addr):It :=
 ⟨fun i H=>∃xs x,SqL K H a xs∧xs[i]?=some x,fun i H v H'=>∃T x,v=.ref T∧H T=none∧H'=upd H T (.tup [.int i,x])∧∀xs,SqL K H a xs→xs[i]?=some x,fun i H=>∃xs,SqL K H a xs∧xs.length≤i⟩
theorem JR{P:Program}{w:World}{K:PySem.W.Frag}{elts:List Expr}{k:Nat}{pos:Pos}(a e it:Addr)(hei:e≠it):Turn P w K (.Tuple elts k pos) (Ite K a) [e,it] e (fun i h=>(∃old,IsEnum h e it i old)∧h.IsListIter it a i) where
 mem:=by simp
 obj:=fun i h st b hb=>by
  obtain⟨⟨old,he⟩,o,ho,hc,hd⟩:=st;rcases Zn.mp hb with rfl | hb
  ·exact⟨_,he,fun v z=>by
    have z':Data.fields _=Data.cell v:=z;cases z'⟩
  ·have e':=Zb.mp hb;subst e';exact⟨o,ho,fun v z=>by rw[hd]at z;cases z⟩
 keep:=fun i h h' st k=>by
  obtain⟨⟨old,he⟩,hit⟩:=st;exact⟨⟨old,k e (by simp) _ he⟩,hit.at fun o x=>k it (by simp) o x⟩
 item:=by
  intro X hP hw hK hc i pins s σ H E I hf st hg;subst hP hw hK;obtain⟨⟨old,he⟩,hit⟩:=st;obtain⟨xs,x,hq,hx⟩:=hg;obtain⟨its,rv,pl,hz⟩:=I.list hq;obtain⟨u,hu,ru⟩:=rv.get hx;have hux:its.toArray[i]?=some u:=by simpa using hu
  refine wpAny_pyNext_enum_item he hit pl.isList hux hei fun h' ho hit' hT hsz hk=>?_;refine⟨_,rfl,?_⟩;have kk:∀b v,b∉[e,it]→s.heap.get? b=some v→h'.get? b=some v:=fun b v hb q=>hk b v (fun z=>hb (by simp[z])) (fun z=>hb (by simp[z])) q;have th:∀b v,s.heap.get? b=some v→∃v',h'.get? b=some v':=fun b v q=>by
   by_cases h1:b=e
   ·subst h1;exact⟨_,ho⟩
   ·by_cases h2:b=it
    ·subst h2;obtain⟨o,q1,_⟩:=hit';exact⟨_,q1⟩
    ·exact⟨v,hk b v h1 h2 q⟩
  have I1:Inv X pins σ (upd H s.heap.objs.size (.tup [.int i,x])) { s with heap:=h',toks:=s.toks+1 } :=
   I.turnedNew (ch:=[e,it]) kk th (Nat.le_refl _) hf ⟨by show 2≤ZW;decide,[.int i s.toks,u],.cons ⟨_,rfl⟩ (.cons ru .nil),⟨_,hT,rfl,_,rfl⟩⟩
  refine wpAny_letOwnedTupleGo_enum ho fun h2 he2 hs2=>?_;have fe:=hf e (by simp);have fi:=hf it (by simp);have hTe:e≠s.heap.objs.size:=Nat.ne_of_lt (Heap.lt_size he);have hTi:it≠s.heap.objs.size:=by obtain⟨o,q1,_⟩:=hit;exact Nat.ne_of_lt (Heap.lt_size q1)
  have I2:Inv X pins σ (upd H s.heap.objs.size (.tup [.int i,x])) { s with heap:=h2,toks:=s.toks+1 } :=
   Inv.turned (s:={ s with heap:=h',toks:=s.toks+1 }) (h':=h2) (t':=s.toks+1) (it:=e) I1 (fun b o hb q=>(hs2.2 b hb).trans q) (by rw[aL hTe];exact fe.1) fe.2.1 fe.2.2.2.1 fe.2.2.2.2.1 fe.2.2.2.2.2
  refine⟨.ref s.heap.objs.size,_,I2,rfl,⟨s.heap.objs.size,x,rfl,I.fresh,rfl,fun ys hys=>by rw[I.list_inj hys hq];exact hx⟩,⟨⟨_,by simpa using he2⟩,hit'.at fun o q=>(hs2.2 it hei.symm).trans q⟩,fun b hb=>?_⟩;rcases Zn.mp hb with rfl | hb
  ·rw[aL hTe];exact fe.1
  ·have e':=Zb.mp hb;subst e';rw[aL hTi];exact fi.1
 done:=by
  intro X hP hw hK hc i pins s σ H E I hf st hg;subst hP hw hK;obtain⟨⟨old,he⟩,hit⟩:=st;obtain⟨xs,hq,hl⟩:=hg;obtain⟨its,rv,pl,hz⟩:=I.list hq;have hlen:=rv.length;obtain⟨f0,f1,f2,f3,f4,f5⟩:=hf it (by simp);refine wpAny_pyNext_enum_end (I.ok.hd hc) he hit pl.isList (by simp;lia) fun h' eb=>⟨rfl,?_⟩
  exact I.turned (t':=s.toks) (fun b o hb q=>eb b o hb q) f0 f1 f3 f4 f5
 self:=fun _ _ _ _ _ st h=>by
  obtain⟨⟨old,he⟩,_⟩:=st;exact wpAny_pyIter_enum he h
section
variable{X:Cx}
def VA(K:PySem.W.Frag)(ta:TA):TI:=fun σ H R=>ta σ H fun vs H1=>∃a,vs=[.ref a]∧(∃xs,SqL K H1 a xs)∧R (Ite K a) H1
theorem fN{a:Expr}{ta:TA}{p pos:Pos}{elts:List Expr}{k:Nat}{tpos:Pos}(hg:Gl X "enumerate")(hm:X.mg "enumerate" = none)(ha:PA X [a] ta)(hs:starEach [a] X.env=[(false,eval a X.env)]:=by rfl) :
  PI X (.Tuple elts k tpos) (.Call (.Name "enumerate" p) [a] [] pos) (VA X.K ta):=by
 intro pins s σ H R I h;refine Call_ (oB I hg hm (show bootBuiltins "enumerate" = some (.type "enumerate") by decide +kernel) (PyProof.Rows.callWith_type1 (thn (ha pos pins s σ H _ I h) fun us s1 ⟨vs,H1,I1,r1,q1⟩=>?_) hs rfl));obtain⟨l,e,⟨xs,hq⟩,q⟩:=q1;subst e;cases r1 with
 |cons r rr =>
  cases rr;cases r;obtain⟨its,rv,pl,hz⟩:=I1.list hq;refine call_enumerate_list pl.isList fun h' he hit hsz hk=>?_;refine wpAny_pyIter_enum he ?_;have I2:Inv X pins σ H1 { s1 with heap:=h' }:=I1.kept (t':=s1.toks) hk;refine⟨s1.heap.objs.size+1,[s1.heap.objs.size+1,s1.heap.objs.size],_,_,H1,rfl,I2,JR l _ _ (Nat.succ_ne_self _),⟨⟨_,by simpa using he⟩,hit⟩,fun b hb=>?_,q⟩;rcases Zn.mp hb with rfl | hb
  ·exact I1.fpOk (Nat.le_succ _) (I1.hok.fresh (Nat.le_succ _))
  ·have e':=Zb.mp hb;subst e';exact I1.fpOk (Nat.le_refl _) (I1.hok.fresh (Nat.le_refl _))
end
mutual
inductive Bd(K:PySem.W.Frag)(H:Hp):V→PyData→Prop
 |int (i:Int):Bd K H (.int i) (.int i)
 |non:Bd K H .non .none
 |bl (b:Bool):Bd K H (.bl b) (.bool b)
 |lst {a:Addr}{xs:List V}{ds:List PyData}:SqL K H a xs→Bds K H xs ds→Bd K H (.ref a) (.list ds)
 |tup {a:Addr}{xs:List V}{ds:List PyData}:SqT K H a xs→Bds K H xs ds→Bd K H (.ref a) (.tuple ds)
inductive Bds(K:PySem.W.Frag)(H:Hp):List V→List PyData→Prop
 |nil:Bds K H [] []
 |cons {x:V}{xs:List V}{d:PyData}{ds:List PyData}:Bd K H x d→Bds K H xs ds→Bds K H (x::xs) (d::ds)
end
theorem Bds.ints{K:PySem.W.Frag}{H:Hp}:∀ns:List Int,Bds K H (ns.map V.int) (ns.map PyData.int)
 |[]=>.nil
 |n::ns=>.cons (.int n) (Bds.ints ns)
section
variable{X:Cx}{pins:List (Addr×Obj)}{σ:St}{H:Hp}{s:Shared}
mutual
theorem Bd.reads(I:Inv X pins σ H s):∀{x:V}{d:PyData}{u:Value},Bd X.K H x d→RelV x u→∃as,Reads s.heap u d as
 |_,_,u,.int i,r=>by obtain⟨t,rfl⟩:=r;exact⟨_,.int i t⟩
 |_,_,u,.non,r=>by cases r;exact⟨_,.none⟩
 |_,_,u,.bl b,r=>by cases r;exact⟨_,.bool b⟩
 |_,_,u,.lst hq b,r=>by
  cases r;obtain⟨its,rv,⟨o,n,e,hc,_,hd⟩,hz⟩:=I.list hq;obtain⟨as,h⟩:=Bds.reads I b rv;exact⟨_,.list e hc hd (by simpa using h)⟩
 |_,_,u,.tup hq b,r=>by
  cases r;obtain⟨its,rv,⟨o,e,hc,n,hd⟩,hz⟩:=I.tuple hq;obtain⟨as,h⟩:=Bds.reads I b rv;exact⟨_,.tuple e hc hd (by simpa using h)⟩
theorem Bds.reads(I:Inv X pins σ H s):∀{xs:List V}{ds:List PyData}{us:List Value},Bds X.K H xs ds→bY xs us→∃as,ReadsAll s.heap us ds as
 |_,_,_,.nil,r=>by cases r;exact⟨_,.nil⟩
 |_,_,_,.cons b bs,r=>by
  cases r with
  |cons r rr =>
   obtain⟨as,h⟩:=Bd.reads I b r;obtain⟨bs',h'⟩:=Bds.reads I bs rr;exact⟨_,.cons h h'⟩
end
end
section
variable{X:Cx}
def UW(K:PySem.W.Frag)(neg:Bool):R2:=fun x y H Q=>∃dx dy,Bd K H x dx∧Bd K H y dy∧SeqAt.shaped dx=true∧SeqAt.shaped dy=true∧Q (.bl (PyData.eqv dx dy ^^ neg)) H
theorem SG(hu:X.A.units+64<cLine):OpR X (compareOp .Eq) (UW X.K false):=by
 intro pins s σ H x y v u Q I rx ry h;obtain⟨dx,dy,bx,b_y,sx,sy,q⟩:=h;obtain⟨as,r1⟩:=bx.reads I rx;obtain⟨bs,r2⟩:=b_y.reads I ry;exact eq_dataH r1 r2 sx sy hu ⟨.bl _,H,I,rfl,by simpa using q⟩
theorem qO(hu:X.A.units+64<cLine):OpR X (compareOp .NotEq) (UW X.K true):=by
 intro pins s σ H x y v u Q I rx ry h;obtain⟨dx,dy,bx,b_y,sx,sy,q⟩:=h;obtain⟨as,r1⟩:=bx.reads I rx;obtain⟨bs,r2⟩:=b_y.reads I ry;exact ne_dataH r1 r2 sx sy hu ⟨.bl _,H,I,rfl,by simpa using q⟩
end
section
variable{X:Cx}
end
end L2
namespace L2
open PySem PySem.Spec PyProof.Rows
theorem eZ{c:Bool}{A B:Prop}(hc:c=false)(h:B):if c=true then A else B:=by subst hc;exact dX h
theorem eV{c:Bool}{A B:Prop}(hc:c=true)(h:A):if c=true then A else B:=by subst hc;exact gO h
theorem aI{H:Hp}{p:Addr}(h:H p=none)(o:HO):aW H (upd H p o):=fun b u q=>by rw[aL (aJ q h)];exact q
theorem aW.tup{K:PySem.W.Frag}{H H':Hp}{a:Addr}{xs:List V}(e:aW H H')(h:SqT K H a xs):SqT K H' a xs:=by
 rcases h with(h | ⟨o,h⟩) | h
 ·exact .inl (.inl (e _ _ h))
 ·exact .inl (.inr ⟨o,e _ _ h⟩)
 ·exact .inr h
section
variable{X:Cx}{K:PySem.W.Frag}
theorem sI(h:X.K=K):IxR X (R0 K):=by subst h;exact aV
theorem BS(h:X.K=K):IxR X (RZ K):=by subst h;exact aU
theorem KP(h:X.K=K):fC X (.builtin "len") (fun xs H Q=>∃p ys,xs=[.ref p]∧(SqL K H p ys∨SqT K H p ys)∧Q (.int ys.length) H):=by subst h;exact aO
theorem xS(h:X.K=K):fC X (.type "list") (fun xs H Q=>∃p ys,xs=[.ref p]∧(SqL K H p ys∨SqT K H p ys)∧∀l,H l=none→Q (.ref l) (upd H l (.lst ys))):=by subst h;exact fH
theorem KM(h:X.K=K):OpR X (compareOp .NotIn) (rIn K true):=by subst h;exact rY
theorem mD{es:List Expr}{k:Nat}{t:TGs}{n:Nat}{pos:Pos}(e:X.K=K)(hc:X.calm=true)(h:PGs X es t)
  (hn:(assignEach es X.env).length=n:=by rfl) (hst:(assignEach es X.env).findIdx? (·.1)=none:=by rfl):PG X (.Tuple es k pos) (VC K n t):=by subst e;exact dU hc h hn hst
end
end L2
namespace MM
def oth(e:Nat):Nat:=if e%2=0 then e+1 else e-1
theorem fR{n e:Nat}(h:e<2*n):oth e<2*n:=by unfold oth;split<;>omega
theorem DC(e:Nat):oth e / 2=e / 2:=by unfold oth;split<;>lia
theorem HR(e:Nat):oth e%2=1-e%2:=by unfold oth;split<;>lia
theorem DT{a b:Nat}(h1:a / 2=b / 2)(h2:a%2=b%2):a=b:=by rw[←Nat.div_add_mod a 2,←Nat.div_add_mod b 2,h1,h2]
theorem HQ(e:Nat):oth (oth e)=e:=DT (by rw[DC,DC]) (by rw[HR,HR];exact Nat.sub_sub_self (Nat.le_of_lt_succ (Nat.mod_lt e (Nat.zero_lt_succ 1))))
theorem PZ{a b:Nat}(h:oth a=oth b):a=b:=by rw[←HQ a,←HQ b,h]
theorem uS:∀(N:Nat) (l:List Nat),l.Nodup→(∀x∈l,x<N)→l.length≤N
 |0,[],_,_=>Nat.le_refl _
 |0,x::_,_,h=>absurd (h x Zd) (Nat.not_lt_zero _)
 |N+1,l,nd,h=>by
  have ih:=uS N (l.erase N) (nd.erase N) (fun x hx=>by
   have h1:=(nd.mem_erase_iff).mp hx;have h2:=h x h1.2
   lia)
  have hl:=List.length_erase (a:=N) (l:=l);split at hl<;>lia
def iter(f:Nat→Nat):Nat→Nat→Nat
 |0,e=>e
 |n+1,e=>f (iter f n e)
structure fL(f:Nat→Nat)(N:Nat):Prop where
 lt:∀e,e<N→f e<N
 inj:∀a b,a<N→b<N→f a=f b→a=b
theorem kE{f:Nat→Nat}{N:Nat}(m:fL f N){e:Nat}(h:e<N):∀k,iter f k e<N
 |0=>h
 |k+1=>m.lt _ (kE m h k)
theorem lG(f:Nat→Nat)(e:Nat)(i:Nat):∀k,iter f (i+k) e=iter f k (iter f i e)
 |0=>rfl
 |k+1=>by show f (iter f (i+k) e)=f (iter f k (iter f i e));rw[lG f e i k]
theorem DR{f:Nat→Nat}{N:Nat}(m:fL f N){a b:Nat}(ha:a<N)(hb:b<N):∀k,iter f k a=iter f k b→a=b
 |0,h=>h
 |k+1,h=>DR m ha hb k (m.inj _ _ (kE m ha k) (kE m hb k) h)
def path(f:Nat→Nat)(e k:Nat):List Nat:=(List.range k).map fun i=>iter f i e
theorem nU(f:Nat→Nat)(e k:Nat):(path f e k).length=k:=by unfold path;simp
theorem tV(f:Nat→Nat)(e k:Nat):path f e (k+1)=path f e k++[iter f k e]:=by unfold path;rw[List.range_succ,Zt];rfl
theorem xM{f:Nat→Nat}{e k x:Nat}:x∈path f e k↔∃i,i<k∧iter f i e=x:=by
 unfold path;simp[Zh,Zs]
theorem qN{f:Nat→Nat}{N:Nat}(m:fL f N){e:Nat}(he:e<N):∀k,(∀j,0<j→j<k→iter f j e≠e)→(path f e k).Nodup
 |0,_=>List.nodup_nil
 |k+1,h=>by
  rw[tV];have ih:=qN m he k (fun j h0 h1=>h j h0 (by lia));rw[List.nodup_append];refine⟨ih,by simp,?_⟩;intro a ha b hb e1;have hb':b=iter f k e:=by simpa using hb
  obtain⟨i,hi,rfl⟩:=xM.mp ha;have q:iter f i e=iter f k e:=e1.trans hb';have hk:k=(k-i)+i:=by lia
  have q2:iter f i e=iter f i (iter f (k-i) e):=by
   rw[←lG,Nat.sub_add_cancel (Nat.le_of_lt hi)];exact q
  have q3:=DR m he (kE m he _) i q2;exact h (k-i) (by lia) (by lia) q3.symm
theorem HP{f:Nat→Nat}{N:Nat}(m:fL f N){e:Nat}(he:e<N)(k:Nat):∀x∈path f e k,x<N:=fun x hx=>by
 obtain⟨i,_,rfl⟩:=xM.mp hx;exact kE m he i
theorem vD{f:Nat→Nat}{N:Nat}(m:fL f N){e:Nat}(he:e<N):∃k,0<k∧k≤N∧iter f k e=e:=by
 refine ZS fun h=>?_;have no:∀j,0<j→j<N+1→iter f j e≠e:=fun j h0 h1 q=>h ⟨j,h0,by lia,q⟩;have nd:=qN m he (N+1) no;have b:=uS N _ nd (HP m he _);rw[nU]at b
 lia
def tD(f:Nat→Nat)(e k:Nat):Prop:=0<k∧iter f k e=e∧∀j,0<j→j<k→iter f j e≠e
theorem MU{f:Nat→Nat}{N:Nat}(m:fL f N){e:Nat}(he:e<N):∃k,tD f e k∧k≤N:=by
 obtain⟨k,h0,h1,h2⟩:=vD m he;have:∀n k,k≤n→0<k→iter f k e=e→∃k',tD f e k'∧k'≤k:=by
  intro n;induction n with
  |zero=>intro k h1 h2;lia
  |succ n ih =>
   intro k h1 h2 h3;by_cases q:∃j,0<j∧j<k∧iter f j e=e
   ·obtain⟨j,j0,j1,j2⟩:=q;obtain⟨k',r,l⟩:=ih j (by lia) j0 j2;exact⟨k',r,by lia⟩
   ·exact⟨k,⟨h2,h3,fun j j0 j1 j2=>q ⟨j,j0,j1,j2⟩⟩,Nat.le_refl _⟩
 obtain⟨k',r,l⟩:=this k k (Nat.le_refl _) h0 h2;exact⟨k',r,by lia⟩
theorem FN{f:Nat→Nat}{e k k':Nat}(a:tD f e k)(b:tD f e k'):k=k':=by
 rcases Nat.lt_trichotomy k k' with h | h | h
 ·exact absurd a.2.1 (b.2.2 k a.1 h)
 ·exact h
 ·exact absurd b.2.1 (a.2.2 k' b.1 h)
theorem wX{f:Nat→Nat}{e k j:Nat}(r:tD f e k)(h0:0<j)(hj:j≤k)(h:iter f j e≠e):j<k:=by
 rcases Xq j k with q | q
 ·exact q
 ·have:j=k:=by lia
  subst this;exact absurd r.2.1 h
abbrev b9:=List (Nat×Nat)
abbrev bU:=List (List Nat)
def place(ts:b9)(e:Nat):Nat:=if e%2=0 then (ts.getD (e / 2) (0,0)).1 else (ts.getD (e / 2) (0,0)).2
def row(os:bU)(p:Nat):List Nat:=os.getD p []
structure qB(pl:Nat→Nat)(M:Nat)(os:bU):Prop where
 ends:∀p e,e∈row os p→e<M∧pl e=p
 has:∀e,e<M→pl e<os.length∧e∈row os (pl e)
 nd:∀p,(row os p).Nodup
 full:∀p,p<os.length→row os p≠[]
 four:∀p,(row os p).length≤4
structure Good(ts:b9)(os:bU):Prop where
 g:qB (place ts) (2*ts.length) os
 one:1≤ts.length
theorem qB.congr{pl pl':Nat→Nat}{M:Nat}{os:bU}(g:qB pl M os)(h:∀e,e<M→pl' e=pl e):qB pl' M os where
 ends:=fun p e he=>by
  have q:=g.ends p e he;exact⟨q.1,(h e q.1).trans q.2⟩
 has:=fun e he=>by rw[h e he];exact g.has e he
 nd:=g.nd
 full:=g.full
 four:=g.four
theorem cJ{os:bU}{a:Nat}{l:List Nat}(h:a<os.length):row (os.set a l) a=l:=by
 unfold row;simp[List.getD,h]
theorem dJ{os:bU}{a p:Nat}{l:List Nat}(h:p≠a):row (os.set a l) p=row os p:=by
 unfold row;simp[List.getD,List.getElem?_set_ne (Ne.symm h)]
theorem qB.add{pl:Nat→Nat}{M:Nat}{os:bU}(g:qB pl M os){a:Nat}(ha:a<os.length)(hp:pl M=a){l:List Nat}(hm:∀x,x∈l↔x=M∨x∈row os a)(hn:l.Nodup)(h4:l.length≤4):qB pl (M+1) (os.set a l) where
 ends:=fun p e he=>by
  by_cases hpa:p=a
  ·subst hpa;rw[cJ ha]at he;rcases(hm e).mp he with rfl | he
   ·exact⟨Nat.lt_succ_self _,hp⟩
   ·have q:=g.ends _ e he;exact⟨by lia,q.2⟩
  ·rw[dJ hpa]at he;have q:=g.ends p e he;exact⟨by lia,q.2⟩
 has:=fun e he=>by
  rw[List.length_set];rcases Xq e M with h | h
  ·have q:=g.has e h;refine⟨q.1,?_⟩;by_cases hpa:pl e=a
   ·rw[hpa,cJ ha];exact(hm e).mpr (.inr (hpa▸q.2))
   ·rw[dJ hpa];exact q.2
  ·have e':e=M:=by lia
   subst e';rw[hp,cJ ha];exact⟨ha,(hm e).mpr (.inl rfl)⟩
 nd:=fun p=>by
  by_cases hpa:p=a
  ·subst hpa;rw[cJ ha];exact hn
  ·rw[dJ hpa];exact g.nd p
 full:=fun p hp'=>by
  rw[List.length_set]at hp';by_cases hpa:p=a
  ·subst hpa;rw[cJ ha];intro z;have:M∈l:=(hm M).mpr (.inl rfl);rw[z]at this;cases this
  ·rw[dJ hpa];exact g.full p hp'
 four:=fun p=>by
  by_cases hpa:p=a
  ·subst hpa;rw[cJ ha];exact h4
  ·rw[dJ hpa];exact g.four p
theorem rR{os:bU}{l:List Nat}(p:Nat):row (os++[l]) p=if p=os.length then l else row os p:=by
 unfold row;rcases Nat.lt_trichotomy p os.length with h | h | h
 ·rw[if_neg (by lia)];simp[List.getD,Zx h]
 ·subst h;simp[List.getD]
 ·rw[if_neg (by lia)];have h1:(os++[l])[p]?=none:=Zr (by rw[Zm];simp;lia);have h2:os[p]?=none:=Zr (by lia);simp[List.getD,h1,h2]
theorem qB.new{pl:Nat→Nat}{M:Nat}{os:bU}(g:qB pl M os)(hp:pl M=os.length):qB pl (M+1) (os++[[M]]) where
 ends:=fun p e he=>by
  rw[rR]at he;split at he
  ·rename_i h
   have e':e=M:=by simpa using he
   subst e';exact⟨Nat.lt_succ_self _,by rw[hp,h]⟩
  ·have q:=g.ends p e he;exact⟨by lia,q.2⟩
 has:=fun e he=>by
  rw[Zm,rR];rcases Xq e M with h | h
  ·have q:=g.has e h;rw[if_neg (by lia)];exact⟨by simp;lia,q.2⟩
  ·have e':e=M:=by lia
   subst e';rw[if_pos hp];exact⟨by simp;lia,by simp⟩
 nd:=fun p=>by
  rw[rR];split
  ·simp
  ·exact g.nd p
 full:=fun p hp'=>by
  rw[rR];split
  ·simp
  ·rw[Zm]at hp';simp at hp';exact g.full p (by lia)
 four:=fun p=>by
  rw[rR];split
  ·simp
  ·exact g.four p
def nP(l:List Nat)(x:Nat):Nat:=l.getD ((l.idxOf x+l.length-1)%l.length) 0
theorem FO{l:List Nat}{x:Nat}(h:x∈l):nP l x∈l:=by
 have h1:=List.idxOf_lt_length_of_mem h;have h2:(l.idxOf x+l.length-1)%l.length<l.length:=Nat.mod_lt _ (by lia);unfold nP;simp only[List.getD,Zz h2,Option.getD_some];exact Zp h2
theorem PR{i j n:Nat}(hi:i<n)(hj:j<n)(h:(i+n-1)%n=(j+n-1)%n):i=j:=by
 have f:∀k,k<n→(((k+n-1)%n)+1)%n=k:=fun k hk=>by
  rw[Nat.mod_add_mod,Nat.sub_add_cancel (Yr (Nat.succ_le_of_lt (Ys (Nat.zero_le k) hk)) (Nat.le_add_left n k)),Nat.add_mod_right,Nat.mod_eq_of_lt hk]
 rw[←f i hi,←f j hj,h]
theorem FP{l:List Nat}(nd:l.Nodup){x y:Nat}(hx:x∈l)(hy:y∈l)(h:nP l x=nP l y):x=y:=by
 have h1:=List.idxOf_lt_length_of_mem hx;have h2:=List.idxOf_lt_length_of_mem hy;have m1:(l.idxOf x+l.length-1)%l.length<l.length:=Nat.mod_lt _ (by lia);have m2:(l.idxOf y+l.length-1)%l.length<l.length:=Nat.mod_lt _ (by lia);unfold nP at h;simp only[List.getD,Zz m1,Zz m2,Option.getD_some]at h;have e:=(List.getElem_inj nd).mp h;have e':=PR h1 h2 e;have g1:l[l.idxOf x]=x:=List.getElem_idxOf h1;have g2:l[l.idxOf y]=y:=List.getElem_idxOf h2;rw[←g1,←g2];simp only[e']
def behind(ts:b9)(os:bU)(e:Nat):Nat:=nP (row os (place ts (oth e))) (oth e)
theorem Good.behind{ts:b9}{os:bU}(g:Good ts os){e:Nat}(he:e<2*ts.length):behind ts os e<2*ts.length∧place ts (behind ts os e)=place ts (oth e):=by
 have h:=g.g.has (oth e) (fR he);exact g.g.ends _ _ (FO h.2)
theorem Good.maps{ts:b9}{os:bU}(g:Good ts os):fL (MM.behind ts os) (2*ts.length) where
 lt:=fun e he=>(g.behind he).1
 inj:=fun a b ha hb h=>by
  have pa:=(g.behind ha).2;have pb:=(g.behind hb).2;rw[h,pb]at pa;have ma:=(g.g.has (oth a) (fR ha)).2;have mb:=(g.g.has (oth b) (fR hb)).2;unfold MM.behind at h;rw[←pa]at h ma;exact PZ (FP (g.g.nd _) ma mb h)
end MM
namespace MM
open Classical in
noncomputable def per(f:Nat→Nat)(e:Nat):Nat:=if h:∃k,tD f e k then Classical.choose h else 1
noncomputable def bK(f:Nat→Nat)(e:Nat):List Nat:=path f e (per f e)
theorem SB{f:Nat→Nat}{e k:Nat}(r:tD f e k):per f e=k:=by
 unfold per;rw[dif_pos ⟨k,r⟩];exact FN (Classical.choose_spec (⟨k,r⟩:∃k,tD f e k)) r
theorem gW{f:Nat→Nat}{N:Nat}(m:fL f N){e:Nat}(he:e<N):tD f e (per f e)∧per f e≤N:=by
 obtain⟨k,r,l⟩:=MU m he;rw[SB r];exact⟨r,l⟩
theorem xT{f:Nat→Nat}{e k:Nat}(h:iter f k e=e):∀n,iter f (k*n) e=e
 |0=>rfl
 |n+1=>by rw[Nat.mul_succ,Nat.add_comm,lG,h];exact xT h n
theorem NW{f:Nat→Nat}{e k:Nat}(h:iter f k e=e)(j:Nat):iter f j e=iter f (j%k) e:=by
 have e1:j=k*(j / k)+j%k:=(Nat.div_add_mod j k).symm;have e2:iter f j e=iter f (k*(j / k)+j%k) e:=congrArg (fun z=>iter f z e) e1;rw[e2,lG,xT h]
theorem kZ{f:Nat→Nat}{N:Nat}(m:fL f N){x y:Nat}(hx:x<N):y∈bK f x↔∃k,iter f k x=y:=by
 obtain⟨r,_⟩:=gW m hx;unfold bK;rw[xM];constructor
 ·rintro⟨i,_,h⟩;exact⟨i,h⟩
 ·rintro⟨k,h⟩;exact⟨k%per f x,Nat.mod_lt _ r.1,by rw[←NW r.2.1];exact h⟩
theorem zM{f:Nat→Nat}{N:Nat}(m:fL f N){x:Nat}(hx:x<N):x∈bK f x:=(kZ m hx).mpr ⟨0,rfl⟩
theorem sH{f:Nat→Nat}{N:Nat}(m:fL f N){x:Nat}(hx:x<N):∀y∈bK f x,y<N:=HP m hx _
theorem xR{f:Nat→Nat}{N:Nat}(m:fL f N){x:Nat}(hx:x<N):(bK f x).Nodup:=qN m hx _ (gW m hx).1.2.2
theorem DM{f:Nat→Nat}{N:Nat}(m:fL f N){x:Nat}(hx:x<N):0<(bK f x).length∧(bK f x).length≤N:=by
 unfold bK;rw[nU];exact⟨(gW m hx).1.1,(gW m hx).2⟩
theorem KL{f:Nat→Nat}{N:Nat}(m:fL f N){x y:Nat}(hx:x<N)(h:y∈bK f x):x∈bK f y:=by
 have hy:=sH m hx y h;obtain⟨k,rfl⟩:=(kZ m hx).mp h;obtain⟨r,_⟩:=gW m hx;refine(kZ m hy).mpr ⟨per f x*(k+1)-k,?_⟩;have hk:k≤per f x*(k+1):=by
  have:=Nat.le_mul_of_pos_left (k+1) r.1
  lia
 rw[←lG,Nat.add_sub_cancel' hk];exact xT r.2.1 _
theorem GE{f:Nat→Nat}{N:Nat}(m:fL f N){x y z:Nat}(hx:x<N)(h1:y∈bK f x)(h2:z∈bK f y):z∈bK f x:=by
 have hy:=sH m hx y h1;obtain⟨k,rfl⟩:=(kZ m hx).mp h1;obtain⟨j,rfl⟩:=(kZ m hy).mp h2;exact(kZ m hx).mpr ⟨k+j,lG f x k j⟩
noncomputable def fV(f:Nat→Nat):Nat→List Nat→List (List Nat)
 |0,_=>[]
 |_,[]=>[]
 |n+1,e::r=>bK f e::fV f n ((e::r).filter fun x=>decide (x∉bK f e))
theorem iF(f:Nat→Nat)(n:Nat):fV f n []=[]:=by cases n<;>rfl
theorem eK{f:Nat→Nat}{N:Nat}(m:fL f N){e:Nat}(he:e<N)(r:List Nat):((e::r).filter fun x=>decide (x∉bK f e)).length≤r.length:=by
 rw[List.filter_cons,if_neg (by simp[zM m he])];exact List.length_filter_le _ _
theorem oF{f:Nat→Nat}{N:Nat}(m:fL f N):∀(n:Nat) (k:Nat) (l:List Nat),(∀x∈l,x<N)→l.length≤n→l.length≤k→fV f n l=fV f k l
 |0,k,l,_,h,_=>by
  have e:l=[]:=Yg.mp (by lia);subst e;rw[iF,iF]
 |n+1,k,[],_,_,_=>by rw[iF,iF]
 |n+1,0,e::r,_,_,h=>by simp at h
 |n+1,k+1,e::r,hl,h1,h2=>by
  have he:=hl e Zd;have s:=eK m he r;simp only[Yq]at h1 h2;show bK f e::fV f n _=bK f e::fV f k _;rw[oF m n k _ (fun x hx=>hl x (Yz.mp hx).1) (by lia) (by lia)]
noncomputable def lf(f:Nat→Nat)(l:List Nat):List (List Nat):=fV f l.length l
theorem NU(f:Nat→Nat):lf f []=[]:=rfl
theorem pM{f:Nat→Nat}{N:Nat}(m:fL f N){e:Nat}{r:List Nat}(hl:∀x∈e::r,x<N):lf f (e::r)=bK f e::lf f ((e::r).filter fun x=>decide (x∉bK f e)):=by
 unfold lf;show bK f e::fV f r.length _=_;rw[oF m r.length _ _ (fun x hx=>hl x (Yz.mp hx).1) (eK m (hl e Zd) r) (Nat.le_refl _)]
noncomputable def cF(f:Nat→Nat)(N:Nat):List (List Nat):=lf f (List.range N)
theorem BQ{f:Nat→Nat}{N:Nat}(m:fL f N):∀(n:Nat) (l:List Nat),l.length≤n→(∀x∈l,x<N)→∀d∈lf f l,∃e∈l,d=bK f e
 |0,l,h,_,d,hd=>by
  have e:l=[]:=Yg.mp (by lia);subst e;cases hd
 |n+1,[],_,_,d,hd=>by cases hd
 |n+1,e::r,h,hl,d,hd=>by
  rw[pM m hl]at hd;rcases Zn.mp hd with rfl | hd
  ·exact⟨e,Zd,rfl⟩
  ·have s:=eK m (hl e Zd) r;simp only[Yq]at h;obtain⟨x,hx,q⟩:=BQ m n _ (by lia) (fun x hx=>hl x (Yz.mp hx).1) d hd;exact⟨x,(Yz.mp hx).1,q⟩
theorem BR{f:Nat→Nat}{N:Nat}(m:fL f N):∀(n:Nat) (l:List Nat),l.length≤n→(∀x∈l,x<N)→(lf f l).length≤l.length
 |0,l,h,_=>by
  have e:l=[]:=Yg.mp (by lia);subst e;exact Nat.le_refl _
 |n+1,[],_,_=>Nat.le_refl _
 |n+1,e::r,h,hl=>by
  rw[pM m hl];have s:=eK m (hl e Zd) r;simp only[Yq]at h ⊢;have ih:=BR m n _ (Yr s (by lia)) (fun x hx=>hl x (Yz.mp hx).1)
  lia
theorem GA{f:Nat→Nat}{N:Nat}(m:fL f N):∀(n:Nat) (l:List Nat),l.length≤n→(∀x∈l,x<N)→∀x∈l,∃(k:Nat) (d:List Nat),(lf f l)[k]?=some d∧x∈d∧∀(j:Nat) (d':List Nat),(lf f l)[j]?=some d'→x∈d'→j=k
 |0,l,h,_,x,hx=>by
  have e:l=[]:=Yg.mp (by lia);subst e;cases hx
 |n+1,[],_,_,x,hx=>by cases hx
 |n+1,e::r,h,hl,x,hx=>by
  have he:=hl e Zd;have hxN:=hl x hx;have s:=eK m he r;simp only[Yq]at h;rw[pM m hl];by_cases q:x∈bK f e
  ·refine⟨0,_,rfl,q,fun j d' hj hd=>?_⟩;cases j with
   |zero=>rfl
   |succ j =>
    rw[List.getElem?_cons_succ]at hj;obtain⟨y,hy,rfl⟩:=BQ m _ _ (Nat.le_refl _) (fun z hz=>hl z (Yz.mp hz).1) d' (Zg hj);obtain⟨hy1,hy2⟩:=Yz.mp hy;have hy2':y∉bK f e:=by simpa using hy2
    exact absurd (GE m he q (KL m (hl y hy1) hd)) hy2'
  ·have hx':x∈(e::r).filter fun z=>decide (z∉bK f e):=Yz.mpr ⟨hx,by simpa using q⟩;obtain⟨k,d,h1,h2,h3⟩:=GA m n _ (by lia) (fun z hz=>hl z (Yz.mp hz).1) x hx';refine⟨k+1,d,by rw[List.getElem?_cons_succ];exact h1,h2,fun j d' hj hd=>?_⟩;cases j with
   |zero =>
    rw[List.getElem?_cons_zero]at hj;cases hj;exact absurd hd q
   |succ j =>
    rw[List.getElem?_cons_succ]at hj;rw[h3 j d' hj hd]
end MM
set_option Elab.async false
set_option linter.all false
set_option maxRecDepth 100000
set_option maxHeartbeats 4000000
namespace L2
open PySem PySem.Spec PyProof.Rows
abbrev vn(n:Nat):V:=.int (n:Int)
abbrev vns(l:List Nat):List V:=l.map vn
section
variable{X:Cx}
def R1:V→List V→Hp→VK→Prop:=fun x vs H Q=>∃(l:Addr) (ns:List Nat) (v:Nat),x=.ref l∧vs=[vn v]∧H l=some (.lst (vns ns))∧v∈ns∧Q (vn (ns.idxOf v)) H
theorem nY:MtM X "list.index" R1:=by
 intro pins s σ H x vs v us Q I rx rv h;obtain⟨l,ns,k,rfl,rfl,hH,hm,q⟩:=h;cases rx;obtain⟨u,rfl,t,rfl⟩:=rv.one;obtain⟨z,its,n,r,hl,e⟩:=I.lstM hH;have hlen:its.length=ns.length:=by rw[←hl];simp
 have hj:ns.idxOf k<ns.length:=List.idxOf_lt_length_of_mem hm;have item:∀(m:Nat) (hm:m<its.toArray.size),eqU (vn k) its.toArray[m]=(ns[m]'(by simpa[hlen] using hm)==k):=fun m hm'=>by
  have hm2:m<ns.length:=by simpa[hlen] using hm'
  have hx:(vns ns)[m]?=some (vn ns[m]):=by rw[Zk,Zz hm2];rfl
  obtain⟨u',hu',ru'⟩:=r.get hx;have e1:its.toArray[m]=u':=by
   have:its[m]?=some its.toArray[m]:=by simp at hm' ⊢
   rw[this]at hu';exact Option.some.inj hu'
  rw[e1,GP ru' rfl];show((ns[m]:Int)==(k:Int))=(ns[m]==k)
  rw[Xx];simp only[beq_iff_eq]
  lia
 have hsm:((ns.idxOf k:Nat):Int)<2 ^ 63-1:=by
  have h1:=mC;have h2:(vns ns).length=ns.length:=by simp
  lia
 refine call_meets F.slot_list_index ⟨_,e,rfl⟩ F.entry_list_index (F.args_list_index_2 _ _) (SeqAt.list_indexAt l its.toArray n none #[] (.int k t) (eqU (vn k)) (ns.idxOf k) (by simpa[hlen] using hj) hsm ?_ ?_) ⟨e,fun y hy=>?_,?_⟩
 ·rw[item];simp
 ·intro m hm' hlt;rw[item];have:=List.not_of_lt_findIdx (p:=(·==k)) (xs:=ns) (i:=m) hlt;simpa using this
 ·have fl:(vns ns).all oK=true:=by rw[List.all_eq_true];intro y hy;obtain⟨n,_,rfl⟩:=Zh.mp hy;rfl
  exact lB (x:=vn k) ⟨t,rfl⟩ rfl r fl y (by simpa using hy)
 ·exact⟨vn (ns.idxOf k),H,I.tok _,⟨_,rfl⟩,q⟩
def bM{α:Type}(l:List α)(i:Nat)(x:α):List α:=l.take i++x::l.drop i
def PM:V→List V→Hp→VK→Prop:=fun x vs H Q=>∃(l:Addr) (xs:List V) (i:Nat) (y:V),x=.ref l∧vs=[vn i,y]∧H l=some (.lst xs)∧i≤xs.length∧xs.length<ZW∧Q .non (upd H l (.lst (bM xs i y)))
theorem kY:MtM X "list.insert" PM:=by
 intro pins s σ H x vs v us Q I rx rv h;obtain⟨l,xs,i,y,rfl,rfl,hH,hi,hz,q⟩:=h;cases rx;obtain⟨u1,u2,rfl,⟨t,rfl⟩,r2⟩:=rv.two;obtain⟨z,its,n,r,hl,e⟩:=I.lstM hH;have hfit:Builtin.List.listFitsIndex (i:Int)=true:=by
  unfold Builtin.List.listFitsIndex;have:=mC;simp only[Xw,decide_eq_true_eq]
  lia
 have hc0:¬(!Builtin.List.listFitsIndex (i:Int))=true:=by rw[hfit];exact Bool.false_ne_true
 have hz1:its.toArray.size≤ZW:=by rw[List.size_toArray];lia
 obtain⟨w,hw⟩:∃w:Int,w=(i:Int):=⟨_,rfl⟩
 rw[←hw]at hc0;have mm:=PySem.AutoSeq1.list_insert_list_int_val_1 l its.toArray n w t u2 hc0 hz1;rw[←hw];refine call_meets F.slot_list_insert ⟨_,e,rfl⟩ F.entry_list_insert (F.args_list_insert_3 _ _ _) mm ⟨e,?_⟩;refine⟨.non,_,I.lset (its':=bM its i u2) (ys:=bM xs i y) (t':=s.toks) hH e ?_ ?_ ?_,rfl,q⟩
 ·have hk:(if w<0 then (w+(its.toArray.size:Int)).toNat else min w.toNat its.toArray.size)=i:=by
   rw[if_neg (by lia),List.size_toArray]
   lia
  show(its.toArray.extract 0 (if w<0 then (w+(its.toArray.size:Int)).toNat else min w.toNat its.toArray.size)).push u2++its.toArray.extract (if w<0 then (w+(its.toArray.size:Int)).toNat else min w.toNat its.toArray.size)=_;rw[hk];unfold bM;simp;exact List.take_of_length_le (by simp)
 ·unfold bM;exact bY.append (r.take _) (.cons r2 (r.drop _))
 ·unfold bM;rw[Zm,Yq,Yw,Yd]
  lia
theorem A6:∀{xs:List V}{us:List Value},xs.length=us.length→(∀(j:Nat) x u,xs[j]?=some x→us[j]?=some u→RelV x u)→bY xs us
 |[],[],_,_=>.nil
 |x::xs,u::us,hl,h=>.cons (h 0 x u rfl rfl) (A6 (by simpa using hl) fun j y v h1 h2=>h (j+1) y v (by simpa using h1) (by simpa using h2))
theorem EL:fC X (.type "range") (fun xs H Q=>∃j:Int,xs=[.int j]∧∀p,H p=none→Q (.ref p) (upd H p (.rng 0 j))):=by
 intro pins s σ H xs us Q I r h;obtain⟨j,rfl,q⟩:=h;obtain⟨u,rfl,t,rfl⟩:=vals1 r;refine call_range_1 ?_;refine⟨.ref s.heap.objs.size,_,I.laid (o:=.rng 0 j) (fun b o e=>Heap.get?_push_of_some _ e) (Nat.le_refl _) ⟨_,_,_,Heap.get?_push_size _ rfl⟩,rfl,q _ I.fresh⟩
theorem zD(hc:X.calm=true):fC X (.type "list") (fun xs H Q=>∃(p:Addr) (n:Nat),xs=[.ref p]∧H p=some (.rng 0 n)∧n≤10000∧∀l,H l=none→Q (.ref l) (upd H l (.lst (vns (List.range n))))):=by
 intro pins s σ H xs us Q I r h;obtain⟨p,n,rfl,hp,hn,q⟩:=h;obtain⟨u,rfl,rx⟩:=vals1 r;cases rx;obtain⟨t,u,v,e⟩:=(show dC X.prog X.w H s.heap p (.rng 0 n) from I.hok p _ hp)
 have hsz:Builtin.Range.rangeSize 0 (n:Int) 1=n:=by rw[rangeSize_one];split<;>lia
 refine call_list_range (I.ok.hd hc) (show IsRange s.heap p 0 n 1 t u v from e) (small_one (by lia) (by lia) (by lia) (by lia)) hsz (by lia) fun h' tk acc c' k e' it=>?_;have hv:bY (vns (List.range n)) acc.toList:=by
  refine A6 (by simp[it.1]) fun j x u hx hu=>?_;rw[Zk]at hx;obtain⟨m,hm,rfl⟩:=Xz.mp hx;obtain⟨hj,rfl⟩:=Zj.mp hm;obtain⟨t,rfl⟩:=it.2 j u (by simpa using hu);exact⟨t,by simp⟩
 exact⟨.ref s.heap.objs.size,_,I.laid (t':=tk) k (Nat.le_refl _) (show dC X.prog X.w _ h' _ (.lst (vns (List.range n))) from⟨by simp;exact Yr hn (by decide),acc.toList,c',hv,by rw[e']⟩),rfl,q _ I.fresh⟩
end
def iU(H:Hp)(a:Addr)(ts:MM.b9):Prop:=∃tr:List Addr,H a=some (.lst (tr.map V.ref))∧tr.length=ts.length∧∀(i:Nat) t,ts[i]?=some t→∃r,tr[i]?=some r∧H r=some (.tup [vn t.1,vn t.2])
def uG(H:Hp)(a:Addr)(os:MM.bU):Prop:=∃rr:List Addr,H a=some (.lst (rr.map V.ref))∧rr.length=os.length∧∀(i:Nat) l,os[i]?=some l→∃r,rr[i]?=some r∧H r=some (.lst (vns l))
theorem aW.ts{H H':Hp}(g:aW H H'){a:Addr}{ts:MM.b9}(h:iU H a ts):iU H' a ts:=by
 obtain⟨tr,h1,h2,h3⟩:=h;exact⟨tr,g _ _ h1,h2,fun i t ht=>by obtain⟨r,q1,q2⟩:=h3 i t ht;exact⟨r,q1,g _ _ q2⟩⟩
theorem aW.os{H H':Hp}(g:aW H H'){a:Addr}{os:MM.bU}(h:uG H a os):uG H' a os:=by
 obtain⟨tr,h1,h2,h3⟩:=h;exact⟨tr,g _ _ h1,h2,fun i t ht=>by obtain⟨r,q1,q2⟩:=h3 i t ht;exact⟨r,q1,g _ _ q2⟩⟩
theorem iU.item{H:Hp}{a:Addr}{ts:MM.b9}(h:iU H a ts){i:Nat}(hi:i<ts.length):∃xs r,H a=some (.lst xs)∧xs.length=ts.length∧atI xs (i:Int)=some (.ref r)∧H r=some (.tup [vn (ts.getD i (0,0)).1,vn (ts.getD i (0,0)).2]):=by
 obtain⟨tr,h1,h2,h3⟩:=h;obtain⟨r,q1,q2⟩:=h3 i ts[i] (Zz hi);refine⟨_,r,h1,by rw[Zq];exact h2,c9 (by rw[Zk,q1];rfl),?_⟩;simp only[List.getD,Zz hi,Option.getD_some];exact q2
theorem uG.item{H:Hp}{a:Addr}{os:MM.bU}(h:uG H a os){i:Nat}(hi:i<os.length):∃xs r,H a=some (.lst xs)∧xs.length=os.length∧atI xs (i:Int)=some (.ref r)∧H r=some (.lst (vns (MM.row os i))):=by
 obtain⟨tr,h1,h2,h3⟩:=h;obtain⟨r,q1,q2⟩:=h3 i os[i] (Zz hi);refine⟨_,r,h1,by rw[Zq];exact h2,c9 (by rw[Zk,q1];rfl),?_⟩;unfold MM.row;simp only[List.getD,Zz hi,Option.getD_some];exact q2
theorem oT{l:List Nat}{j:Nat}(h:j<l.length){k:Int}(hk:k=(j:Int)):atI (vns l) k=some (vn (l.getD j 0)):=by
 subst hk;exact c9 (by rw[Zk,Zz h];simp[List.getD,h])
theorem JF{l:List Nat}{x:Nat}(h:x∈l):atI (vns l) ((l.idxOf x:Nat)-1:Int)=some (vn (MM.nP l x)):=by
 have h1:=List.idxOf_lt_length_of_mem h;unfold MM.nP;rcases Nat.eq_zero_or_pos (l.idxOf x) with q | q
 ·have e:(l.idxOf x+l.length-1)%l.length=l.length-1:=by rw[q,Nat.zero_add];exact Nat.mod_eq_of_lt (by omega)
  rw[e];unfold atI ixN;rw[if_neg (by lia),if_pos (by simp;lia)];have e2:((l.idxOf x:Nat)-1+((vns l).length:Int)).toNat=l.length-1:=by simp;omega
  show(vns l)[((l.idxOf x:Nat)-1+((vns l).length:Int)).toNat]?=_;rw[e2,Zk,Zz (by lia)];have:l.length-1<l.length:=by lia
  simp[List.getD,this]
 ·have e:(l.idxOf x+l.length-1)%l.length=l.idxOf x-1:=by
   have:l.idxOf x+l.length-1=(l.idxOf x-1)+l.length:=by lia
   rw[this,Nat.add_mod_right];exact Nat.mod_eq_of_lt (by omega)
  rw[e];exact oT (by omega) (by omega)
end L2
set_option linter.all false
set_option maxRecDepth 100000
set_option maxHeartbeats 4000000
namespace L2
open PySem PySem.Spec PyProof.Rows
theorem OC{J:It}{js:List (Option Nat)}{σ:St}{H1:Hp}{R:Hp→Prop}{D:Addr}{g:TG}{te:TE}(n:Nat)(Pe:Nat→V→Prop)(hD:H1 D=none)(hn:n≤100000)
  (go:∀i H',i<n→aW H1 H'→J.go i H') (stop:∀H',aW H1 H'→J.stop n H')
  (hs:∀i H' x H'' (k:V→Hp→Prop),i<n→aW H1 H'→J.yld i H' x H''→(∀v H4,Pe i v→aW H' H4→k v H4)→g x (inner js σ) H'' fun σ2 H2=>Fills (inner js σ) σ2∧te σ2 H2 k)
  (hd:∀vs H',vs.length=n→(∀(i:Nat) v,vs[i]?=some v→Pe i v)→aW H1 H'→H' D=some (.lst vs)→R H') :
  ∃W:Nat→Nat→List V→Hp→Prop,(∃m,W 0 m [] (upd H1 D (.lst []))) ∧
   ∀i m ys H,W i m ys H→(J.stop i H∧R H)∨(J.go i H∧∃N:List V→Hp→Prop,(∀ys' H',N ys' H'→∃m',m' < m∧W (i+1) m' ys' H')∧∀x H',J.yld i H x H'→g x (inner js σ) H' fun σ2 H2=>Fills (inner js σ) σ2∧wG σ2 H2 fun b H3 =>
    if b=true then te σ2 H3 fun y H4=>H4 D=some (.lst ys)∧ys.length<ZW∧N (ys++[y]) (upd H4 D (.lst (ys++[y]))) else N ys H3):=by
 refine comp_map n (fun i ys H'=>ys.length=i∧(∀(j:Nat) v,ys[j]?=some v→Pe j v)∧aW H1 H'∧H' D=some (.lst ys)) ⟨rfl,fun j v h=>by simp at h,aI hD _,aB⟩ ?_ ?_
 ·rintro i ys H' hi ⟨hl,hp,g1,hD'⟩;refine⟨go i H' hi g1,fun x H'' hy=>hs i H' x H'' _ hi g1 hy fun v H4 hv g4=>⟨g4 _ _ hD',?_,?_,?_,?_,aB⟩⟩
  ·rw[hl];exact Yt hi (Yr hn (by decide))
  ·rw[Zm,hl];rfl
  ·intro j v' h;by_cases hj:j<ys.length
   ·rw[Zx hj]at h;exact hp j v' h
   ·rw[Zy (by lia)]at h;have hj2:j-ys.length=0:=by
     have:=(Zj.mp h).1;simp at this;lia
    rw[hj2]at h;simp at h;subst h;have:j=i:=by lia
    subst this;exact hv
  ·exact fun b o h=>by rw[aL (aJ h hD)];exact g4 _ _ (g1 _ _ h)
 ·rintro ys H' ⟨hl,hp,g1,hD'⟩;exact⟨stop H' g1,hd ys H' hl hp g1 hD'⟩
theorem PL{vs:List V}{n:Nat}{fs:Nat→V}(hl:vs.length=n)(h:∀(i:Nat) v,vs[i]?=some v→v=fs i):vs=(List.range n).map fs:=by
 apply Yn;intro i;by_cases hi:i<n
 ·rw[Zk,Yk hi];obtain⟨v,hv⟩:∃v,vs[i]?=some v:=⟨vs[i],Zz (by lia)⟩
  rw[hv,h i v hv];rfl
 ·rw[Zr (by lia),Zr (by simp;lia)]
theorem fG{J:It}{js:List (Option Nat)}{σ:St}{H1:Hp}{R:Hp→Prop}{D:Addr}{g:TG}{te:TE}(n:Nat)(fs:Nat→V)(hD:H1 D=none)(hn:n≤100000)
  (go:∀i H',i<n→aW H1 H'→J.go i H') (stop:∀H',aW H1 H'→J.stop n H')
  (hs:∀i H' x H'' (k:V→Hp→Prop),i<n→aW H1 H'→J.yld i H' x H''→(∀H4,aW H' H4→k (fs i) H4)→g x (inner js σ) H'' fun σ2 H2=>Fills (inner js σ) σ2∧te σ2 H2 k)
  (hd:∀H',aW H1 H'→H' D=some (.lst ((List.range n).map fs))→R H') :
  ∃W:Nat→Nat→List V→Hp→Prop,(∃m,W 0 m [] (upd H1 D (.lst []))) ∧
   ∀i m ys H,W i m ys H→(J.stop i H∧R H)∨(J.go i H∧∃N:List V→Hp→Prop,(∀ys' H',N ys' H'→∃m',m' < m∧W (i+1) m' ys' H')∧∀x H',J.yld i H x H'→g x (inner js σ) H' fun σ2 H2=>Fills (inner js σ) σ2∧wG σ2 H2 fun b H3 =>
    if b=true then te σ2 H3 fun y H4=>H4 D=some (.lst ys)∧ys.length<ZW∧N (ys++[y]) (upd H4 D (.lst (ys++[y]))) else N ys H3) :=
 OC n (fun i v=>v=fs i) hD hn go stop (fun i H' x H'' k hi g1 hy hk=>hs i H' x H'' k hi g1 hy fun H4 g4=>hk _ _ rfl g4)
  fun vs H' hl hp g1 e=>hd H' g1 (by rw[e,PL hl hp])
def at0(ls:List Int)(j:Nat):Int:=ls.getD j 0
theorem gM{ls:List Int}{j:Nat}(h:j<ls.length):(ls.map V.int)[j]?=some (.int (at0 ls j)):=by
 unfold at0;rw[Zk,Zz h];simp[List.getD,h]
theorem sW{ls:List Int}{j:Nat}(h:j<ls.length):at0 ls j∈ls:=by
 unfold at0;simp[List.getD,h]
theorem dF{ls:List Int}{j:Nat}(h:j<ls.length){k:Int}(hk:k=(j:Int)):atI (ls.map V.int) k=some (.int (at0 ls j)):=by
 subst hk;exact c9 (gM h)
def vo:Option Int→V
 |none=>.non
 |some i=>.int i
abbrev vos(l:List (Option Int)):List V:=l.map vo
def ov(l:List (Option Int))(j:Nat):Option Int:=l.getD j none
theorem OH{l:List (Option Int)}{j:Nat}(h:j<l.length):(vos l)[j]?=some (vo (ov l j)):=by
 unfold ov vos;rw[Zk,Zz h];simp[List.getD,h]
theorem GT{l:List (Option Int)}{j:Nat}(h:j<l.length){k:Int}(hk:k=(j:Int)):atI (vos l) k=some (vo (ov l j)):=by
 subst hk;exact c9 (OH h)
theorem jL{n j:Nat}{k:Int}(h:j<n)(hk:k=(j:Int)):ixN n k=some j:=by
 subst hk;unfold ixN;rw[if_pos (by lia),if_pos (by lia)];simp
theorem gL{K:PySem.W.Frag}{H:Hp}{a:Addr}{ns:List Int}(h:H a=some (.lst (ns.map V.int))):Bd K H (.ref a) (.list (ns.map PyData.int)):=.lst (SqL.of h) (Bds.ints ns)
theorem sG{ds:List PyData}(n:Nat)(h:∀d∈ds,d.canLay0=true∧d.depth≤n):PyData.canLayAll0 ds=true∧PyData.depthAll ds≤n:=by
 induction ds with
 |nil=>exact⟨rfl,Nat.zero_le _⟩
 |cons d ds ih =>
  have h1:=h d Zd;have h2:=ih fun x hx=>h x (Zw _ hx);refine⟨by rw[PyData.canLayAll0,h1.1,h2.1];rfl,?_⟩;rw[PyData.depthAll];exact Nat.max_le.mpr ⟨h1.2,h2.2⟩
theorem lay_ints(ns:List Int):PyData.canLayAll0 (ns.map PyData.int)=true∧PyData.depthAll (ns.map PyData.int)≤2:=sG 2 fun d hd=>by
 obtain⟨n,_,rfl⟩:=Zh.mp hd;exact⟨rfl,by simp[PyData.depth]⟩
theorem via{tt r:TS}{D:Ends}{σ:St}{H:Hp}(I:St→Hp→Prop)(ht:(∀σ' H',I σ' H'→r D σ' H')→tt { D with nx:=r D } σ H)(hr:∀σ' H',I σ' H'→r D σ' H'):JS tt r D σ H:=ht hr
theorem shaped_ints(ns:List Int):SeqAt.shaped (.list (ns.map PyData.int))=true:=by
 have h:=lay_ints ns;unfold SeqAt.shaped;rw[Xw];refine⟨h.1,decide_eq_true ?_⟩;rw[PyData.depth]
 lia
theorem gI{K:PySem.W.Frag}{a:Addr}{xs:List V}{g:TG}{tb:TS}{D:Ends}{σ:St}{H:Hp}(Pv:Nat→St→Hp→Prop)(h0:Pv 0 σ H)(hl:∀i σ H,i≤xs.length→Pv i σ H→SqL K H a xs)
  (hs:∀(i:Nat) x σ H T,xs[i]?=some x→Pv i σ H→H T=none→g (.ref T) σ (upd H T (.tup [vn i,x])) fun σ2 H2=>tb { D with nx:=Pv (i+1),ct:=Pv (i+1),bk:=D.nx } σ2 H2) (hd:∀σ H,Pv xs.length σ H→D.nx σ H) :
  ∃W:Nat→Nat→St→Hp→Prop,(∃m,W 0 m σ H)∧∀i m σ H,W i m σ H →
   ((Ite K a).stop i H∧D.nx σ H)∨((Ite K a).go i H∧∃N:St→Hp→Prop,(∀σ' H',N σ' H'→∃m',m' < m∧W (i+1) m' σ' H')∧∀x H',(Ite K a).yld i H x H'→g x σ H' fun σ2 H2=>tb { D with nx:=N,ct:=N,bk:=D.nx } σ2 H2):=by
 refine⟨fun i m σ H=>m=xs.length-i∧i≤xs.length∧Pv i σ H,⟨xs.length,by simp,Nat.zero_le _,h0⟩,?_⟩;rintro i m σ H ⟨rfl,hi,p⟩;have q:=hl i σ H hi p;by_cases hlt:i<xs.length
 ·refine .inr ⟨⟨xs,xs[i],q,by simp[hlt]⟩,Pv (i+1),fun σ' H' p'=>⟨xs.length-(i+1),by omega,rfl,hlt,p'⟩,fun x H' y=>?_⟩;obtain⟨T,x',rfl,hT,rfl,y⟩:=y;exact hs i x' σ _ T (y xs q) p hT
 ·have e:i=xs.length:=by lia
  subst e;exact .inl ⟨⟨xs,q,Nat.le_refl _⟩,hd σ H p⟩
theorem w8(ns:List Int):∀k,k≤ns.length→PySem.preSum (at0 ns) k=(ns.take k).sum
 |0,_=>by simp[PySem.preSum]
 |k+1,h=>by
  rw[PySem.preSum,w8 ns k (by lia),List.take_succ,List.sum_append];have hk:k<ns.length:=by lia
  unfold at0;simp[List.getD,hk]
section
variable{X:Cx}{pins:List (Addr×Obj)}{σ:St}{H:Hp}{s:Shared}
theorem iO{p:Addr}{its:List Value}(pl:PlainL s.heap p its.toArray) :
  (s.heap.push { cls:=.type "list_iterator",data:=.fields #[.ref p,.int 0 0] }).IsListIter s.heap.objs.size p 0∧(s.heap.push { cls:=.type "list_iterator",data:=.fields #[.ref p,.int 0 0] }).IsList p its.toArray:=by
 obtain⟨o,n,e,hc,hd,hs⟩:=pl;exact⟨⟨_,Heap.get?_push_size _ rfl,rfl,rfl⟩,o,Heap.get?_push_of_some _ e,hc,n,hs⟩
theorem nQ{p:Addr}{its:List Value}(pl:PlainL s.heap p its.toArray):p<s.heap.objs.size:=by
 obtain⟨o,n,e,_⟩:=pl;exact Heap.lt_size e
theorem AO(hc:X.calm=true):fC X (.builtin "sum") (fun xs H Q=>∃(p:Addr) (ns:List Int),xs=[.ref p]∧SqL X.K H p (ns.map V.int)∧Q (.int ns.sum) H):=by
 intro pins s σ H xs us Q I r h;obtain⟨p,ns,rfl,hq,q⟩:=h;obtain⟨u,rfl,rx⟩:=vals1 r;cases rx;obtain⟨its,rv,pl,hz⟩:=I.list hq;have hl:=rv.length;rw[Zq]at hl;have hp:=nQ pl;refine call_sum_walkG (wpAny_pyIter_list pl.isList ?_);refine⟨s.heap.objs.size,[s.heap.objs.size,p],[s.heap.objs.size],its.toArray.size,_,_,at0 ns,rfl,Walks.list (show X.A.in1.handled=none from I.ok.hd hc) _ p (Nat.ne_of_lt hp) its.toArray,iO pl,fun b hb=>?_,fun i v hv=>?_,fun h' tk t' hk=>?_⟩
 ·have:=Heap.lt_size (Heap.get?_push_size s.heap (o:={ cls:=.type "list_iterator",data:=.fields #[.ref p,.int 0 0] }) rfl);simp only[Zn,List.not_mem_nil,or_false]at hb;rcases hb with rfl | rfl
  ·exact this
  ·exact Nat.lt_trans hp this
 ·have hi:its[i]?=some v:=by simpa using hv
  have hi2:i<ns.length:=by rw[hl];exact(Zj.mp hi).1
  obtain⟨u',hu,ru⟩:=rv.get (gM hi2);rw[hi]at hu;cases hu;exact ru
 ·refine⟨.int ns.sum,H,I.kept (h':=h') (t':=tk) fun b o e=>?_,⟨t',?_⟩,q⟩
  ·refine hk b o ?_ (Heap.get?_push_of_some _ e);simp only[Zn,List.not_mem_nil,or_false];exact Nat.ne_of_lt (Heap.lt_size e)
  ·rw[List.size_toArray,←hl,w8 ns _ (Nat.le_refl _),Yv]
end
end L2
namespace L2
open PySem PySem.Spec PyProof.Rows
theorem all_range(bs:List Bool):(List.range bs.length).all (fun i=>bs.getD i true)=bs.all id:=by
 rw[Xx,List.all_eq_true,List.all_eq_true];constructor
 ·intro h b hb;obtain⟨i,hi,rfl⟩:=List.getElem_of_mem hb;have:=h i (by simpa using hi);simpa[List.getD,hi] using this
 ·intro h i hi;have hi':i<bs.length:=by simpa using hi
  have:=h bs[i] (Zp hi');simpa[List.getD,hi'] using this
theorem any_range(ns:List Int):(List.range ns.length).any (fun i=>at0 ns i != 0)=ns.any (· != 0):=by
 rw[Xx,List.any_eq_true,List.any_eq_true];constructor
 ·rintro⟨i,hi,h⟩;have hi':i<ns.length:=by simpa using hi
  exact⟨_,sW hi',h⟩
 ·rintro⟨x,hx,h⟩;obtain⟨i,hi,rfl⟩:=List.getElem_of_mem hx;exact⟨i,by simpa using hi,by simpa[at0,List.getD,hi] using h⟩
section
variable{X:Cx}
theorem AR(hc:X.calm=true):fC X (.builtin "all") (fun xs H Q=>∃(p:Addr) (bs:List Bool),xs=[.ref p]∧SqL X.K H p (bs.map V.bl)∧Q (.bl (bs.all id)) H):=by
 intro pins s σ H xs us Q I r h;obtain⟨p,bs,rfl,hq,q⟩:=h;obtain⟨u,rfl,rx⟩:=vals1 r;cases rx;obtain⟨its,rv,pl,hz⟩:=I.list hq;have hl:=rv.length;rw[Zq]at hl;have hp:=nQ pl;refine call_all_walk (wpAny_pyIter_list pl.isList ?_);refine⟨s.heap.objs.size,[s.heap.objs.size,p],[s.heap.objs.size],its.toArray.size,_,_,fun i=>bs.getD i true,rfl,Walks.list (show X.A.in1.handled=none from I.ok.hd hc) _ p (Nat.ne_of_lt hp) its.toArray,iO pl,fun i v s' Q' E' hv hQ=>?_,fun h' tk hk=>?_⟩
 ·have hi:its[i]?=some v:=by simpa using hv
  have hi2:i<bs.length:=by rw[hl];exact(Zj.mp hi).1
  obtain⟨u',hu,ru⟩:=rv.get (show(bs.map V.bl)[i]?=some (.bl (bs.getD i true)) by rw[Zk,Zz hi2];simp[List.getD,hi2]);rw[hi]at hu;cases hu;cases ru;exact wpAny_truthy_bool hQ
 ·refine⟨.bl (bs.all id),H,I.kept (h':=h') (t':=tk) fun b o e=>?_,?_,q⟩
  ·refine hk b o ?_ (Heap.get?_push_of_some _ e);simp only[Zn,List.not_mem_nil,or_false];exact Nat.ne_of_lt (Heap.lt_size e)
  ·show Value.bool _=Value.bool _;rw[List.size_toArray,←hl,all_range]
theorem LC(hc:X.calm=true):fC X (.builtin "any") (fun xs H Q=>∃(p:Addr) (ns:List Int),xs=[.ref p]∧SqL X.K H p (ns.map V.int)∧Q (.bl (ns.any (· != 0))) H):=by
 intro pins s σ H xs us Q I r h;obtain⟨p,ns,rfl,hq,q⟩:=h;obtain⟨u,rfl,rx⟩:=vals1 r;cases rx;obtain⟨its,rv,pl,hz⟩:=I.list hq;have hl:=rv.length;rw[Zq]at hl;have hp:=nQ pl;refine call_any_walk (wpAny_pyIter_list pl.isList ?_);refine⟨s.heap.objs.size,[s.heap.objs.size,p],[s.heap.objs.size],its.toArray.size,_,_,fun i=>at0 ns i != 0,rfl,Walks.list (show X.A.in1.handled=none from I.ok.hd hc) _ p (Nat.ne_of_lt hp) its.toArray,iO pl,fun i v s' Q' E' hv hQ=>?_,fun h' tk hk=>?_⟩
 ·have hi:its[i]?=some v:=by simpa using hv
  have hi2:i<ns.length:=by rw[hl];exact(Zj.mp hi).1
  obtain⟨u',hu,ru⟩:=rv.get (gM hi2);rw[hi]at hu;cases hu;obtain⟨t,rfl⟩:=ru;exact PySem.P.truthy_int hQ
 ·refine⟨.bl (ns.any (· != 0)),H,I.kept (h':=h') (t':=tk) fun b o e=>?_,?_,q⟩
  ·refine hk b o ?_ (Heap.get?_push_of_some _ e);simp only[Zn,List.not_mem_nil,or_false];exact Nat.ne_of_lt (Heap.lt_size e)
  ·show Value.bool _=Value.bool _;rw[List.size_toArray,←hl,any_range]
end
end L2
namespace L2
open PySem PySem.Spec PyProof.Rows
section
variable{X:Cx}
theorem K9(hc:X.calm=true):fC X (.builtin "min") (fun xs H Q=>∃(p:Addr) (ns:List Int),xs=[.ref p]∧SqL X.K H p (ns.map V.int)∧0<ns.length∧∀m:Int,m∈ns→(∀x∈ns,m≤x)→Q (.int m) H):=by
 intro pins s σ H xs us Q I r h;obtain⟨p,ns,rfl,hq,h0,q⟩:=h;obtain⟨u,rfl,rx⟩:=vals1 r;cases rx;obtain⟨its,rv,pl,hz⟩:=I.list hq;have hl:=rv.length;rw[Zq]at hl;have hp:=nQ pl;have hv:∀(i:Nat) (v:Value),its.toArray[i]?=some v→∃t,v=Value.int (at0 ns i) t:=fun i v hv=>by
  have hi:its[i]?=some v:=by simpa using hv
  have hi2:i<ns.length:=by rw[hl];exact(Zj.mp hi).1
  obtain⟨u',hu,ru⟩:=rv.get (gM hi2);rw[hi]at hu;cases hu;exact ru
 have hb:=argBest_lt (at0 ns) (its.toArray.size-1);refine call_min_walk (wpAny_pyIter_list pl.isList ?_);refine⟨s.heap.objs.size,[s.heap.objs.size,p],[s.heap.objs.size],its.toArray.size,_,_,_,rfl,Walks.list (show X.A.in1.handled=none from I.ok.hd hc) _ p (Nat.ne_of_lt hp) its.toArray,iO pl,fun b hb=>?_,by simp;lia,CmpOf.ints_lt (at0 ns) hv,fun v h' tk hP hk=>?_⟩
 ·have:=Heap.lt_size (Heap.get?_push_size s.heap (o:={ cls:=.type "list_iterator",data:=.fields #[.ref p,.int 0 0] }) rfl);simp only[Zn,List.not_mem_nil,or_false]at hb;rcases hb with rfl | rfl
  ·exact this
  ·exact Nat.lt_trans hp this
 ·obtain⟨t,rfl⟩:=hv _ _ hP;have hsz:its.toArray.size=ns.length:=by simp[hl]
  refine⟨.int _,H,I.kept (h':=h') (t':=tk) fun b o e=>?_,⟨t,rfl⟩,q _ (sW (by omega)) fun x hx=>?_⟩
  ·refine hk b o ?_ (Heap.get?_push_of_some _ e);simp only[Zn,List.not_mem_nil,or_false];exact Nat.ne_of_lt (Heap.lt_size e)
  ·obtain⟨i,hi,rfl⟩:=List.getElem_of_mem hx;have:=hb.2 i (by lia);have e:at0 ns i=ns[i]:=by unfold at0;simp[List.getD,hi]
   rw[←e];exact this
theorem LA(hc:X.calm=true):fC X (.builtin "max") (fun xs H Q=>∃(p:Addr) (ns:List Int),xs=[.ref p]∧SqL X.K H p (ns.map V.int)∧0<ns.length∧∀m:Int,m∈ns→(∀x∈ns,x≤m)→Q (.int m) H):=by
 intro pins s σ H xs us Q I r h;obtain⟨p,ns,rfl,hq,h0,q⟩:=h;obtain⟨u,rfl,rx⟩:=vals1 r;cases rx;obtain⟨its,rv,pl,hz⟩:=I.list hq;have hl:=rv.length;rw[Zq]at hl;have hp:=nQ pl;have hv:∀(i:Nat) (v:Value),its.toArray[i]?=some v→∃t,v=Value.int (at0 ns i) t:=fun i v hv=>by
  have hi:its[i]?=some v:=by simpa using hv
  have hi2:i<ns.length:=by rw[hl];exact(Zj.mp hi).1
  obtain⟨u',hu,ru⟩:=rv.get (gM hi2);rw[hi]at hu;cases hu;exact ru
 have hb:=argBest_gt (at0 ns) (its.toArray.size-1);refine call_max_walk (wpAny_pyIter_list pl.isList ?_);refine⟨s.heap.objs.size,[s.heap.objs.size,p],[s.heap.objs.size],its.toArray.size,_,_,_,rfl,Walks.list (show X.A.in1.handled=none from I.ok.hd hc) _ p (Nat.ne_of_lt hp) its.toArray,iO pl,fun b hb=>?_,by simp;lia,CmpOf.ints_gt (at0 ns) hv,fun v h' tk hP hk=>?_⟩
 ·have:=Heap.lt_size (Heap.get?_push_size s.heap (o:={ cls:=.type "list_iterator",data:=.fields #[.ref p,.int 0 0] }) rfl);simp only[Zn,List.not_mem_nil,or_false]at hb;rcases hb with rfl | rfl
  ·exact this
  ·exact Nat.lt_trans hp this
 ·obtain⟨t,rfl⟩:=hv _ _ hP;have hsz:its.toArray.size=ns.length:=by simp[hl]
  refine⟨.int _,H,I.kept (h':=h') (t':=tk) fun b o e=>?_,⟨t,rfl⟩,q _ (sW (by omega)) fun x hx=>?_⟩
  ·refine hk b o ?_ (Heap.get?_push_of_some _ e);simp only[Zn,List.not_mem_nil,or_false];exact Nat.ne_of_lt (Heap.lt_size e)
  ·obtain⟨i,hi,rfl⟩:=List.getElem_of_mem hx;have:=hb.2 i (by lia);have e:at0 ns i=ns[i]:=by unfold at0;simp[List.getD,hi]
   rw[←e];exact this
end
end L2
namespace L2
open PySem PySem.Spec PyProof.Rows
section
variable{X:Cx}
theorem B7:fC X (.builtin "sorted") (fun xs H Q=>∃p ns,xs=[.ref p]∧SqL X.K H p (ns.map V.int)∧ns.length<64∧∀(l:Addr) (ns':List Int),H l=none→ns'.Perm ns→ns'.Pairwise (·≤·)→Q (.ref l) (upd H l (.lst (ns'.map V.int)))):=by
 intro pins s σ H xs us Q I r h;obtain⟨p,ns,rfl,hq,h64,q⟩:=h;obtain⟨u,rfl,rx⟩:=vals1 r;cases rx;obtain⟨its,r',pl,hz⟩:=I.list hq;have hlen:=r'.length;rw[Zq]at hlen;refine sorted_ints (ns:=ns) (vs:=its) pl.isList (intsAre_of r') (by lia) fun out ns' a1 a2 a3=>?_;obtain⟨e,he⟩:=sortedAll_at s.heap its out;have rv:=pD a1;refine⟨.ref (s.heap.objs.size+1),_,I.laid (t':=s.toks) (fun _ _=>sortedAll_old) (Nat.le_succ _) (show dC X.prog X.w _ _ _ (.lst (ns'.map V.int)) from⟨?_,out.toList,e,rv,he⟩),rfl,q _ ns' (I.hok.fresh (Nat.le_succ _)) a2 a3⟩;rw[Zq,a2.length_eq];exact Yr (by lia:ns.length≤64) (by decide)
end
end L2
namespace L2
open PySem PySem.Spec PyProof.Rows
section
variable{κ:Type}[DecidableEq κ]
def gC(kvs:List (κ×V))(k:κ):Option V:=(kvs.find? fun kv=>decide (kv.1=k)).map (·.2)
def putK(kvs:List (κ×V))(k:κ)(v:V):List (κ×V) :=
 if (kvs.any fun kv=>decide (kv.1=k))=true then kvs.map (fun kv=>if kv.1=k then (kv.1,v) else kv) else kvs++[(k,v)]
theorem eU{p:κ×V}{r:List (κ×V)}{k:κ}(e:p.1=k):gC (p::r) k=some p.2:=by simp[gC,List.find?_cons,e]
theorem eG{p:κ×V}{r:List (κ×V)}{k:κ}(e:¬p.1=k):gC (p::r) k=gC r k:=by simp[gC,List.find?_cons,e]
theorem m5(k:κ):∀kvs:List (κ×V),(kvs.any fun kv=>decide (kv.1=k))=(gC kvs k).isSome
 |[]=>rfl
 |p::r=>by
  rw[List.any_cons];by_cases e:p.1=k
  ·simp only[eU e,decide_eq_true e,Bool.true_or,Option.isSome_some]
  ·rw[eG e,decide_eq_false e,Bool.false_or];exact m5 k r
theorem CJ(k j:κ)(y:V):∀kvs:List (κ×V),gC (kvs.map fun kv=>if kv.1=k then (kv.1,y) else kv) j=(gC kvs j).map fun x=>if j=k then y else x
 |[]=>rfl
 |p::r=>by
  have ih:=CJ k j y r;rw[List.map_cons];by_cases h:p.1=k
  ·rw[if_pos h];by_cases e:p.1=j
   ·rw[eU (p:=(p.1,y)) e,eU e,Option.map_some,if_pos (e.symm.trans h)]
   ·rw[eG (p:=(p.1,y)) e,eG e,ih]
  ·rw[if_neg h];by_cases e:p.1=j
   ·rw[eU (p:=p) e,eU e,Option.map_some,if_neg (fun z=>h (e.trans z))]
   ·rw[eG (p:=p) e,eG e,ih]
theorem zK(k j:κ)(y:V):∀kvs:List (κ×V),gC kvs k=none→gC (kvs++[(k,y)]) j=if j=k then some y else gC kvs j
 |[],_=>by
  by_cases e:k=j
  ·rw[if_pos e.symm];exact eU (p:=(k,y)) e
  ·rw[if_neg (fun z=>e z.symm)];exact eG (p:=(k,y)) e
 |p::r,hn=>by
  rw[List.cons_append];have hk:¬p.1=k:=fun z=>by rw[eU z]at hn;cases hn
  rw[eG hk]at hn;have ih:=zK k j y r hn;by_cases e:p.1=j
  ·rw[eU e,eU e,if_neg (fun z=>hk (e.trans z))]
  ·rw[eG e,eG e,ih]
theorem LW(kvs:List (κ×V))(k j:κ)(y:V):gC (putK kvs k y) j=if j=k then some y else gC kvs j:=by
 unfold putK;by_cases a:(kvs.any fun kv=>decide (kv.1=k))=true
 ·rw[if_pos a,CJ];rw[m5]at a;by_cases e:j=k
  ·obtain⟨x,hx⟩:=Option.isSome_iff_exists.mp a;rw[if_pos e,e,hx,Option.map_some,if_pos rfl]
  ·rw[if_neg e];cases gC kvs j with
   |none=>rfl
   |some x=>rw[Option.map_some,if_neg e]
 ·rw[if_neg a];refine zK k j y kvs ?_;rw[m5]at a;cases q:gC kvs k with
  |none=>rfl
  |some x=>rw[q]at a;exact(a rfl).elim
theorem nZ(kvs:List (κ×V))(k:κ)(v:V):(putK kvs k v).length≤kvs.length+1:=by
 unfold putK;split
 ·rw[Zq];lia
 ·rw[Zm,Yq,List.length_nil];lia
theorem MY{kvs:List (κ×V)}{k:κ}(v:V)(h:gC kvs k=none):putK kvs k v=kvs++[(k,v)]:=by
 unfold putK;rw[m5,h];exact if_neg (by decide)
theorem uF.isSome_eq{o:Option V}{u:Option Value}(r:uF o u):o.isSome=u.isSome:=by
 cases o with
 |none=>cases u with
  |none=>rfl
  |some _=>exact(show False from r).elim
 |some _=>cases u with
  |none=>exact(show False from r).elim
  |some _=>rfl
theorem KV.val{kvs:List (κ×V)}{vs:List (κ×Value)}(r:KV kvs vs)(k:κ):uF (gC kvs k) (valueAt vs k):=by
 unfold KV at r;induction r with
 |nil=>exact True.intro
 |@cons p q ps qs h t ih =>
  obtain⟨h1,h2⟩:=h;by_cases e:p.1=k
  ·have e':q.1=k:=h1.symm.trans e;have b:valueAt (q::qs) k=some q.2:=by simp[valueAt,List.find?_cons,e']
   rw[eU e,b];exact h2
  ·have e':¬q.1=k:=fun z=>e (h1.trans z);have b:valueAt (q::qs) k=valueAt qs k:=by simp[valueAt,List.find?_cons,e']
   rw[eG e,b];exact ih
theorem KV.any{kvs:List (κ×V)}{vs:List (κ×Value)}(r:KV kvs vs)(k:κ):(kvs.any fun kv=>decide (kv.1=k))=vs.any fun kv=>decide (kv.1=k):=by
 unfold KV at r;induction r with
 |nil=>rfl
 |cons h t ih=>rw[List.any_cons,List.any_cons,ih,h.1]
theorem KV.repl{kvs:List (κ×V)}{vs:List (κ×Value)}(r:KV kvs vs)(k:κ){y:V}{u:Value}(ry:RelV y u) :
  KV (kvs.map fun kv=>if kv.1=k then (kv.1,y) else kv) (vs.map fun kv=>if kv.1=k then (kv.1,u) else kv):=by
 unfold KV at r ⊢;induction r with
 |nil=>exact .nil
 |@cons p q ps qs h t ih =>
  rw[List.map_cons,List.map_cons];refine .cons ?_ ih;obtain⟨h1,h2⟩:=h;by_cases e:p.1=k
  ·rw[if_pos e,if_pos (h1.symm.trans e)];exact⟨h1,ry⟩
  ·rw[if_neg e,if_neg (fun z=>e (h1.trans z))];exact⟨h1,h2⟩
theorem KV.put{kvs:List (κ×V)}{vs:List (κ×Value)}(r:KV kvs vs)(k:κ){y:V}{u:Value}(ry:RelV y u):KV (putK kvs k y) (stored vs k u):=by
 unfold putK stored;rw[r.any k];by_cases e:(vs.any fun kv=>decide (kv.1=k))=true
 ·rw[if_pos e,if_pos e];exact r.repl k ry
 ·rw[if_neg e,if_neg e];exact Paired.snoc r ⟨rfl,ry⟩
theorem KV.keys{kvs:List (κ×V)}{vs:List (κ×Value)}(r:KV kvs vs):kvs.map (·.1)=vs.map (·.1):=by
 unfold KV at r;induction r with
 |nil=>rfl
 |cons h t ih=>rw[List.map_cons,List.map_cons,ih,h.1]
theorem KV.length{kvs:List (κ×V)}{vs:List (κ×Value)}(r:KV kvs vs):kvs.length=vs.length:=Paired.length r
end
theorem IE{P:Program}{w:World}{k:Key}{u:Value}(r:RelV (kV k) u):(dO P w).is k u=true:=by
 cases k with
 |inl i=>obtain⟨t,e⟩:=(show ∃t,u=Value.int i t from r);subst e;exact DJ P w i t
 |inr x=>obtain⟨t,e⟩:=(show ∃t,u=Value.str x t from r);subst e;exact DI P w x t
theorem AF{P:Program}{w:World}:∀{ks:List Key}{us:List Value},bY (ks.map kV) us→ItemsAre (dO P w) ks us
 |[],_,r=>by rw[List.map_nil]at r;cases r;exact .nil
 |k::ks,_,r=>by
  rw[List.map_cons]at r;cases r with
  |cons h t=>exact .cons (IE h) (AF t)
abbrev KT(H:Hp):List (List Key×V)→List (List Key×Addr×Value)→Prop:=Paired fun p q=>p.1=q.1∧H q.2.1=some (.tup (p.1.map kV))∧RelV p.2 q.2.2
theorem KT.val{H:Hp}{kvs:List (List Key×V)}{xs:List (List Key×Addr×Value)}(r:KT H kvs xs)(k:List Key):uF (gC kvs k) ((atKey xs k).map (·.2)):=by
 induction r with
 |nil=>exact True.intro
 |@cons p q ps qs h t ih =>
  obtain⟨h1,_,h2⟩:=h;by_cases e:p.1=k
  ·have e':q.1=k:=h1.symm.trans e;have b:atKey (q::qs) k=some q.2:=by simp[atKey,List.find?_cons,e']
   rw[eU e,b];exact h2
  ·have e':¬q.1=k:=fun z=>e (h1.trans z);have b:atKey (q::qs) k=atKey qs k:=by simp[atKey,List.find?_cons,e']
   rw[eG e,b];exact ih
theorem KT.repl{H:Hp}{kvs:List (List Key×V)}{xs:List (List Key×Addr×Value)}(r:KT H kvs xs)(k:List Key){y:V}{u:Value}(ry:RelV y u) :
  KT H (kvs.map fun kv=>if kv.1=k then (kv.1,y) else kv) (xs.map (putAt k u)):=by
 induction r with
 |nil=>exact .nil
 |@cons p q ps qs h t ih =>
  rw[List.map_cons,List.map_cons];refine .cons ?_ ih;obtain⟨h1,h2,h3⟩:=h;unfold putAt;by_cases e:p.1=k
  ·rw[if_pos e,if_pos (h1.symm.trans e)];exact⟨h1,h2,ry⟩
  ·rw[if_neg e,if_neg (fun z=>e (h1.trans z))];exact⟨h1,h2,h3⟩
theorem KT.put{H:Hp}{kvs:List (List Key×V)}{xs:List (List Key×Addr×Value)}(r:KT H kvs xs)(k:List Key){b:Addr}{y:V}{u:Value}(hb:H b=some (.tup (k.map kV)))(ry:RelV y u) :
  KT H (putK kvs k y) (storedH xs k b u):=by
 have e:(kvs.any fun kv=>decide (kv.1=k))=(atKey xs k).isSome:=by
  rw[m5,(r.val k).isSome_eq,Option.isSome_map]
 unfold putK storedH;rw[e];by_cases q:(atKey xs k).isSome=true
 ·rw[if_pos q,if_pos q];exact r.repl k ry
 ·rw[if_neg q,if_neg q];exact Paired.snoc r ⟨rfl,hb,ry⟩
theorem KT.keeps{H H':Hp}{kvs:List (List Key×V)}{xs:List (List Key×Addr×Value)}(r:KT H kvs xs)(ht:∀b ys,H b=some (.tup ys)→H' b=some (.tup ys)):KT H' kvs xs :=
 Paired.mapP r fun _ _ z=>⟨z.1,ht _ _ z.2.1,z.2.2⟩
section
variable{P:Program}{w:World}{H:Hp}{h:Heap}{a:Addr}
theorem Q8{u:HO}(ok:HOk P w H h)(e:Rd H a u):dC P w H h a u:=e.ok ok
theorem AI{kvs:List (Key×V)}(ok:HOk P w H h)(e:Rd H a (.dK kvs)):kvs.length≤ZW∧(a==sysModules)=false∧∃vs,KV kvs vs∧h.DictOf (dO P w) a vs :=
 show dC P w H h a (.dK kvs) from Q8 ok e
theorem RC{kvs:List (Key×V)}(ok:HOk P w H h)(e:H a=some (.dK kvs)):kvs.length≤ZW∧(a==sysModules)=false∧∃vs,KV kvs vs∧h.DictOf (dO P w) a vs:=AI ok (.inl e)
theorem BU{ks:List Key}(ok:HOk P w H h)(e:H a=some (.tup (ks.map kV))):(tupleKind (dO P w)).is h ks a:=by
 obtain⟨_,its,r,o,h1,h2,n,h3⟩:=(show dC P w H h a (.tup (ks.map kV)) from ok a _ e)
 exact⟨o,its.toArray,n,h1,h2,h3,by simpa using AF r⟩
theorem IV{kvs:List (List Key×V)}(ok:HOk P w H h)(e:Rd H a (.dT kvs)):kvs.length≤ZW∧(a==sysModules)=false ∧
  ∃xs,KT H kvs xs∧h.DictOfH (tupleKind (dO P w)) a xs:=by
 obtain⟨z,y,xs,r,o,es,ep,h1,h2,h3,h4,h5⟩:=(show dC P w H h a (.dT kvs) from Q8 ok e)
 refine⟨z,y,xs,r,o,es,ep,h1,h2,h3,h4,fun x hx=>?_,h5⟩;have all:∀{l:List (List Key×V)}{m:List (List Key×Addr×Value)},KT H l m→∀x∈m,(tupleKind (dO P w)).is h x.1 x.2.1:=by
  intro l m q;induction q with
  |nil=>intro x hx;exact nomatch hx
  |@cons p q ps qs hq t ih =>
   intro x hx;rcases Zn.mp hx with e | hx
   ·subst e;exact BU ok (by rw[←hq.1];exact hq.2.1)
   ·exact ih x hx
 exact all r x hx
theorem VG{kvs:List (List Key×V)}(ok:HOk P w H h)(e:H a=some (.dT kvs)):kvs.length≤ZW∧(a==sysModules)=false ∧
  ∃xs,KT H kvs xs∧h.DictOfH (tupleKind (dO P w)) a xs:=IV ok (.inl e)
end
def qY(H:Hp)(a:Addr)(y:V)(r:Option V):Prop :=
 (∃kvs k,Rd H a (.dK kvs)∧y=kV k∧r=gC kvs k)∨∃kvs k b,Rd H a (.dT kvs)∧y=.ref b∧H b=some (.tup (k.map kV))∧r=gC kvs k
def LI(H:Hp)(a:Addr)(y v:V)(H':Hp):Prop :=
 (∃kvs k,H a=some (.dK kvs)∧y=kV k∧kvs.length<ZW∧H'=upd H a (.dK (putK kvs k v))) ∨
 ∃kvs k b,H a=some (.dT kvs)∧y=.ref b∧H b=some (.tup (k.map kV))∧kvs.length<ZW∧H'=upd H a (.dT (putK kvs k v))
theorem qY.k{H:Hp}{a:Addr}{kvs:List (Key×V)}{k:Key}(e:H a=some (.dK kvs)):qY H a (kV k) (gC kvs k):=.inl ⟨kvs,k,.inl e,rfl,rfl⟩
theorem LI.k{H:Hp}{a:Addr}{kvs:List (Key×V)}{k:Key}{v:V}(e:H a=some (.dK kvs))(hl:kvs.length<ZW):LI H a (kV k) v (upd H a (.dK (putK kvs k v))):=.inl ⟨kvs,k,e,rfl,hl,rfl⟩
section
variable{X:Cx}{pins:List (Addr×Obj)}{σ:St}{H:Hp}{s:Shared}{a:Addr}{y v:V}{u r:Value}{o:Option V}{A:Around}{E:Value→Shared→Prop}
theorem Inv.big(I:Inv X pins σ H s):sysModules<s.heap.objs.size:=by
 have h:ZV<s.heap.objs.size:=(I.mod.glob.keeps I.bk).lt;exact Nat.lt_trans (by decide) h
theorem K3{Q:Value→Shared→Prop}(hu:A.units+1<cLine)(I:Inv X pins σ H s)(g:qY H a y (some v))(ry:RelV y u)(h:∀w' s',Inv X pins σ H s'→RelV v w'→Q w' s') :
  wpAny (model X.prog X.w) A (getItem (.ref a) u) Q E s:=by
 rcases g with⟨kvs,k,e,ey,l⟩ | ⟨kvs,k,b,e,ey,eb,l⟩
 ·subst ey;obtain⟨z,hd,vs,rel,dd⟩:=AI I.hok e;obtain⟨w',hw,rw'⟩:=uF.some_of (v:=v) (o:=valueAt vs k) (by rw[l];exact rel.val k);exact wpAny_getItem_of (IE ry) dd.mapOf hw (h w' _ (I.tok _) rw')
 ·subst ey;cases (show u=Value.ref b from ry);obtain⟨z,hd,xs,rel,dd⟩:=IV I.hok e;obtain⟨w',hw,rw'⟩:=uF.some_of (v:=v) (o:=(atKey xs k).map (·.2)) (by rw[l];exact rel.val k);obtain⟨p,hp,hp2⟩:=Xz.mp hw;refine wpAny_getItem_heap (tupleKind_room_in1 hu) (BU I.hok eb) dd hp ?_;rw[hp2];exact h w' _ (I.tok _) rw'
theorem QS{Q:Value→Shared→Prop}(hu:A.units+1<cLine)(I:Inv X pins σ H s)(g:qY H a y o)(ry:RelV y u)(h:∀s',Inv X pins σ H s'→Q (.bool (!o.isSome)) s') :
  wpAny (model X.prog X.w) A (compareOp .NotIn u (.ref a)) Q E s:=by
 rcases g with⟨kvs,k,e,ey,l⟩ | ⟨kvs,k,b,e,ey,eb,l⟩
 ·subst ey;obtain⟨z,hd,vs,rel,dd⟩:=AI I.hok e;refine wpAny_notIn_of (IE ry) hd dd.mapOf ?_;rw[←(rel.val k).isSome_eq,←l];exact h _ (I.tok _)
 ·subst ey;cases (show u=Value.ref b from ry);obtain⟨z,hd,xs,rel,dd⟩:=IV I.hok e;refine wpAny_notIn_heap (tupleKind_room_in1 hu) (BU I.hok eb) hd dd ?_;have q:=(rel.val k).isSome_eq;rw[Option.isSome_map]at q;rw[←q,←l];exact h _ (I.tok _)
theorem IZ{h':Heap}{t':Nat}{ob:HO}(I:Inv X pins σ H s)(mu:Mut (H a))(hs:Heap.SameBut a s.heap h')(he:∃q,h'.get? a=some q)(new:dC X.prog X.w (upd H a ob) h' a ob) :
  Inv X pins σ (upd H a ob) { s with heap:=h',toks:=t' } :=
 I.write (x:=a) (e:=a) mu (.inl rfl) (fun b q hb z=>(hs.2 b hb).trans z) he new
theorem TJ{P:Program}{w:World}{H':Hp}{h':Heap}{kvs:List (Key×V)}{vs:List (Key×Value)}(z:kvs.length≤ZW)(hd:(a==sysModules)=false)(rel:KV kvs vs)(dd:h'.DictOf (dO P w) a vs) :
  dC P w H' h' a (.dK kvs):=⟨z,hd,vs,rel,dd⟩
theorem K0{H':Hp}{Q:Unit→Shared→Prop}(hu:A.units+1<cLine)(I:Inv X pins σ H s)(g:LI H a y v H')(ry:RelV y u)(rv:RelV v r)(h:∀s',Inv X pins σ H' s'→Q () s') :
  wpAny (model X.prog X.w) A (setItem (.ref a) u r) Q E s:=by
 rcases g with⟨kvs,k,e,ey,l,eH⟩ | ⟨kvs,k,b,e,ey,eb,l,eH⟩
 ·subst ey eH;obtain⟨z,hd,vs,rel,dd⟩:=RC I.hok e;have hz:vs.length≤ZW:=by rw[←rel.length];exact z
  have hl:(putK kvs k v).length≤ZW:=by have:=nZ kvs k v;lia
  refine wpAny_setItem_pairs (hsz:=hz) (IE ry) dd fun h' dd' hs=>h _ ?_;have he:∃q,h'.get? a=some q:=let⟨q,_,_,hq,_⟩:=dd';⟨q,hq⟩;exact IZ I (by rw[e];exact True.intro) hs he (TJ hl hd (rel.put k rv) dd')
 ·subst ey eH;cases (show u=Value.ref b from ry);obtain⟨z,hd,xs,rel,dd⟩:=VG I.hok e;have hz:xs.length≤ZW:=by rw[←Paired.length rel];exact z
  have hl:(putK kvs k v).length≤ZW:=by have:=nZ kvs k v;lia
  refine wpAny_setItem_heap (hsz:=hz) (tupleKind_room_in1 hu) (BU I.hok eb) dd fun h' dd' hs=>h _ ?_;obtain⟨q,es,ep,hq,h2,h3,h4,_,h5⟩:=dd';refine IZ I (by rw[e];exact True.intro) hs ⟨q,hq⟩ ⟨hl,hd,_,(rel.put k eb rv).keeps fun c ys ec=>?_,q,es,ep,hq,h2,h3,h4,h5⟩;rw[aL (dB ec e (fun z=>nomatch z))];exact ec
end
section
variable{X:Cx}{pins:List (Addr×Obj)}{σ:St}{H:Hp}{s:Shared}{a:Addr}{kvs:List (Key×V)}{k:Key}{u:Value}{A:Around}{E:Value→Shared→Prop}
end
def VO(i:Expr):Prop:=∀ov iv,subscripted i false ov iv=operate [ov,iv] (getItem ov iv)
theorem O0{prog:Program}{w:World}{A:Around}{E:Value→Shared→Prop}{s:Shared}{env:Env}{value slice:Expr}{pos:Pos}{T id:String}{Q:Value→Shared→Prop}
  (hl:typeLookup (.type T) "__getitem__" = pure (some (.builtin id))) (hs:VO slice)
  (h:wpAny (model prog w) A (eval value env) (fun o s₁=>wpAny (model prog w) A (eval slice env) (fun i s₂=>s₂.TypeIs o T∧wpAny (model prog w) A (getItem o i) Q E s₂) E s₁) E s) :
  wpAny (model prog w) A (eval (.Subscript value slice pos) env) Q E s:=by
 refine Subscript_ (ZX h (fun o s₁ h₁=>ZX h₁ (fun i s₂ h₂=>?_) fun _ _ x=>x) fun _ _ x=>x);obtain⟨hT,h₂⟩:=h₂;unfold subscriptTail;refine ZZ ?_;rw[getitemInPython_of_ne hT.not_modules];refine ZZ (wpAny_specialOf hT hl ?_);have fin:wpAny (model prog w) A (subscripted slice false o i) (fun r s₃=>wpAny (model prog w) A (letTemporaryGo value o r >>= fun _=>pure r) Q E s₃) E s₂:=by
  rw[hs o i];exact wpAny_operating (ZX h₂ (fun r s₃ h₃=>ZZ (wpAny_letTemporaryGo (ZY h₃))) fun _ _ x=>x)
 first
  |exact ZY (ZZ fin)
  |exact ZZ (ZY (ZZ fin))
  |exact ZZ fin
theorem EB{X:Cx}{pins:List (Addr×Obj)}{σ:St}{H:Hp}{s:Shared}{a:Addr}{y:V}{o:Option V}(I:Inv X pins σ H s)(g:qY H a y o):s.TypeIs (.ref a) "dict":=by
 rcases g with⟨kvs,k,e,_,_⟩ | ⟨kvs,k,b,e,_,_,_⟩
 ·obtain⟨_,_,vs,_,dd⟩:=AI I.hok e;exact dd.typeIs
 ·obtain⟨_,_,xs,_,dd⟩:=IV I.hok e;exact dd.typeIs
def UC(td ty:TE):TE:=fun σ H Q=>td σ H fun x H1=>ty σ H1 fun y H2=>∃a v,x=.ref a∧qY H2 a y (some v)∧Q v H2
def OY(ty td:TE):TE:=fun σ H Q=>ty σ H fun y H1=>td σ H1 fun x H2=>∃a o,x=.ref a∧qY H2 a y o∧Q (.bl (!o.isSome)) H2
def UQ(td ty tv:TE):TS:=fun D σ H=>tv σ H fun v H1=>td σ H1 fun x H2=>ty σ H2 fun y H3=>∃a H4,x=.ref a∧LI H3 a y v H4∧D.nx σ H4
section
variable{X:Cx}{o i e value:Expr}{pos pos' tpos:Pos}{td ty tv:TE}
theorem vX(hu:X.A.units+1<cLine)(ho:PE X o td)(hi:PE X i ty)(hs:VO i):PE X (.Subscript o i pos) (UC td ty):=by
 intro pins s σ H Q I h;refine O0 PySem.F.slot_dict_getitem.lookup hs (thn (ho pins s σ H _ I h) fun u s1 ⟨x,H1,I1,rx,q1⟩=>thn (hi pins s1 σ H1 _ I1 q1) fun iv s2 ⟨y,H2,I2,ry,a,v,ex,g,q2⟩=>?_);subst ex;obtain rfl:u=Value.ref a:=rx;exact⟨EB I2 g,K3 hu I2 g ry fun w' s3 I3 rw'=>⟨v,H2,I3,rw',q2⟩⟩
theorem zY(hu:X.A.units+1<cLine)(hi:PE X i ty)(ho:PE X o td):PC X .NotIn i o (OY ty td):=by
 intro pins s σ H Q I h;refine thn (hi pins s σ H _ I h) fun iv s1 ⟨y,H1,I1,ry,q1⟩=>thn (ho pins s1 σ H1 _ I1 q1) fun u s2 ⟨x,H2,I2,rx,a,ov,ex,g,q2⟩=>?_;subst ex;obtain rfl:u=Value.ref a:=rx;exact QS hu I2 g ry fun s3 I3=>⟨.bl (!ov.isSome),H2,I3,rfl,q2⟩
theorem BK(hu:X.A.units+1<cLine)(ho:PE X o td)(hi:PE X i ty)(hv:PE X value tv)(hs:swapsWith value (some (.Subscript o i pos')) pos.line X.env=pure false) :
  PS X (.Assign [.Subscript o i pos'] value pos) (UQ td ty tv):=by
 intro pins s σ H D I h;refine wpAny_Assign_Subscript (thn (hv pins s σ H _ I h) fun r s1 ⟨v,H1,I1,rv,q1⟩=>thn (ho pins s1 σ H1 _ I1 q1) fun u s2 ⟨x,H2,I2,rx,q2⟩=>thn (hi pins s2 σ H2 _ I2 q2) fun iv s3 ⟨y,H3,I3,ry,a,H4,ex,g,q3⟩=>?_) hs;subst ex;obtain rfl:u=Value.ref a:=rx;exact K0 hu I3 g ry rv fun s4 I4=>⟨σ,H4,I4,q3⟩
end
theorem N8{P:Program}{w:World}{H:Hp}(h:Heap)(hb:sysModules<h.objs.size):dC P w H (h.push { cls:=.type "dict",data:=.dict #[] }) h.objs.size (.dK []) :=
 ⟨Nat.zero_le _,beq_eq_false_iff_ne.mpr (Ne.symm (Nat.ne_of_lt hb)),[],.nil,Heap.DictOf.new h⟩
def RI:TE:=fun _ H Q=>∀p,H p=none→Q (.ref p) (upd H p (.dK []))
section
variable{X:Cx}{pos:Pos}
theorem xC:PE X (.Dict [] [] pos) RI:=fun pins s σ H Q I h =>
 wpAny_Dict_empty ⟨.ref s.heap.objs.size,_,I.laid (a:=s.heap.objs.size) (o:=.dK []) (t':=s.toks) (fun _ _ q=>Heap.get?_push_of_some _ q) (Nat.le_refl _) (N8 s.heap I.big),rfl,h _ (I.hok.fresh (Nat.le_refl _))⟩
end
end L2
namespace L2
open PySem PySem.Spec PyProof.Rows
section
variable{X:Cx}{e ste:Expr}{te:TE}{lo hi:Option Expr}{tl th tk:TO}{pos p2:Pos}
end
end L2
namespace L2
open PySem PyProof.Rows
theorem LV{l:List Nat}{i:Nat}{x:V}(h:(vns l)[i]?=some x):i<l.length∧x=vn (l.getD i 0):=by
 rw[Zk]at h;obtain⟨y,h1,h2⟩:=Xz.mp h;obtain⟨hi,rfl⟩:=Zj.mp h1;exact⟨hi,by rw[←h2];simp[List.getD,hi]⟩
theorem vU{rs:List Addr}{i:Nat}{x:V}(h:(rs.map V.ref)[i]?=some x):∃r,rs[i]?=some r∧x=.ref r:=by
 rw[Zk]at h;obtain⟨r,h1,h2⟩:=Xz.mp h;exact⟨r,h1,h2.symm⟩
end L2
namespace L2
open PySem PySem.Spec PyProof.Rows
section
variable{P:Program}{w:World}{H H':Hp}{h h':Heap}{a:Addr}{o:HO}
theorem dC.here(x:dC P w H h a o):∃u,h.get? a=some u:=by
 cases o with
 |lst xs=>exact let⟨_,_,_,_,e⟩:=x;⟨_,e⟩
 |tup xs=>exact let⟨_,_,_,_,e,_⟩:=x;⟨_,e⟩
 |dK kvs=>exact let⟨_,_,_,_,_,_,_,e,_⟩:=x;⟨_,e⟩
 |dT kvs=>exact let⟨_,_,_,_,_,_,_,e,_⟩:=x;⟨_,e⟩
 |set S n=>exact let⟨_,_,_,_,e,_⟩:=x;⟨_,e⟩
 |ins C dx fs=>exact let⟨_,_,_,e,_⟩:=x;⟨_,e⟩
 |own y=>exact x
 |xd fs=>obtain⟨_,h1,_⟩:=x;obtain⟨_,_,_,e,_⟩:=h1;exact⟨_,e⟩
 |rng lo hi=>exact let⟨_,_,_,e⟩:=x;⟨_,e⟩
 |frz ob u=>exact⟨_,x.1⟩
 |tbl ps=>exact⟨_,(show h.get? a=some _ from x)⟩
 |met f y=>exact⟨_,(show h.get? a=some _ from x)⟩
 |ext φ=>exact x.2.1
theorem HOk.gone(x:HOk P w H h)(e:h.get? a=none):H a=none:=by
 cases q:H a with
 |none=>rfl
 |some o =>
  obtain⟨u,z⟩:=(x a o q).here;rw[e]at z;cases z
theorem HOk.hid{fs:List Addr}(x:HOk P w H h)(n:∀b∈fs,H b=none):HOk P w H (PySem.W.hideAll h fs):=fun a o e=>by
 refine(x a o e).stay (fun b u hb q=>PySem.W.hideAll_get fs q fun m=>?_) (fun _ q=>q) fun _ _ q=>q;have z:=n b m;rcases hb with rfl | hb
 ·rw[z]at e;cases e
 ·rw[z]at hb;cases hb
end
def CXr(P:Program)(w:World)(C:Addr):CXT:=fun outer H s E e s' =>
 ∃(x:Addr) (a0:Value) (B:Heap) (H':Hp),e=.ref x∧s'.os=s.os∧AllBare s'.gens∧Un (frs outer) [] H H' s.heap s'.heap ∧
  (∀b o,s.heap.get? b=some o→H b=none→b∉frs outer→B.get? b=some o)∧(∀b o,s.heap.get? b=some o→b∉frs outer→∃u,B.get? b=some u)∧HOk P w H' B∧Heap.FlyingW B outer x (.ref C) a0 s'.heap∧E e none H'
theorem TC{K:PySem.W.Frag}{h:Heap}{C:Addr}{bmB:List Value}{newId:String}(X:K.In h)(q:PySem.W.excIn K C bmB newId=true) :
  ∃bm N nm qn bs hdct sn sub ab col dd k0 k1 k2 k3 k5 mN,h.get? C=some (excClassObj nm qn C N bs bm hdct sn sub ab col dd k0 k1 k2 k3 k5 newId)∧h.Ns N mN∧mN "__init__" = none∧OwnTail h bmB bm:=by
 unfold PySem.W.excIn at q;split at q
 ·rename_i dd cd sl ho
  split at q
  ·rename_i C' bm k0 k1 k2 k3 n k5 hm hs
   simp only[Xw,beq_iff_eq,Bool.not_eq_true']at q;obtain⟨⟨⟨⟨⟨e1,e2⟩,e3⟩,e4⟩,e5⟩,e6⟩:=q;subst e1;subst e2;cases cd with
   |mk nm bs mro ns qn hd sn sub ab col del =>
    cases sl with
    |mk l =>
     change mro=_ at hm;change l=_ at hs;change del=false at e3;cases hm;cases hs;cases e3;refine⟨bm,ns,nm,qn,bs,hd,sn,sub,ab,col,dd,k0,k1,k2,k3,k5,h.nsMap ns,?_,?_,?_,PySem.W.tail_of_in X e4⟩
     ·exact X _ _ ho
     ·exact Heap.Ns.of_isNs (PySem.W.isNs_of_in X e5)
     ·exact PySem.W.nsMap_none_of_in X e5 e6
  ·cases q
 ·cases q
def RH(E:XK):TS:=fun _ _ H=>∀x:Addr,E (.ref x) none H
section
variable{P:Program}{w:World}{K:PySem.W.Frag}{mg:Str→Option Value}{base:Heap}{N:List Str}{qual:Str}{scope:Scope}{f C:Addr}{cd:Value}{A:Around}{outer:List Env}{s₀:Shared}{H₀:Hp}{E:XK}
 {x:Str}{Bs newId initId:String}{bm:List Value}{np cpos pos p:Pos}{msg:Str}{j:Nat}
theorem kX(O:PySem.W.excIn K C bm newId=true)(FB:ExcBaseFacts Bs newId initId bm)(hm:mg x=some (.ref C))(hg:scope.names.lookup x=some .globalImplicit:=by rfl)(hd:(x==("__debug__" : Str))=false:=by decide) :
  PS (zB (CXr P w C) P w K mg base N qual scope f cd A outer s₀ H₀ E) (.Raise (some (.Call (.Name x np) [.Constant (.str msg) j p] [] cpos)) none pos) (RH E):=by
 intro pins s σ H D I h;obtain⟨bm',N',nm,qn,bs,hdct,sn,sub,ab,col,dd,k0,k1,k2,k3,k5,mN,hC,hN,hni,T⟩:=TC I.ok.mod.kin O;refine wpAny_Raise_call_subT (nm:=nm) (q:=qn) (C:=C) (N:=N') (bs:=bs) (bm:=bm') (hdct:=hdct) (sn:=sn) (sub:=sub) (ab:=ab) (col:=col) (dd:=dd)
  (k0:=k0) (k1:=k1) (k2:=k2) (k3:=k3) (k5:=k5) FB (T.hasType FB.hasBase) (I.ok.hd rfl) rfl hni (sF I hg hm ⟨rfl,?_⟩ hd)
 refine Calls.evalArgs_plain (thn ((aA dR aC:PA _ [.Constant (.str msg) j p] _) cpos pins s σ H (fun vs H1=>vs.length=1∧H1=H) I ⟨rfl,rfl⟩) ?_);rintro us s2 ⟨vs,H2,I2,r,hl,rfl⟩;refine⟨rfl,?_,I2.bk C _ hC,hN.keeps I2.bk,T.keeps I2.bk,fun h' e hx=>?_⟩
 ·show us.length≤ZW;rw[←r.length,hl];decide
 ·have hst:s2.heap.FunFrames base (envOfC qual scope s₀.heap.objs.size f cd::outer):=I2.stack;have hin:∀env∈envOfC qual scope s₀.heap.objs.size f cd::outer,∀b,env.frame=some b→b∈frs (envOfC qual scope s₀.heap.objs.size f cd::outer):=fun env he b hb=>List.mem_filterMap.mpr ⟨env,he,hb⟩;have hfree:∀b∈frs (envOfC qual scope s₀.heap.objs.size f cd::outer),H2 b=none:=I2.stkFree;have hub:Un (frs outer) [] H₀ H2 s₀.heap s2.heap:=I2.base;have old:∀b o,s₀.heap.get? b=some o→b∉frs outer→b∉frs (envOfC qual scope s₀.heap.objs.size f cd::outer):=fun b o hb hn hm=>by
   obtain⟨env,he,hf⟩:=List.mem_filterMap.mp hm;rcases Zn.mp he with rfl | he
   ·have z:s₀.heap.objs.size=b:=Option.some.inj hf;exact Nat.lt_irrefl _ (z▸Heap.lt_size hb)
   ·exact hn (List.mem_filterMap.mpr ⟨env,he,hf⟩)
  have sub:∀b,b∈frs outer→b∈frs (envOfC qual scope s₀.heap.objs.size f cd::outer):=fun b hb=>by
   obtain⟨env,he,hf⟩:=List.mem_filterMap.mp hb;exact List.mem_filterMap.mpr ⟨env,Zw _ he,hf⟩
  refine wpAny_leaves_madeW (base:=PySem.W.hideAll s2.heap (frs (envOfC qual scope s₀.heap.objs.size f cd::outer))) (h:=s2.heap) (L:=s₀.heap.objs.size) I2.ok.frames rfl
   (fun b o q=>PySem.W.of_hideAll _ q) (PySem.W.funFrames_hide hst hin) hx fun h2 t f1 f2 f3 f4=>?_
  have kp:∀b o,s2.heap.get? b=some o→b∉frs (envOfC qual scope s₀.heap.objs.size f cd::outer)→h2.get? b=some o:=fun b o q n=>f1.1 b o (PySem.W.hideAll_get _ q n);have sl:∀b o,s2.heap.get? b=some o→b∈frs (envOfC qual scope s₀.heap.objs.size f cd::outer)→∃z,h2.get? b=some { o with slots:=z }:=fun b o q m=>by
   obtain⟨_,o',ho',hd'⟩:=hst.mem m;rw[q]at ho';cases ho';exact f4 b o (hx.keeps b o q) hd'
  refine⟨e,.ref t,_,H2,rfl,I2.os,I2.bare,⟨?_,?_,hub.free,?_,hub.tups,hub.frzs,hub.tbls⟩,?_,?_,I2.hok.hid hfree,f1,h e⟩
  ·exact fun b o q n hb hx=>kp b o (hub.keep b o q n hb hx) (old b o q hb)
  ·intro b o q n hb hx;obtain⟨z,e1⟩:=hub.slot b o q n hb hx;obtain⟨z',e2⟩:=sl b _ e1 (sub b hb);exact⟨z',e2⟩
  ·intro b o q hx;obtain⟨o',e1⟩:=hub.there b o q hx;by_cases hm:b∈frs (envOfC qual scope s₀.heap.objs.size f cd::outer)
   ·obtain⟨z,e2⟩:=sl b _ e1 hm;exact⟨_,e2⟩
   ·exact⟨_,kp b _ e1 hm⟩
  ·exact fun b o q n hb=>PySem.W.hideAll_get _ (hub.keep b o q n hb (by simp)) (old b o q hb)
  ·intro b o q hb;obtain⟨u,z⟩:=hub.there b o q (by simp);exact⟨u,PySem.W.hideAll_get _ z (old b o q hb)⟩
end
end L2
namespace L2
open PySem PySem.Spec PyProof.Rows
def yB(C x:Addr):HO:=.ext fun h=>∃o,h.get? x=some o∧o.cls=.ref C
theorem QQ{P:Program}{w:World}{H:Hp}{h:Heap}{C x:Addr}{o:Obj}(e:h.get? x=some o)(c:o.cls=.ref C):dC P w H h x (yB C x) :=
 ⟨⟨o,e,c⟩,⟨o,e⟩,fun _ _ ⟨u,e1,c1⟩ k=>⟨u,k u e1,c1⟩⟩
abbrev Cx.at'(X:Cx)(A:Around)(calm:Bool)(pn:List (Addr×Obj))(xe:Value→Shared→Prop):Cx:={ X with A:=A,calm:=calm,pn:=pn,xe:=xe }
abbrev Q1(X:Cx)(pn:List (Addr×Obj))(xe:Value→Shared→Prop):Cx:=X.at' X.A X.calm pn xe
abbrev yN(X:Cx)(pn:List (Addr×Obj))(xe:Value→Shared→Prop)(e:Addr):Cx:=X.at' (X.A.mark (some (.ref e))) false pn xe
section
variable{X:Cx}{pins pins' pn:List (Addr×Obj)}{σ:St}{H H':Hp}{s s':Shared}{A:Around}{calm:Bool}{xe:Value→Shared→Prop}
theorem Inv.swap(I:Inv X pins σ H s)(hp:∀p∈pn++pins',p∈X.pn++pins)(hA:A.frames=X.A.frames)(hc:calm=true→A.handled=none):Inv (X.at' A calm pn xe) pins' σ H s :=
 let o:=I.ok
 ⟨⟨o.mod,o.kind,o.glob,o.blt,o.above,o.inj,o.has,o.cab,hc,hA.trans o.frames,o.stk,o.exf,o.bs,o.bsz,o.noex,o.exfs,o.funs,o.frf⟩,I.os,I.bare,I.base,I.loc,I.cell,I.free,I.freeC,fun p q=>I.pin p (hp p q),I.hok,I.len⟩
theorem Inv.unset{m:Str→Option Value}{h':Heap}{i:Nat}{x:Str}{u:Option Value}(I:Inv X pins σ H s)(nd:X.N.Nodup)(hi:X.N[i]?=some x)(hn:s.heap.Ns X.env.locals m)
  (hl:∀(i:Nat) (x:Str) (v:V),X.N[i]?=some x→σ[i]?=some (some v)→Vis X.env.scope x→∃u,RelV v u∧Look X.env s.heap m x u)
  (hn':h'.Ns X.env.locals fun y=>if y=x then u else m y) (hs:Heap.SameBut X.env.locals s.heap h'):Inv X pins (σ.set i none) H { s with heap:=h' }:=by
 have cne:=I.cne;have old:∀b o,X.s₀.heap.get? b=some o→b≠X.env.locals:=fun b o e=>Nat.ne_of_lt (Yt (Heap.lt_size e) I.ok.above);refine⟨I.ok,I.os,I.bare,⟨fun b o e n hb hx=>?_,fun b o e n hb hx=>?_,I.base.free,fun b o e hx=>?_,I.base.tups,I.base.frzs,I.base.tbls⟩,⟨_,hn',fun k y v e1 e2 e3=>?_⟩,fun y c e=>?_,I.free,I.freeC,fun p hp=>?_,?_,by simpa using I.len⟩
 ·exact(hs.2 b (old b o e)).trans (I.base.keep b o e n hb hx)
 ·obtain⟨sl,q⟩:=I.base.slot b o e n hb hx;exact⟨sl,(hs.2 b (old b o e)).trans q⟩
 ·obtain⟨o',q⟩:=I.base.there b o e hx;exact⟨o',(hs.2 b (old b o e)).trans q⟩
 ·by_cases hk:k=i
  ·subst hk;by_cases hlt:k<σ.length
   ·rw[List.getElem?_set_self hlt]at e2;cases e2
   ·rw[Zr (by simpa using hlt)]at e2;cases e2
  ·rw[List.getElem?_set_ne (Ne.symm hk)]at e2;obtain⟨u',r',q⟩:=hl k y v e1 e2 e3;refine⟨u',r',?_⟩;have hy:y≠x:=fun z=>hk (xI nd e1 (z▸hi));rcases q with⟨kd,e⟩ | ⟨kd,c,e,z⟩
   ·exact .inl ⟨kd,by simp[hy,e]⟩
   ·exact .inr ⟨kd,c,e,z.sameBut hs (cne y c e)⟩
 ·obtain⟨w',z⟩:=I.cell y c e;exact⟨w',z.sameBut hs (cne y c e)⟩
 ·obtain⟨e,n,ne,nf,d⟩:=I.pin p hp;exact⟨(hs.2 p.1 ne).trans e,n,ne,nf,d⟩
 ·intro b ob e;refine(I.hok b ob e).stay (fun c w' hc q=>(hs.2 c ?_).trans q) (fun _ q=>q) fun _ _ q=>q;rintro rfl;rcases hc with rfl | hc
  ·rw[I.free]at e;cases e
  ·rw[I.free]at hc;cases hc
theorem pE{M:Model}{A:Around}{E:Value→Shared→Prop}{i:Nat}{x:Str}{pos:Pos}{Q:Unit→Shared→Prop}(I:Inv X pins σ H s)(nd:X.N.Nodup)(hi:X.N[i]?=some x)(hk:X.env.scope.names.lookup x=some .local)
  (h:∀s',Inv X pins (σ.set i none) H s'→Q () s'):wpAny M A (do bindName X.env x .none;unbindBehindTheSuite X.env x pos) Q E s:=by
 have hcls:(X.env.scope.kind==.class||(X.env.scope.kind==.module&&X.env.locals != X.env.globals))=false:=by rw[I.ok.kind];rfl
 refine ZZ (wpAny_bindName (iM (v:=.non) I nd hi (.inl hk) rfl (fun s2 I2=>?_) (.inr hk)));have hiσ:i<σ.length:=by rw[I.len];exact(Zj.mp hi).1
 obtain⟨m,hn,hl⟩:=I2.loc;obtain⟨u,_,q⟩:=hl i x .non hi (List.getElem?_set_self hiσ) (.inl hk);have hv:m x=some u:=by
  rcases q with⟨_,e⟩ | ⟨kd,_⟩
  ·exact e
  ·have kd:X.env.scope.names.lookup x=some .cell∨X.env.scope.names.lookup x=some .free:=kd;rw[hk]at kd;rcases kd with kd | kd<;>cases kd
 unfold unbindBehindTheSuite;refine wpAny_onRaise (wpAny_unbindName_local hk hn hv hcls fun h' w hn' hs=>h _ ?_);have z:=I2.unset nd hi hn hl hn' hs
 rwa [List.set_set]at z
end
theorem Inv.track{X:Cx}{pins:List (Addr×Obj)}{σ:St}{H:Hp}{s:Shared}{x:Addr}{o:HO}(I:Inv X pins σ H s)(hx:H x=none)(n0:X.s₀.heap.get? x=none)(nl:x≠X.env.locals)
  (nc:∀y c,X.env.cells.lookup y=some c→c≠x) (np:∀p∈X.pn++pins,p.1≠x) (ok:dC X.prog X.w (upd H x o) s.heap x o):Inv X pins σ (upd H x o) s:=by
 have ne:∀{b:Addr}{u:HO},H b=some u→b≠x:=fun {b u} e z=>by rw[z,hx]at e;cases e
 refine⟨I.ok,I.os,I.bare,⟨I.base.keep,I.base.slot,fun b u e n hb=>?_,I.base.there,fun b xs e=>?_,fun b u v e=>?_,fun b ps e=>?_⟩,I.loc,I.cell,?_,fun y c e=>?_,fun p hp=>?_,fun b u e=>?_,I.len⟩
 ·rw[aL (fun z=>by rw[z,n0]at e;cases e)];exact I.base.free b u e n hb
 ·have z:=I.base.tups b xs e;rw[aL (ne z)];exact z
 ·have z:=I.base.frzs b u v e;rw[aL (ne z)];exact z
 ·obtain⟨more,z⟩:=I.base.tbls b ps e;exact⟨more,by rw[aL (ne z)];exact z⟩
 ·rw[aL (Ne.symm nl)];exact I.free
 ·rw[aL (nc y c e)];exact I.freeC y c e
 ·obtain⟨e,n,r⟩:=I.pin p hp;exact⟨e,by rw[aL (np p hp)];exact n,r⟩
 ·by_cases hb:b=x
  ·subst hb;rw[aB]at e;cases e;exact ok
  ·rw[aL hb]at e;exact(I.hok b u e).stay (fun _ _ _ q=>q) (fun c q=>by rw[aL (ne q)];exact q) fun c xs q=>by rw[aL (ne q)];exact q
def VS(n i:Nat)(C:Addr)(E:XK)(tb ts:TS):TS:=fun D σ H=>tb D σ H∧∀(x:Addr) (σ':St) (H':Hp),σ'.length=n→E (.ref x) none H'→H' x=none →
 ts { nx:=fun σ2 H2=>D.nx (σ2.set i none) H2,rt:=D.rt,bk:=fun σ2 H2=>D.bk (σ2.set i none) H2,ct:=fun σ2 H2=>D.ct (σ2.set i none) H2 } (σ'.set i (some (.ref x))) (upd H' x (yB C x))
section
variable{X:Cx}{C Cb:Addr}{E:XK}{body suite:List Stmt}{b₀:Stmt}{y n:Str}{i:Nat}{np hpos pos:Pos}{tb ts:TS}
theorem C8(hx0:X.ex=[])(hst:X.stack=X.env::X.outer)(hf:X.env.frame=some X.env.locals)(hcalm:X.calm=true)(hm:X.mg y=some (.ref Cb))(hg:Gl X y)(hex:PySem.W.exmOne X.K (.ref C) (.ref Cb)=some true)
  (nd:X.N.Nodup) (hi:X.N[i]?=some n) (hl:X.env.scope.names.lookup n=some .local) (hb:∀pn xe,mI (CXr X.prog X.w C) (Q1 X pn xe) E→PSs (Q1 X pn xe) body tb)
  (hs:∀pn xe e,PSs (yN X pn xe e) (b₀::suite) ts) (hd:(y==("__debug__" : Str))=false:=by decide) :
  PS X (.Try body [.ExceptHandler (some (.Name y np)) (some n) (b₀::suite) hpos] [] [] pos) (VS X.N.length i C E tb ts):=by
 intro pins s σ H D I ⟨h1,h2⟩;refine wpAny_Try_except ?_;refine ZX (hb (X.pn++pins) _ ?pass [] s σ H D (I.swap (by simp) rfl I.ok.hd) h1) ?fin fun e s' he=>he
 case fin =>
  intro f s' hf;cases f with
  |next =>
   obtain⟨σ',H',J,q⟩:=hf;exact ZY ⟨σ',H',J.swap (A:=X.A) (calm:=X.calm) (pn:=X.pn) (xe:=X.xe) (pins':=pins) (by simp) rfl I.ok.hd,q⟩
  |brk =>
   obtain⟨σ',H',J,q⟩:=hf;exact⟨σ',H',J.swap (A:=X.A) (calm:=X.calm) (pn:=X.pn) (xe:=X.xe) (pins':=pins) (by simp) rfl I.ok.hd,q⟩
  |cont =>
   obtain⟨σ',H',J,q⟩:=hf;exact⟨σ',H',J.swap (A:=X.A) (calm:=X.calm) (pn:=X.pn) (xe:=X.xe) (pins':=pins) (by simp) rfl I.ok.hd,q⟩
  |ret u =>
   obtain⟨v,σ',H',J,r,q⟩:=hf;exact⟨v,σ',H',J.swap (A:=X.A) (calm:=X.calm) (pn:=X.pn) (xe:=X.xe) (pins':=pins) (by simp) rfl I.ok.hd,r,q⟩
 case pass =>
  intro pins' σ1 H1 s1 e s' I1 hc;obtain⟨x,a0,B,H',rfl,hos,bare,un,kB,tB,okB,fly,hE⟩:=hc;have J1:Inv X pins σ1 H1 s1:=I1.swap (A:=X.A) (calm:=X.calm) (pn:=X.pn) (xe:=X.xe) (pins':=pins) (fun p q=>List.mem_append_left _ q) rfl I.ok.hd;have fly:Heap.FlyingW B X.stack x (.ref C) a0 s'.heap:=fly;have un:Un (frs X.stack) [] H1 H' s1.heap s'.heap:=un;have kB:∀b o,s1.heap.get? b=some o→H1 b=none→b∉frs X.stack→B.get? b=some o:=kB;have tB:∀b o,s1.heap.get? b=some o→b∉frs X.stack→∃u,B.get? b=some u:=tB;have hfree:∀b∈frs X.stack,H1 b=none:=J1.stkFree;have xfree:H' x=none:=okB.gone fly.2.1;have next:∀h5,Heap.FlyingW B X.stack x (.ref C) a0 h5→s'.heap.UpToSlots h5→Inv X pins σ1 H' { s' with heap:=h5 }:=fun h5 f5 up=>by
   refine J1.call' (ch:=[]) hos ⟨fun b o q n hb _=>f5.1 b o (kB b o q n hb),fun b o q n hb hx=>?_,un.free,fun b o q hx=>?_,un.tups,un.frzs,un.tbls⟩ (okB.kept f5.1) bare (fun b z=>absurd z (by simp))
   ·obtain⟨sl,e1⟩:=un.slot b o q n hb hx;obtain⟨_,o',e2,nf⟩:=J1.stack.mem hb;rw[q]at e2;cases e2;obtain⟨sl',e3⟩:=up b _ e1 nf;exact⟨sl',e3⟩
   ·cases e4:H1 b with
    |some ho =>
     obtain⟨u,z⟩:=tB b o q fun hb=>by rw[hfree b hb]at e4;cases e4
     exact⟨u,f5.1 b u z⟩
    |none =>
     by_cases hb:b∈frs X.stack
     ·obtain⟨sl,e1⟩:=un.slot b o q e4 hb hx;obtain⟨_,o',e2,nf⟩:=J1.stack.mem hb;rw[q]at e2;cases e2;obtain⟨sl',e3⟩:=up b _ e1 nf;exact⟨_,e3⟩
     ·exact⟨_,f5.1 b o (kB b o q e4 hb)⟩
  have hfr:X.A.frames=some (X.env::X.outer):=by rw[←hst];exact I.ok.frames
  rw[hst]at fly next;refine wpAny_looks_onW hfr hf fly fun h4 held4 up4=>?_;refine wpAny_landsW held4 fun h5 fly5 up5=>?_;have J5:=next h5 fly5 (up4.trans up5);refine wpAny_handleBy_cons (codeAny_handlers_test ?_) (by intro q;cases q);have C5:∀xe,Inv (yN X (X.pn++pins) xe x) [] σ1 H' { s' with heap:=h5 }:=fun xe=>J5.swap (by simp) rfl (fun z=>by cases z);refine sF (C5 fun _ _=>True) hg hm ?_ hd;obtain⟨ob,hob,hcl⟩:=fly5.there;have LT:PySem.W.Looks (model X.prog X.w) h5 (typeOf (.ref x)) (.ref C):=hcl▸(PySem.W.Looks.ld hob).andThen .now;refine PySem.W.exm_one J5.kIn LT hex _ _ _ _ (fun _ _ q=>q) ?_;refine codeAny_handlers_suite_as ?_;refine lands_againW fly5 fun h6 fly6 up6=>?_;have J6:=next h6 fly6 ((up4.trans up5).trans up6);obtain⟨oe,vs,hoe,hcl6,hda,_⟩:=fly6.first;have nfr:x∉frs X.stack:=fun m=>by
   obtain⟨_,o,e1,nf⟩:=J6.stack.mem m;have e1:h6.get? x=some o:=e1;rw[hoe]at e1;cases e1;exact nf vs hda
  have nl:x≠X.env.locals:=fun z=>nfr (by rw[hst];exact List.mem_filterMap.mpr ⟨X.env,Zd ..,z▸hf⟩);have nB:∀b o,B.get? b=some o→b≠x:=fun b o e z=>by rw[z,fly6.2.1]at e;cases e
  have K6:=J6.track (x:=x) (o:=yB C x) xfree ?n0 nl ?nc ?np (QQ hoe hcl6)
  case n0 =>
   cases e:X.s₀.heap.get? x with
   |none=>rfl
   |some o =>
    obtain⟨o1,e1⟩:=J1.base.there x o e (by rw[hx0];simp);obtain⟨u,e2⟩:=tB x o1 e1 nfr;exact absurd rfl (nB x u e2)
  case nc =>
   intro yy c e z;obtain⟨v,o,e1,e2⟩:=J6.cell yy c e;have e1:h6.get? c=some o:=e1;rw[z,hoe]at e1;cases e1;rw[hda]at e2;cases e2
  case np =>
   intro p hp;obtain⟨e1,e2,e3,e4,_⟩:=J1.pin p hp;refine nB p.1 p.2 (kB p.1 p.2 e1 e2 fun m=>?_);rw[hst]at m;obtain⟨env,he,hf'⟩:=List.mem_filterMap.mp m;rcases Zn.mp he with rfl | he
   ·rw[hf]at hf';exact e3 (Option.some.inj hf').symm
   ·exact e4 (List.mem_filterMap.mpr ⟨env,he,hf'⟩)
  have K7:∀xe,Inv (yN X (X.pn++pins) xe x) [] σ1 (upd H' x (yB C x)) { s' with heap:=h6 }:=fun xe=>K6.swap (by simp) rfl (fun z=>by cases z);refine iM (X:=yN X (X.pn++pins) (fun _ _=>True) x) (v:=.ref x) (K7 _) nd hi (.inl hl) rfl (fun s7 I7=>?_) (.inr hl);refine thn (hs (X.pn++pins) _ x [] s7 _ _ _ (I7.swap (A:=X.A.mark (some (.ref x))) (calm:=false) (pn:=X.pn++pins) (pins':=[]) (fun p q=>q) rfl (fun z=>by cases z)) (h2 x σ1 H' J1.len hE xfree)) ?_;intro f s8 hsp;dsimp only;have back:∀{σ8 H8},Inv (yN X (X.pn++pins) (fun _ _=>True) x) [] σ8 H8 s8→Inv X pins σ8 H8 s8:=fun J=>J.swap (A:=X.A) (calm:=X.calm) (pn:=X.pn) (xe:=X.xe) (pins':=pins) (by simp) rfl I.ok.hd;cases f with
  |next =>
   obtain⟨σ8,H8,J8,q⟩:=hsp;exact pE (back (J8.swap (A:=X.A.mark (some (.ref x))) (calm:=false) (pn:=X.pn++pins) (pins':=[]) (fun p q=>q) rfl (fun z=>by cases z))) nd hi hl fun s9 I9=>⟨_,_,I9,q⟩
  |brk =>
   obtain⟨σ8,H8,J8,q⟩:=hsp;exact pE (back (J8.swap (A:=X.A.mark (some (.ref x))) (calm:=false) (pn:=X.pn++pins) (pins':=[]) (fun p q=>q) rfl (fun z=>by cases z))) nd hi hl fun s9 I9=>⟨_,_,I9,q⟩
  |cont =>
   obtain⟨σ8,H8,J8,q⟩:=hsp;exact pE (back (J8.swap (A:=X.A.mark (some (.ref x))) (calm:=false) (pn:=X.pn++pins) (pins':=[]) (fun p q=>q) rfl (fun z=>by cases z))) nd hi hl fun s9 I9=>⟨_,_,I9,q⟩
  |ret u =>
   obtain⟨v,σ8,H8,J8,r,q⟩:=hsp;exact pE (back (J8.swap (A:=X.A.mark (some (.ref x))) (calm:=false) (pn:=X.pn++pins) (pins':=[]) (fun p q=>q) rfl (fun z=>by cases z))) nd hi hl fun s9 I9=>⟨v,_,_,I9,r,q⟩
end
end L2
namespace L2
open PySem PySem.Spec PyProof.Rows PySem.W
def isExc(C x:Addr)(h:Heap):Prop:=∃o,h.get? x=some o∧o.cls=.ref C
structure uI(K:Frag)(C:Addr):Prop where
 ga:findIn K (.ref C) "__getattribute__" = some (some (.builtin "BaseException.__getattribute__"))
 gt:findIn K (.ref C) "__getattr__" = some none
 cl:findIn K (.ref C) "__class__" = some (some (.builtin "object.__class__"))
 sb:subIn K (.ref C) (.type "BaseException")=some true
 so:subIn K (.ref C) (.type "object")=some true
 ic:isClsIn K C=true
section
variable{prog:Program}{w:World}{A:Around}{E:Value→Shared→Prop}{h:Heap}{g:Array GenState}{d:Drawn}{t:Nat}{os:OsState}{a C:Addr}{K:Frag}
theorem D9{M:Model}(e:isExc C a h):Looks M h (typeOf (.ref a)) (.ref C):=by
 obtain⟨o,h1,h2⟩:=e;exact h2▸(Looks.ld h1).andThen .now
theorem GN{R:Result→Shared→Prop}(X:K.In h)(F1:uI K C)(e:isExc C a h)(hq:R (.ok (.ret (.ref C))) ⟨h,g,d,t,os⟩) :
  codeAny (model prog w) A (.call (.builtin "getset_descriptor.__get__") ⟨[.builtin "object.__class__",.ref a,.ref C],[]⟩) R ⟨h,g,d,t,os⟩:=by
 have L0:=D9 (M:=model prog w) e;have L1:Looks (model prog w) h (isSubtype (.ref C) (.type (".".intercalate ("object.__class__".cutAt '.').dropLast))) true:=by
  rw[F.owner_object_class];exact looks_subIn X F1.so
 have hT:(⟨h,g,d,t,os⟩:Shared).TypeIs (.builtin "object.__class__") "getset_descriptor":=F.typeOf_object_class;refine codeAny_call_builtin F.slot_gs_get.plain F.entry_gs_get (F.slot_gs_get.check _ _ _ _ _ _ _ _ hT (F.args_gs_get _ _ _) ?_)
 repeat (any_goals (first | assumption | (with_reducible refine L0.at ?_) | (with_reducible refine L1.at ?_) | wp_step))
 refine⟨Code.quiet_builtin _ (by decide +kernel),codeAny_builtin F.entry_object_class ?_⟩
 repeat (any_goals (first | assumption | (with_reducible refine L0.at ?_) | wp_step))
theorem B0{tk:Tok}{Q:Fin→Shared→Prop}(X:K.In h)(F1:uI K C)(e:isExc C a h)(hq:Q (.done (.ret (.ref C))) ⟨h,g,d,t,os⟩) :
  wpAny (model prog w) A (Builtin.«object.__getattribute__» ⟨[.ref a,.str "__class__" tk],[]⟩) Q E ⟨h,g,d,t,os⟩:=by
 have L0:=D9 (M:=model prog w) e;have L1:=looks_findIn (M:=model prog w) X F1.cl;have hT:(⟨h,g,d,t,os⟩:Shared).TypeIs (.builtin "object.__class__") "getset_descriptor":=F.typeOf_object_class;have f5:=F.typeOf_object_class;have f6:=F.slot_gs_get.lookup;have f7:=F.slot_gs_set.lookup
 repeat (any_goals (first | assumption | (with_reducible refine L0.at ?_) | (with_reducible refine L1.at ?_) | wp_step))
 refine GN X F1 e ?_
 repeat (any_goals (first | assumption | wp_step))
theorem D8{M:Model}{nameV:Value}{Q:Unit→Shared→Prop}(X:K.In h)(F1:uI K C)(e:isExc C a h)(hq:Q () ⟨h,g,d,t,os⟩) :
  wpAny M A (checkBuiltinCall "BaseException.__getattribute__" ⟨[.ref a,nameV],[]⟩) Q E ⟨h,g,d,t,os⟩:=by
 have hk:builtinKind "BaseException.__getattribute__" = some .slot:=by decide +kernel
 have hsplit:splitId "BaseException.__getattribute__" = some ("BaseException","__getattribute__"):=by decide +kernel
 have ha:=F.args_bexc_ga (.ref a) nameV;have L0:=D9 (M:=M) e;have L1:=looks_subIn (M:=M) X F1.sb;simp only[checkBuiltinCall,hk,hsplit];unfold isInstance
 repeat (first | (with_reducible refine L0.at ?_) | (with_reducible refine L1.at ?_) | wp_step)
 all_goals exact hq
theorem KZ{tk:Tok}{Q:Value→Shared→Prop}(X:K.In h)(F1:uI K C)(e:isExc C a h)(hq:Q (.ref C) ⟨h,g,d,t,os⟩) :
  wpAny (model prog w) A (getAttrBy (.ref a) (.str "__class__" tk) false) Q E ⟨h,g,d,t,os⟩:=by
 have L0:=D9 (M:=model prog w) e;have L1:=looks_findIn (M:=model prog w) X F1.ga;have L2:=looks_findIn (M:=model prog w) X F1.gt;have f3:=(show Slot "ValueError" "__getattribute__" "BaseException.__getattribute__" from PySem.F.excAttr_ValueError.ga).bind (.ref a);have hx2:(Value.builtin "BaseException.__getattribute__"==Value.builtin "object.__getattribute__")=false:=by decide +kernel
 have hx1:(onTheHeap (Value.ref C)&&Value.builtin "BaseException.__getattribute__"==Value.builtin "object.__getattribute__")=false:=by rw[hx2];rfl
 repeat (any_goals (first | assumption | (with_reducible refine L0.at ?_) | (with_reducible refine L1.at ?_) | (with_reducible refine L2.at ?_) | wp_step))
 refine codeAny_call_builtin (PySem.F.excAttr_ValueError.ga).plain F.entry_bexc_ga (D8 X F1 e (B0 X F1 e ?_))
 repeat (any_goals (first | assumption | wp_step))
theorem D6{Q:Option Value→Shared→Prop}(X:K.In h)(F1:uI K C)(e:isExc C a h)(hq:Q (some (.ref C)) ⟨h,g,d,t+1,os⟩) :
  wpAny (model prog w) A (getAttr? (.ref a) "__class__") Q E ⟨h,g,d,t,os⟩:=by
 unfold getAttr? getAttrBy?
 repeat (any_goals (first | assumption | with_reducible apply KZ X F1 e | wp_step))
end
theorem DO{K:Frag}{x C:Addr}(F1:uI K C):KitX K (.ref x) (.ref C) (isExc C x) where
 ty:=fun _ _ _ p=>D9 p
 it:=fun _ _ X _=>by
  have z:(clsIn K C).isSome=true:=F1.ic;unfold clsIn at z;split at z
  ·rename_i ho
   intro A' Q' E' s' k q;unfold isType loadHead;exact ZZ (wpAny_loadPart (k _ _ (X _ _ ho)) (ZY q))
  ·cases z
 ne:=fun h tp dd its n sl X htp=>by
  refine Bool.eq_false_iff.mpr fun q=>?_;have e:C=tp:=Value.ref.inj (beq_iff_eq.mp q);have z:(clsIn K C).isSome=true:=F1.ic;rw[e]at z;unfold clsIn at z;split at z
  ·rename_i ho
   have y:=(X _ _ ho).symm.trans htp;cases y
  ·cases z
 ca:=fun {_ _ _ _ _ s} X p k=>by
  obtain⟨h,g,d,t,os⟩:=s;exact D6 X F1 p k
structure GZ(K:Frag)(C D:Addr):Prop where
 ic:isClsIn K D=true
 ty:typeIn K (.ref D)=some (.type "type")
 sb:subIn K (.ref C) (.ref D)=some true
 ex:subIn K (.ref D) (.type "BaseException")=some true
structure dS(K:Frag)(C D:Addr):Prop where
 ic:isClsIn K D=true
 ty:typeIn K (.ref D)=some (.type "type")
 sb:subIn K (.ref C) (.ref D)=some false
 ne:(Value.ref C==Value.ref D)=false
theorem ID{K:Frag}{C D:Addr}{b:Bool}(ic:isClsIn K D=true)(ty:typeIn K (.ref D)=some (.type "type"))(sb:subIn K (.ref C) (.ref D)=some b):kitCls K (.ref C) (.ref D)=some b:=by
 have e:((clsIn K D).isSome&&typeIn K (.ref D)==some (.type "type"))=true:=by rw[show(clsIn K D).isSome=true from ic,ty];decide
 unfold kitCls;dsimp only;rw[if_pos e,sb]
theorem GZ.exm{K:Frag}{C D:Addr}(h:GZ K C D):exmOne K (.ref C) (.ref D)=some true:=by
 unfold exmOne;rw[h.ex,if_pos (by decide)];exact ID h.ic h.ty h.sb
theorem dS.one{K:Frag}{C D:Addr}(h:dS K C D):kitOne K (.ref C) (.ref D)=some false:=by
 unfold kitOne;rw[h.ne,if_neg (by decide)];exact ID h.ic h.ty h.sb
theorem oG{K:Frag}{C:Addr}:∀{cs:List Addr},(∀D∈cs,dS K C D)→kitAny K (.ref C) (cs.map Value.ref)=some false
 |[],_=>rfl
 |D::cs,h=>by
  rw[List.map_cons];unfold kitAny;rw[(h D Zd).one];exact oG fun E hE=>h E (Zw _ hE)
theorem DP{K:Frag}{C:Addr}:kitOne K (.ref C) (.ref C)=some true:=by
 unfold kitOne;rw[if_pos (by simp)]
theorem SY{K:Frag}{C:Addr}(sb:subIn K (.ref C) (.type "ValueError")=some true):kitOne K (.ref C) (.type "ValueError")=some true:=by
 have e:kitMeta "ValueError" = true:=by decide +kernel
 unfold kitOne kitCls;dsimp only;rw[if_neg (by intro q;cases beq_iff_eq.mp q),if_pos e,sb]
section
variable{X:Cx}
def TQ(c:V)(u:Value):Prop:=(∃D,c=.ref D∧u=.ref D)∨∃n,c=.ty n∧u=.type n
theorem TQ.is{c:V}{u v:Value}(h:TQ c u)(r:RelV c v):v=u:=by
 rcases h with⟨D,rfl,rfl⟩ | ⟨n,rfl,rfl⟩<;>exact r
theorem fZ:fC X (.builtin "isinstance") (fun xs H Q=>∃x C c u b,xs=[.ref x,c]∧TQ c u∧H x=some (yB C x)∧uI X.K C∧kitOne X.K (.ref C) u=some b∧Q (.bl b) H):=by
 intro pins s σ H xs us Q I r h;obtain⟨x,C,c,u,b,rfl,rc,hx,F1,e,q⟩:=h;obtain⟨u1,v,rfl,r1,r2⟩:=vals2 r;cases (show u1=Value.ref x from r1);cases rc.is r2;have p:isExc C x s.heap:=(show dC X.prog X.w H s.heap x (yB C x) from I.hok x _ hx).1;exact kia_one (DO F1) I.kIn p e (by intro z;cases z) fun tk=>⟨.bl b,H,I.tok tk,rfl,q⟩
theorem wC:∀{cs:List Addr}{us:List Value},bY (cs.map V.ref) us→us=cs.map Value.ref
 |[],_,.nil=>rfl
 |c::cs,_,.cons r t=>by rw[wC t,show _=Value.ref c from r];rfl
theorem mG:fC X (.builtin "isinstance") (fun xs H Q=>∃(x C p:Addr) (cs:List Addr) (b:Bool),xs=[.ref x,.ref p]∧H x=some (yB C x)∧H p=some (.tup (cs.map V.ref))∧uI X.K C∧kitAny X.K (.ref C) (cs.map Value.ref)=some b∧Q (.bl b) H):=by
 intro pins s σ H xs us Q I r h;obtain⟨x,C,p,cs,b,rfl,hx,hp,F1,e,q⟩:=h;obtain⟨u1,v,rfl,r1,r2⟩:=vals2 r;cases (show u1=Value.ref x from r1);cases (show v=Value.ref p from r2);have px:isExc C x s.heap:=(show dC X.prog X.w H s.heap x (yB C x) from I.hok x _ hx).1;obtain⟨_,its,r',o,ho,hc,n,hd⟩:=(show dC X.prog X.w H s.heap p (.tup (cs.map V.ref)) from I.hok p _ hp)
 cases wC r';obtain⟨c,dd,dt,sl⟩:=o;cases (show c=.type "tuple" from hc);cases (show dt=.seq (cs.map Value.ref).toArray n from hd);exact kia_tup (DO F1) I.kIn px ho e (by intro z;cases z) fun tk=>⟨.bl b,H,I.tok tk,rfl,q⟩
end
end L2
namespace L2
open PySem PySem.Spec PyProof.Rows
section
variable{P:Program}{w:World}{K:PySem.W.Frag}{mg:Str→Option Value}{base:Heap}{N:List Str}{qual:Str}{scope:Scope}{f C:Addr}{cd:Value}{A:Around}{outer:List Env}{s₀:Shared}{H₀:Hp}{E:XK}
theorem M6:mI (CXr P w C) (zB (CXr P w C) P w K mg base N qual scope f cd A outer s₀ H₀ E) E:=by
 intro pins σ1 H1 s1 e s' J1 hc;obtain⟨x,a0,B,H',rfl,hos,bare,un,kB,tB,okB,fly,hE⟩:=hc;have fly:Heap.FlyingW B (envOfC qual scope s₀.heap.objs.size f cd::outer) x (.ref C) a0 s'.heap:=fly;have un:Un (frs (envOfC qual scope s₀.heap.objs.size f cd::outer)) [] H1 H' s1.heap s'.heap:=un;have kB:∀b o,s1.heap.get? b=some o→H1 b=none→b∉frs (envOfC qual scope s₀.heap.objs.size f cd::outer)→B.get? b=some o:=kB;have tB:∀b o,s1.heap.get? b=some o→b∉frs (envOfC qual scope s₀.heap.objs.size f cd::outer)→∃u,B.get? b=some u:=tB;have hfree:∀b∈frs (envOfC qual scope s₀.heap.objs.size f cd::outer),H1 b=none:=J1.stkFree;have hst:s1.heap.FunFrames base (envOfC qual scope s₀.heap.objs.size f cd::outer):=J1.stack;have old:∀b o,s₀.heap.get? b=some o→b∉frs outer→b∉frs (envOfC qual scope s₀.heap.objs.size f cd::outer):=fun b o hb hn hm=>by
  obtain⟨env,he,hf⟩:=List.mem_filterMap.mp hm;rcases Zn.mp he with rfl | he
  ·have z:s₀.heap.objs.size=b:=Option.some.inj hf;exact Nat.lt_irrefl _ (z▸Heap.lt_size hb)
  ·exact hn (List.mem_filterMap.mpr ⟨env,he,hf⟩)
 have next:∀h5,B.StaysIn h5→s'.heap.UpToSlots h5→Inv (zB (CXr P w C) P w K mg base N qual scope f cd A outer s₀ H₀ E) pins σ1 H' { s' with heap:=h5 }:=fun h5 f5 up=>by
  refine J1.call' (ch:=[]) hos ⟨fun b o q n hb _=>f5 b o (kB b o q n hb),fun b o q n hb hx=>?_,un.free,fun b o q hx=>?_,un.tups,un.frzs,un.tbls⟩ (okB.kept f5) bare (fun b z=>absurd z (by simp))
  ·obtain⟨sl,e1⟩:=un.slot b o q n hb hx;obtain⟨_,o',e2,nf⟩:=hst.mem hb;rw[q]at e2;cases e2;obtain⟨sl',e3⟩:=up b _ e1 nf;exact⟨sl',e3⟩
  ·cases e4:H1 b with
   |some ho =>
    obtain⟨u,z⟩:=tB b o q fun hb=>by rw[hfree b hb]at e4;cases e4
    exact⟨u,f5 b u z⟩
   |none =>
    by_cases hb:b∈frs (envOfC qual scope s₀.heap.objs.size f cd::outer)
    ·obtain⟨sl,e1⟩:=un.slot b o q e4 hb hx;obtain⟨_,o',e2,nf⟩:=hst.mem hb;rw[q]at e2;cases e2;obtain⟨sl',e3⟩:=up b _ e1 nf;exact⟨_,e3⟩
    ·exact⟨_,f5 b o (kB b o q e4 hb)⟩
 have hub:Un (frs outer) [] H₀ H1 s₀.heap s1.heap:=J1.base;refine wpAny_leaves_onW J1.ok.frames rfl fly fun h' f1 up=>?_;have J5:=next h' f1.1 up;refine⟨x,a0,B,H',rfl,J5.os,bare,J5.base,fun b o q n hb=>kB b o (hub.keep b o q n hb (by simp)) (hub.free b o q n (by simp)) (old b o q hb),fun b o q hb=>?_,okB,f1,hE⟩;obtain⟨o1,e1⟩:=hub.there b o q (by simp);exact tB b o1 e1 (old b o q hb)
end
end L2
namespace L2
open PySem PySem.Spec PyProof.Rows
section
variable{M:Model}{A:Around}{Ex:Value→Shared→Prop}{s:Shared}
end
section
variable{P:Program}{w:World}{K:PySem.W.Frag}{mg:Str→Option Value}{base:Heap}{N:List Str}{qual:Str}{scope:Scope}{f C:Addr}{cd:Value}{A:Around}{outer:List Env}{s₀:Shared}{H₀:Hp}{E:XK}
end
section
variable{X:Cx}{C:Addr}{E:XK}{N:List Str}{scope:Scope}{cl:List (Str×Addr)}{L:Addr}{fp:List Addr}{s:Shared}{H:Hp}
end
end L2
namespace L2
open PySem PySem.Spec PyProof.Rows
section
variable{prog:Program}{w:World}{A:Around}{E:Value→Shared→Prop}{R:Result→Shared→Prop}{s:Shared}
end
section
variable{X:Cx}{C0:Addr}{E0:XK}
end
end L2
namespace L2
open PySem PySem.Spec PyProof.Rows
section
variable{X:Cx}{CX:CXT}{k:Nat}{f:Addr}{fd:FuncData}{ps:List Str}{sp:Sp}{E:XK}{x y:Str}{p pos pos' spos:Pos}{e:Expr}{es:List Expr}{t:TA}{σ:St}{i:Nat}
end
section
variable{X:Cx}{C Cb:Addr}{E:XK}{body suite:List Stmt}{b₀:Stmt}{y n:Str}{i:Nat}{np hpos pos:Pos}{tb ts:TS}
end
end L2
namespace SO
open PySem PyProof PyProof.Rows
structure Kept(k:SortKind)(z:Array Keyed)(t:SortSt):Prop where
 kd:kindOf t=k
 pm:(arrOf t).Perm z
 nf:failedOf t=none
 np:pendingOf t=#[]
def rk(ρ:Keyed→Int)(xs:Array Keyed)(i:Nat):Int:=(xs[i]?.map ρ).getD 0
def Up(ρ:Keyed→Int)(xs:Array Keyed)(m:Nat):Prop:=∀i j,i≤j→j<m→rk ρ xs i≤rk ρ xs j
def Dn(ρ:Keyed→Int)(xs:Array Keyed)(m:Nat):Prop:=∀i j,i≤j→j<m→rk ρ xs j≤rk ρ xs i
theorem C7{ρ:Keyed→Int}{xs ys:Array Keyed}{i j:Nat}(e:xs[i]?=ys[j]?):rk ρ xs i=rk ρ ys j:=by
 simp only[rk,e]
theorem zU{ρ:Keyed→Int}{xs:Array Keyed}{a d:Nat}(ha:a<xs.size)(hd:d≤a)(i:Nat) :
  rk ρ (bubble xs a d) i=if i=a-d then rk ρ xs a else if a-d<i∧i≤a then rk ρ xs (i-1) else rk ρ xs i:=by
 have e:=getElem?_bubble ha d hd i;split
 ·next q=>rw[if_pos q]at e;exact C7 e
 ·next q =>
  rw[if_neg q]at e;split
  ·next q2=>rw[if_pos q2]at e;exact C7 e
  ·next q2=>rw[if_neg q2]at e;exact C7 e
theorem tS{ρ:Keyed→Int}{xs:Array Keyed}{a b:Nat}(hb:b≤xs.size)(i:Nat) :
  rk ρ (mirror xs a b ((b-a) / 2)) i=if a≤i∧i<b then rk ρ xs (a+b-1-i) else rk ρ xs i:=by
 have e:=getElem?_mirror_all (i:=a) hb i;split
 ·next q=>rw[if_pos q]at e;exact C7 e
 ·next q=>rw[if_neg q]at e;exact C7 e
theorem wY{ρ:Keyed→Int}{xs:Array Keyed}{a b:Nat}(hb:b≤xs.size)
  (h:∀i,a≤i→i<b→rk ρ xs i=rk ρ xs (b-1)) (i:Nat):rk ρ (mirror xs a b ((b-a) / 2)) i=rk ρ xs i:=by
 rw[tS hb];by_cases q:a≤i∧i<b
 ·rw[if_pos q];have h1:=h (a+b-1-i) (by omega) (by omega);have h2:=h i q.1 q.2
  lia
 ·rw[if_neg q]
def Tells(M:Model)(A:Around)(E:Value→Shared→Prop)(s:Shared)(k:SortKind)(z:Array Keyed)(ρ:Keyed→Int):Prop :=
 ∀(p q:Keyed) (t:SortSt) (Q:Option Bool→SortSt→Prop),p∈z.toList→q∈z.toList→kindOf t=k →
  Q (some (decide (ρ p<ρ q))) t→wpS M A E s (lt' p q) Q t
section
variable{M:Model}{A:Around}{E:Value→Shared→Prop}{s:Shared}{k:SortKind}{z:Array Keyed}{ρ:Keyed→Int}
theorem Kept.len{t:SortSt}(h:Kept k z t):(arrOf t).size=z.size:=h.pm.size_eq
theorem Kept.put{t:SortSt}(h:Kept k z t){xs:Array Keyed}(q:xs.Perm (arrOf t)):Kept k z (setArr t xs) :=
 ⟨h.kd,q.trans h.pm,h.nf,h.np⟩
theorem Kept.nth{t:SortSt}(h:Kept k z t){i:Nat}(hi:i<z.size) :
  ∃p,(arrOf t)[i]?=some p∧p∈z.toList∧rk ρ (arrOf t) i=ρ p:=by
 have hi':i<(arrOf t).size:=by rw[h.len];exact hi
 have e:(arrOf t)[i]?=some (arrOf t)[i]:=getElem?_pos _ i hi';refine⟨_,e,(Array.perm_iff_toList_perm.mp h.pm).mem_iff.mp (by simp),?_⟩;simp[rk,e]
theorem less(T:Tells M A E s k z ρ){t:SortSt}(h:Kept k z t){i j:Nat}(hi:i<z.size)(hj:j<z.size){Q:Option Bool→SortSt→Prop}
  (q:Q (some (decide (rk ρ (arrOf t) i<rk ρ (arrOf t) j))) t):wpS M A E s (ltAt' i j) Q t:=by
 obtain⟨a,ea,ma,ra⟩:=h.nth (ρ:=ρ) hi;obtain⟨b,eb,mb,rb⟩:=h.nth (ρ:=ρ) hj;rw[ra,rb]at q;rw[ltAt'_eq];refine wpS_bind (wpS_get ?_);have e1:elem' (arrOf t) i=pure a:=by rw[elem'_eq,ea]
 have e2:elem' (arrOf t) j=pure b:=by rw[elem'_eq,eb]
 show wpS M A E s (elem' (arrOf t) i >>= fun u=>elem' (arrOf t) j >>= fun v=>lt' u v) Q t;rw[e1,e2];exact wpS_bind (wpS_pure (wpS_bind (wpS_pure (T a b t Q ma mb h.kd q))))
def Slot(ρ:Keyed→Int)(xs:Array Keyed)(m l r:Nat):Prop :=
 l≤r∧r≤m∧(∀i,i<l→rk ρ xs i≤rk ρ xs m)∧(∀i,r≤i→i<m→rk ρ xs m<rk ρ xs i)
theorem Up.slotted{xs:Array Keyed}{m l:Nat}(hm:m<xs.size)(hu:Up ρ xs m)(h:Slot ρ xs m l l):Up ρ (bubble xs m (m-l)) (m+1):=by
 obtain⟨_,h2,h3,h4⟩:=h;intro i j hij hj;have el:m-(m-l)=l:=by lia
 rw[zU hm (by lia),zU hm (by lia),el];by_cases c1:i<l
 ·rw[if_neg (by lia),if_neg (by lia)];by_cases c2:j=l
  ·rw[if_pos c2];exact h3 i c1
  ·rw[if_neg c2];by_cases c3:l<j∧j≤m
   ·rw[if_pos c3];exact hu _ _ (by lia) (by omega)
   ·rw[if_neg c3];exact hu _ _ hij (by lia)
 ·by_cases c2:j=l
  ·have:i=l:=by lia
   rw[if_pos c2,if_pos this];exact Int.le_refl _
  ·rw[if_neg c2,if_pos (show l<j∧j≤m by lia)];by_cases c3:i=l
   ·rw[if_pos c3];exact Int.le_of_lt (h4 _ (by lia) (by lia))
   ·rw[if_neg c3,if_pos (by lia)];exact hu _ _ (by omega) (by lia)
theorem NY(T:Tells M A E s k z ρ){t:SortSt}{n d:Nat}(hn:n≤z.size)(hd:d≤n)(hK:Kept k z t)(hu:Up ρ (arrOf t) d)
  {Q:Bool→SortSt→Prop}(q:∀t',Kept k z t'→Up ρ (arrOf t') n→Q true t'):wpS M A E s (binarySort' 0 n d) Q t:=by
 rw[binarySort'_eq];simp only[Nat.zero_add];refine wpS_bind (wpS_mono (wpS_forRange (Q:=fun c t'=>c=(none,())∧Kept k z t'∧Up ρ (arrOf t') n)
  (fun m c t'=>c=(none,())∧Kept k z t'∧Up ρ (arrOf t') (min m n)) ?_ ?_ ?_) fun c t' h=>by obtain⟨rfl,a,b⟩:=h;exact wpS_pure (q t' a b))
 ·rintro m c t' h1 h2 ⟨rfl,hK',hu'⟩;rw[Nat.min_eq_left (by lia)]at hu';have hm:m<z.size:=by lia
  have hm':m<(arrOf t').size:=by rw[hK'.len];exact hm
  refine wpS_bind (wpS_mono (wpS_forRange (Q:=fun c t2=>t2=t'∧∃l,c=(none,l,l)∧Slot ρ (arrOf t') m l l)
   (fun x c t2=>t2=t'∧∃l r,c=(none,l,r)∧r-l≤m-x∧Slot ρ (arrOf t') m l r) ?_ ?_ ?_) ?_)
  ·rintro x c t2 _ hx ⟨rfl,l,r,rfl,hs,hS⟩;dsimp only;obtain⟨s1,s2,s3,s4⟩:=hS;by_cases hlr:l≥r
   ·rw[if_pos hlr];exact wpS_pure ⟨rfl,l,by rw[show r=l by lia],Nat.le_refl _,by lia,s3,fun i a b=>s4 i (by lia) b⟩
   ·rw[if_neg hlr];refine wpS_bind (less T hK' hm (show(l+r) / 2<z.size by lia) ?_);by_cases hc:rk ρ (arrOf t2) m<rk ρ (arrOf t2) ((l+r) / 2)
    ·rw[decide_eq_true hc];simp only[if_true];refine wpS_pure ⟨rfl,l,(l+r) / 2,rfl,by omega,by lia,by lia,s3,fun i a b=>?_⟩;exact Int.lt_of_lt_of_le hc (hu' _ _ a b)
    ·rw[decide_eq_false hc];simp only[Bool.false_eq_true,if_false];refine wpS_pure ⟨rfl,(l+r) / 2+1,r,rfl,by omega,by lia,by lia,fun i a=>?_,s4⟩;have:=hu' i ((l+r) / 2) (by lia) (by lia)
     lia
  ·rintro c t2 ⟨rfl,l,r,rfl,hs,hS⟩;have e:r=l:=by have:=hS.1;lia
   subst e;exact⟨rfl,_,rfl,hS⟩
  ·exact⟨rfl,0,m,rfl,by lia,by lia,by lia,fun i a=>by lia,fun i a b=>by lia⟩
  ·rintro c t2 ⟨rfl,l,rfl,hS⟩;dsimp only;rw[moveDown'_eq];refine wpS_bind (wpS_modify (wpS_pure ⟨rfl,hK'.put (bubble_perm _ _ _),?_⟩));rw[Nat.min_eq_left (by lia)];exact hu'.slotted hm' hS
 ·rintro c t' ⟨e,hK',hu'⟩;refine⟨e,hK',?_⟩
  rwa [show min (max (max d 1) n) n=n by lia]at hu'
 ·refine⟨rfl,hK,fun i j hij hj=>?_⟩;by_cases hd0:d=0
  ·rw[show i=j by lia];exact Int.le_refl _
  ·exact hu i j hij (by lia)
end
end SO
namespace SO
open PySem PyProof PyProof.Rows
section
variable{prog:Program}{w:World}{A:Around}{E:Value→Shared→Prop}{s:Shared}{k:SortKind}{z:Array Keyed}{ρ:Keyed→Int}
theorem Up.one(xs:Array Keyed){m:Nat}(h:m≤1):Up ρ xs m:=fun i j a b=>by
 rw[show i=j by lia];exact Int.le_refl _
theorem Up.more{xs:Array Keyed}{m:Nat}(hu:Up ρ xs m)(h:¬rk ρ xs m<rk ρ xs (m-1)):Up ρ xs (m+1):=by
 intro i j a b;by_cases c:j<m
 ·exact hu i j a c
 ·rw[show j=m by lia];by_cases c2:i=m
  ·rw[c2];exact Int.le_refl _
  ·have:=hu i (m-1) (by lia) (by lia);lia
theorem Dn.more{xs:Array Keyed}{m:Nat}(hu:Dn ρ xs m)(h:rk ρ xs m≤rk ρ xs (m-1)):Dn ρ xs (m+1):=by
 intro i j a b;by_cases c:j<m
 ·exact hu i j a c
 ·rw[show j=m by lia];by_cases c2:i=m
  ·rw[c2];exact Int.le_refl _
  ·have:=hu i (m-1) (by lia) (by lia);lia
theorem Dn.same{xs ys:Array Keyed}{m:Nat}(hu:Dn ρ xs m)(h:∀i,rk ρ ys i=rk ρ xs i):Dn ρ ys m:=fun i j a b=>by
 rw[h,h];exact hu i j a b
theorem Dn.turned{xs:Array Keyed}{m:Nat}(hm:m≤xs.size)(hu:Dn ρ xs m):Up ρ (mirror xs 0 m ((m-0) / 2)) m:=fun i j a b=>by
 rw[tS hm,tS hm,if_pos (by lia),if_pos (by lia)];exact hu _ _ (by omega) (by omega)
theorem rising(T:Tells (model prog w) A E s k z ρ){t:SortSt}{a n:Nat}(hn:n≤z.size)(h1:1≤a)(h2:a≤n)(hK:Kept k z t)(hu:Up ρ (arrOf t) a)
  {Q:AscSt→SortSt→Prop}
  (q:∀m,a≤m→m≤n→Up ρ (arrOf t) m→(m=n∨rk ρ (arrOf t) m<rk ρ (arrOf t) (m-1))→Q (none,m) t) :
  wpS (model prog w) A E s (ascLoop a n) Q t:=by
 unfold ascLoop;refine wpS_forRange (fun x c t'=>c=(none,x)∧t'=t∧Up ρ (arrOf t) x) ?_ ?_ ⟨rfl,rfl,hu⟩
 ·rintro x c t' g1 g2 ⟨rfl,rfl,hx⟩;dsimp only;refine wpS_bind (less T hK (show x<z.size by lia) (show x-1<z.size by lia) ?_);by_cases c:rk ρ (arrOf t') x<rk ρ (arrOf t') (x-1)
  ·rw[decide_eq_true c];simp only[if_true];exact wpS_pure (q x g1 (by lia) hx (Or.inr c))
  ·rw[decide_eq_false c];simp only[Bool.false_eq_true,if_false];exact wpS_pure ⟨rfl,rfl,hx.more c⟩
 ·rintro c t' ⟨rfl,rfl,hx⟩;have e:max a n=n:=by lia
  rw[e]at hx ⊢;exact q n h2 (Nat.le_refl _) hx (Or.inl rfl)
def Flat(ρ:Keyed→Int)(xs:Array Keyed)(m e:Nat):Prop:=e+1≤m∧∀i,m-(e+1)≤i→i<m→rk ρ xs i=rk ρ xs (m-1)
theorem Flat.nought(xs:Array Keyed){m:Nat}(h:1≤m):Flat ρ xs m 0:=⟨h,fun i a b=>by rw[show i=m-1 by lia]⟩
theorem Flat.more{xs:Array Keyed}{m e:Nat}(h:Flat ρ xs m e)(g:rk ρ xs m=rk ρ xs (m-1)):Flat ρ xs (m+1) (e+1) :=
 ⟨by have:=h.1;lia,fun i a b=>by
  rw[show m+1-1=m by lia];by_cases c:i=m
  ·rw[c]
  ·rw[g];exact h.2 i (by lia) (by lia)⟩
theorem back(T:Tells (model prog w) A E s k z ρ){t:SortSt}{m n:Nat}(hn:n≤z.size)(h1:1≤m)(h2:m≤n)(hK:Kept k z t)(hd:Dn ρ (arrOf t) m)
  {Q:Option Nat→SortSt→Prop}(q:∀m' t',1≤m'→m'≤n→Kept k z t'→Up ρ (arrOf t') m'→Q (some m') t') :
  wpS (model prog w) A E s (tail3 m n) Q t:=by
 unfold tail3;have hs:m≤(arrOf t).size:=by rw[hK.len];lia
 refine wpS_bind (wpS_reverse ?_);have hK':=hK.put (mirror_perm (arrOf t) 0 m ((m-0) / 2));refine wpS_bind (rising T hn h1 h2 hK' (hd.turned hs) fun m' g1 g2 g3 _=>?_);exact wpS_pure (q m' _ (by lia) g2 hK' g3)
theorem QP(T:Tells (model prog w) A E s k z ρ){t:SortSt}{m n:Nat}(hn:n≤z.size)(h1:1≤m)(h2:m≤n)(hK:Kept k z t)(hd:Dn ρ (arrOf t) m)
  {Q:DescSt→SortSt→Prop}
  (q:∀m' e t',1≤m'→m'≤n→Kept k z t'→Dn ρ (arrOf t') m'→Flat ρ (arrOf t') m' e→Q (none,m',e) t') :
  wpS (model prog w) A E s (descLoop m n) Q t:=by
 unfold descLoop;refine wpS_forRange (fun x c t'=>∃e,c=(none,x,e)∧Kept k z t'∧Dn ρ (arrOf t') x∧Flat ρ (arrOf t') x e) ?_ ?_ ⟨0,rfl,hK,hd,Flat.nought _ h1⟩
 ·rintro x c t' g1 g2 ⟨e,rfl,hK',hx,hF⟩;dsimp only;have hs:x≤(arrOf t').size:=by rw[hK'.len];lia
  refine wpS_bind (less T hK' (show x<z.size by lia) (show x-1<z.size by lia) ?_);by_cases c:rk ρ (arrOf t') x<rk ρ (arrOf t') (x-1)
  ·rw[decide_eq_true c];simp only[if_true];have hm:=hx.more (Int.le_of_lt c);by_cases c2:e>0
   ·rw[if_pos c2];refine wpS_bind (wpS_reverse (wpS_pure ⟨0,rfl,hK'.put (mirror_perm _ _ _ _),hm.same (wY hs hF.2),Flat.nought _ (by lia)⟩))
   ·rw[if_neg c2];exact wpS_pure ⟨0,rfl,hK',hm,Flat.nought _ (by lia)⟩
  ·rw[decide_eq_false c];simp only[Bool.false_eq_true,if_false];refine wpS_bind (less T hK' (show x-1<z.size by lia) (show x<z.size by lia) ?_);by_cases c2:rk ρ (arrOf t') (x-1)<rk ρ (arrOf t') x
   ·rw[decide_eq_true c2];simp only[if_true];exact wpS_pure (q x e t' (by lia) (by lia) hK' hx hF)
   ·rw[decide_eq_false c2];simp only[Bool.false_eq_true,if_false];have e2:rk ρ (arrOf t') x=rk ρ (arrOf t') (x-1):=by lia
    exact wpS_pure ⟨e+1,rfl,hK',hx.more (by lia),hF.more e2⟩
 ·rintro c t' ⟨e,rfl,hK',hx,hF⟩;have e2:max m n=n:=by lia
  rw[e2]at hx hF ⊢;exact q n e t' (by lia) (Nat.le_refl _) hK' hx hF
theorem N5(T:Tells (model prog w) A E s k z ρ){t:SortSt}{m n:Nat}(hn:n≤z.size)(h2:m+1≤n)(hK:Kept k z t)(hd:Dn ρ (arrOf t) (m+1))
  {Q:Option Nat→SortSt→Prop}(q:∀m' t',1≤m'→m'≤n→Kept k z t'→Up ρ (arrOf t') m'→Q (some m') t') :
  wpS (model prog w) A E s (descPart m n) Q t:=by
 unfold descPart;refine wpS_bind (wpS_lift (wpAny_rule ⟨rfl,?_⟩));refine wpS_bind (QP T hn (by lia) h2 hK hd fun m' e t' g1 g2 g3 g4 g5=>?_);dsimp only;have hs:m'≤(arrOf t').size:=by rw[g3.len];lia
 by_cases c:e>0
 ·rw[if_pos c];exact wpS_bind (wpS_reverse (back T hn g1 g2 (g3.put (mirror_perm _ _ _ _)) (g4.same (wY hs g5.2)) q))
 ·rw[if_neg c];exact back T hn g1 g2 g3 g4 q
theorem run(T:Tells (model prog w) A E s k z ρ){t:SortSt}{n:Nat}(hn:n≤z.size)(h1:1≤n)(hK:Kept k z t)
  {Q:Option Nat→SortSt→Prop}(q:∀m' t',1≤m'→m'≤n→Kept k z t'→Up ρ (arrOf t') m'→Q (some m') t') :
  wpS (model prog w) A E s (countRun' 0 n) Q t:=by
 rw[countRun0_eq];refine wpS_bind (rising T hn (Nat.le_refl 1) h1 hK (Up.one _ (Nat.le_refl 1)) fun m g1 g2 g3 g4=>?_);dsimp only;by_cases c:m=n
 ·rw[if_pos (by simpa using c)];exact wpS_pure (q m t g1 g2 hK g3)
 rw[if_neg (by simpa using c)];have lt:=g4.resolve_left c;have hs:m≤(arrOf t).size:=by rw[hK.len];lia
 by_cases c2:m>1
 ·rw[if_pos c2];refine wpS_bind (less T hK (show 0<z.size by lia) (show m-1<z.size by lia) ?_);by_cases c3:rk ρ (arrOf t) 0<rk ρ (arrOf t) (m-1)
  ·rw[decide_eq_true c3];simp only[if_true];exact wpS_pure (q m t g1 g2 hK g3)
  ·rw[decide_eq_false c3];simp only[Bool.false_eq_true,if_false];have lev:∀i,0≤i→i<m→rk ρ (arrOf t) i=rk ρ (arrOf t) (m-1):=fun i _ b=>by
    have a1:=g3 0 i (by lia) b;have a2:=g3 i (m-1) (by lia) (by lia)
    lia
   have hd:Dn ρ (arrOf t) m:=fun i j a b=>by
    rw[lev i (by lia) (by lia),lev j (by lia) b];exact Int.le_refl _
   exact wpS_bind (wpS_reverse (N5 T hn (by lia) (hK.put (mirror_perm _ _ _ _)) ((hd.more (Int.le_of_lt lt)).same (wY hs lev)) q))
 ·rw[if_neg c2];have e:m=1:=by lia
  have hd:Dn ρ (arrOf t) m:=fun i j a b=>by rw[show i=j by lia];exact Int.le_refl _
  exact N5 T hn (by lia) hK (hd.more (Int.le_of_lt lt)) q
end
end SO
namespace SO
open PySem PyProof PyProof.Rows
section
variable{prog:Program}{w:World}{A:Around}{E:Value→Shared→Prop}{s:Shared}{k:SortKind}{z:Array Keyed}{ρ:Keyed→Int}
def OO(ρ:Keyed→Int)(z:Array Keyed)(t:SortSt):Prop :=
 (arrOf t).Perm z∧Up ρ (arrOf t) z.size∧failedOf t=none∧(pendingOf t).size≤1
theorem Kept.ended{t:SortSt}(h:Kept k z t)(hu:Up ρ (arrOf t) z.size)(x:Nat×Nat×Nat):OO ρ z (setPending t ((pendingOf t).push x)):=by
 refine⟨h.pm,hu,h.nf,?_⟩;show((pendingOf t).push x).size≤1;rw[h.np];exact Nat.le_refl 1
theorem ordered(T:Tells (model prog w) A E s k z ρ){t:SortSt}(h2:2≤z.size)(h64:z.size<64)(hK:Kept k z t)
  {Q:Unit→SortSt→Prop}(q:∀t',(arrOf t').Perm z→failedOf t'=none→Up ρ (arrOf t') z.size→Q () t') :
  wpS (model prog w) A E s sortRuns' Q t:=by
 have least:minRun' z.size z.size 0=z.size:=by
  cases e:z.size with
  |zero=>lia
  |succ f=>rw[e]at h64;rw[minRun'_succ,if_pos h64]
 rw[sortRuns'_eq];refine wpS_bind (wpS_get ?_);dsimp only;simp only[hK.len,least];refine wpS_bind (wpS_mono (wpS_forRange (Q:=fun c t'=>c=(none,z.size)∧OO ρ z t')
  (fun x c t'=>(x=0∧c=(none,0)∧Kept k z t')∨(0<x∧c=(none,z.size)∧OO ρ z t')) ?_ ?_ ?_) ?_)
 ·rintro x c t' _ hx (⟨rfl,rfl,hK'⟩ | ⟨g,rfl,hE⟩)
  ·dsimp only;rw[if_neg (by lia)];simp only[Nat.sub_zero,Nat.min_self,Nat.zero_add];refine wpS_bind (run T (Nat.le_refl _) (by lia) hK' fun m t2 g1 g2 g3 g4=>?_);dsimp only;by_cases c:m<z.size
   ·rw[if_pos c];refine wpS_bind (wpS_lift (wpAny_rule ⟨rfl,?_⟩));refine wpS_bind (NY T (Nat.le_refl _) g2 g3 g4 fun t3 g5 g6=>?_);simp only[Bool.not_true,Bool.false_eq_true,if_false];refine wpS_bind (wpS_get ?_);have e:(pendingOf t3).back?=none:=by rw[g5.np];rfl
    rw[e];exact wpS_bind (wpS_modify (wpS_pure (Or.inr ⟨by lia,rfl,g5.ended g6 _⟩)))
   ·rw[if_neg c];have e1:m=z.size:=by lia
    subst e1;refine wpS_bind (wpS_get ?_);have e:(pendingOf t2).back?=none:=by rw[g3.np];rfl
    rw[e];exact wpS_bind (wpS_modify (wpS_pure (Or.inr ⟨by lia,rfl,g3.ended g4 _⟩)))
  ·dsimp only;rw[if_pos (Nat.le_refl _)];exact wpS_pure ⟨rfl,hE⟩
 ·rintro c t' (⟨g,_,_⟩ | ⟨_,e,hE⟩)
  ·lia
  ·exact⟨e,hE⟩
 ·exact Or.inl ⟨rfl,rfl,hK⟩
 ·rintro c t' ⟨rfl,hE⟩;dsimp only;refine wpS_bind (wpS_mono (wpS_forRange (Q:=fun c t2=>c=(none,())∧t2=t') (fun _ c t2=>c=(none,())∧t2=t') ?_ (fun _ _ h=>h) ⟨rfl,rfl⟩) ?_)
  ·rintro x c t2 _ _ ⟨rfl,rfl⟩;refine wpS_bind (wpS_get ?_);rw[if_pos hE.2.2.2];exact wpS_pure ⟨rfl,rfl⟩
  ·rintro c t2 ⟨rfl,rfl⟩;exact wpS_pure (q _ hE.1 hE.2.2.1 hE.2.1)
def jW(h:Heap)(a:Addr)(vs:List Value):Heap :=
 ((h.update a (Obj.mapSeq fun _=>#[])).push (seqObj "tuple" vs.toArray 0)).push (seqObj "list" #[] 0)
abbrev cI(vs:List Value):Array Keyed:=vs.toArray.zip vs.toArray
theorem e8(vs:List Value):(cI vs).size=vs.length:=by simp[cI]
theorem JX{a:Addr}{vs:List Value}{n:Nat}{P:Fin→Shared→Prop}(ho:s.heap.get? a=some (seqObj "list" vs.toArray n))(h64:vs.length<64)
  (hk:2≤vs.length→∀{Q:SortKind→Shared→Prop},Q k { s with heap:=jW s.heap a vs }→wpAny (model prog w) A (keyKind' vs.toArray) Q E { s with heap:=jW s.heap a vs })
  (T:Tells (model prog w) A (fun _ _=>False) { s with heap:=jW s.heap a vs } k (cI vs) ρ)
  (h:∀xs:Array Keyed,xs.Perm (cI vs)→Up ρ xs vs.length→P (.done (.ret .none)) { s with heap:=sortedHeap s.heap a vs (xs.map (·.2)) }) :
  wpAny (model prog w) A (Builtin.«list.sort» ⟨[.ref a],[]⟩) P E s:=by
 have ha:a<s.heap.objs.size:=Heap.lt_size ho;obtain⟨n1,ho1⟩:∃n1,(s.heap.update a (Obj.mapSeq fun _=>#[])).get? a=some (seqObj "list" #[] n1):=⟨_,get?_update_seq ho (fun _=>#[])⟩
 have ho2:(jW s.heap a vs).get? a=some (seqObj "list" #[] n1):=Heap.get?_push_of_some _ (Heap.get?_push_of_some _ ho1);have room:∀xs:Array Keyed,xs.Perm (cI vs)→(xs.map (·.2)).size≤ZW+1:=fun xs p=>by
  rw[Array.size_map,p.size_eq,e8,sizeLine_eq];lia
 rw[list_sort_plain];refine ZZ (listItems_at ho rfl ?_);refine ZZ (listUpdate_at ho rfl ?_);refine ZZ (seqEpoch_at ho1 rfl ?_);refine ZZ (wpAny_newTuple ?_);refine ZZ (wpAny_newList ?_);refine ZU ?_;show wpAny (model prog w) A _ P E { s with heap:=jW s.heap a vs };dsimp only;have last:∀t:SortSt,(arrOf t).Perm (cI vs)→failedOf t=none→Up ρ (arrOf t) vs.length →
   wpAny (model prog w) A (do
    let out:=(arrOf t).map (·.2)
    let touched:=(←seqEpoch a) != n1
    Builtin.List.listUpdate (.ref a) fun _=>out
    if let some e:=failedOf t then rule "list.sort.comparison-raised";throw e
    if touched then rule "list.sort.modified";raiseError "ValueError" "list modified during sort"
    ret .none) P E { s with heap:=jW s.heap a vs }:=by
  intro t p f u;refine ZZ (seqEpoch_at ho2 rfl ?_);refine ZZ (listUpdate_at ho2 rfl ?_ (hsz2:=room _ p));rw[f];simp only[bne_self_eq_false,Bool.false_eq_true,if_false];exact ZY (h _ p u)
 by_cases c:vs.length<2
 ·have c':vs.toArray.size<2:=by simpa using c
  rw[if_pos c',if_pos c'];refine ZZ (ZY ?_);rw[StateT.run_pure];refine ZZ (ZY ?_);exact last (SortSt.mk' general' (cI vs) #[] 7 none) (Array.Perm.refl _) rfl (Up.one _ (by lia))
 ·have c':¬vs.toArray.size<2:=by simpa using c
  rw[if_neg c',if_neg c'];refine ZZ (hk (by lia) ?_);refine ZZ (ZX (ordered (Q:=fun _ t=>(arrOf t).Perm (cI vs)∧failedOf t=none∧Up ρ (arrOf t) (cI vs).size) T
   (t:=SortSt.mk' k (cI vs) #[] 7 none) (by rw[e8];lia) (by rw[e8];exact h64) ⟨rfl,Array.Perm.refl _,rfl,rfl⟩
   fun t' a1 a2 a3=>⟨a1,a2,a3⟩) ?_ fun _ _ e=>e.elim)
  rintro⟨⟨⟩,t⟩ s' ⟨rfl,p,f,u⟩;rw[e8]at u;exact last t p f u
def ahead(h:Heap)(vs:List Value):Heap :=
 ((h.push (seqObj "list" #[] 0)).update h.objs.size (Obj.mapSeq (·++vs.toArray))).push (seqObj "list" vs.toArray 0)
theorem CQ{l:Addr}{vs:List Value}{Q:Value→Shared→Prop}(hl:s.heap.IsList l vs.toArray)(h64:vs.length<64)
  (hk:2≤vs.length→∀{E:Value→Shared→Prop}{Q:SortKind→Shared→Prop},Q k { s with heap:=jW (ahead s.heap vs) (s.heap.objs.size+1) vs } →
   wpAny (model prog w) A.in1.in1 (keyKind' vs.toArray) Q E { s with heap:=jW (ahead s.heap vs) (s.heap.objs.size+1) vs })
  (T:Tells (model prog w) A.in1.in1 (fun _ _=>False) { s with heap:=jW (ahead s.heap vs) (s.heap.objs.size+1) vs } k (cI vs) ρ)
  (h:∀xs:Array Keyed,xs.Perm (cI vs)→Up ρ xs vs.length→Q (.ref (s.heap.objs.size+1)) { s with heap:=sortedAll s.heap vs (xs.map (·.2)) }) :
  wpAny (model prog w) A (call (.builtin "sorted") [.ref l]) Q E s:=by
 have sz:((s.heap.push (seqObj "list" #[] 0)).update s.heap.objs.size (Obj.mapSeq (·++vs.toArray))).objs.size=s.heap.objs.size+1:=by
  rw[Heap.size_update,size_push']
 have ho:(ahead s.heap vs).get? (s.heap.objs.size+1)=some (seqObj "list" vs.toArray 0):=by
  unfold ahead;rw[←sz];exact Heap.get?_push_size _ rfl
 refine Calls.call_function_entry kind_sorted plain_sorted entry_sorted (args_sorted1 _) ?_;unfold Builtin.«sorted»;refine ZZ (m:=checkCount "sorted" 1 1 _) (ZY ?_);refine ZZ (collect_list hl ?_);refine ZZ (wpAny_newList ?_);rw[sz];show wpAny (model prog w) _ _ _ _ { s with heap:=ahead s.heap vs };refine ZZ (ZU (wpAny_call_entry slot_list_sort ⟨_,ho,rfl⟩ entry_list_sort
  (JX (s:={ s with heap:=ahead s.heap vs }) (k:=k) (ρ:=ρ) ho h64 (fun g _ q=>hk g q) T fun xs p u=>⟨_,rfl,?_⟩) (args_list_sort _)))
 exact ZY ⟨_,rfl,h xs p u⟩
end
end SO
namespace SO
def lx:List Int→List Int→Bool
 |[],[]=>false
 |[],_::_=>true
 |_::_,[]=>false
 |a::x,b::y=>if a=b then lx x y else decide (a<b)
theorem BO:∀x:List Int,lx x x=false
 |[]=>rfl
 |a::x=>by unfold lx;rw[if_pos rfl];exact BO x
theorem xN:∀x y u:List Int,lx x y=true→lx y u=true→lx x u=true
 |[],[],_,h,_=>by simp[lx]at h
 |[],_::_,[],_,h=>by simp[lx]at h
 |[],_::_,_::_,_,_=>rfl
 |_::_,[],_,h,_=>by simp[lx]at h
 |_::_,_::_,[],_,h=>by simp[lx]at h
 |a::x,b::y,c::u,h1,h2=>by
  unfold lx at h1 h2 ⊢;by_cases e1:a=b
  ·rw[if_pos e1]at h1;by_cases e2:b=c
   ·rw[if_pos e2]at h2;rw[if_pos (e1.trans e2)];exact xN x y u h1 h2
   ·rw[if_neg e2]at h2;rw[if_neg (by lia)];rw[e1];exact h2
  ·rw[if_neg e1]at h1;have l1:=of_decide_eq_true h1;by_cases e2:b=c
   ·rw[if_neg (by lia)];exact decide_eq_true (by lia)
   ·rw[if_neg e2]at h2;have l2:=of_decide_eq_true h2;rw[if_neg (by lia)];exact decide_eq_true (by lia)
theorem xO:∀x y:List Int,lx x y=false→lx y x=false→x=y
 |[],[],_,_=>rfl
 |[],_::_,h,_=>by simp[lx]at h
 |_::_,[],_,h=>by simp[lx]at h
 |a::x,b::y,h1,h2=>by
  unfold lx at h1 h2;by_cases e:a=b
  ·rw[if_pos e]at h1;rw[if_pos e.symm]at h2;rw[e,xO x y h1 h2]
  ·rw[if_neg e]at h1;rw[if_neg (fun g=>e g.symm)]at h2;have l1:=of_decide_eq_false h1;have l2:=of_decide_eq_false h2;lia
def place(L:List (List Int))(x:List Int):Nat:=L.countP fun y=>lx y x
theorem M3(L:List (List Int)){x y:List Int}(h:lx x y=true):place L x≤place L y :=
 List.countP_mono_left fun u _ g=>xN u x y g h
theorem place_lt:∀(L:List (List Int)) {x y:List Int},x∈L→lx x y=true→place L x<place L y
 |[],_,_,m,_=>by cases m
 |u::L,x,y,m,h=>by
  unfold place;rw[List.countP_cons,List.countP_cons];have a:=M3 L h;unfold place at a;by_cases e:u=x
  ·subst e;rw[BO,h];simp;lia
  ·have b:=place_lt L (x:=x) (y:=y) (by cases m with | head=>exact absurd rfl e | tail _ g=>exact g) h;unfold place at b;by_cases g:lx u x=true
   ·rw[g,xN _ _ _ g h];simp;lia
   ·have g':lx u x=false:=by simpa using g
    rw[g'];simp;lia
theorem gU(L:List (List Int)){x y:List Int}(hx:x∈L)(hy:y∈L):decide ((place L x:Int)<place L y)=lx x y:=by
 cases h:lx x y with
 |true=>exact decide_eq_true (by have:=place_lt L hx h;lia)
 |false =>
  refine decide_eq_false ?_;cases g:lx y x with
  |true=>have:=place_lt L hy g;lia
  |false=>rw[xO x y h g];lia
end SO
namespace SO
open PySem PyProof PyProof.Rows
section
variable{prog:Program}{w:World}{A:Around}{E:Value→Shared→Prop}{s:Shared}
theorem P1(b:Bool){x y:Int}{t u:Tok}{Q:Bool→Shared→Prop}(h:Q (decide (x<y)) s):wpAny (model prog w) A (oneLt' b (.int x t) (.int y u)) Q E s:=by
 cases b with
 |true=>exact oneLt_int h
 |false=>exact PySem.W.kat_one _ _ (wpAny_lt_int h)
theorem DK{b fin:Bool}{Q:Bool→Shared→Prop}:∀{xs ys:List Value}{ns ms:List Int}(i:Nat),IntsAre xs ns→IntsAre ys ms →
  fin=decide (ns.length<ms.length)→Q (lx ns ms) s→PySem.W.KatLex prog w A b fin Q (xs.zip ys) i s
 |_,_,_,_,i,.nil,.nil,e,q=>by subst e;exact PySem.W.kat_nil q
 |_,_,_,_,i,.nil,.cons _ _ _,e,q=>by
  subst e;refine PySem.W.kat_nil ?_;rw[decide_eq_true (by simp)];exact q
 |_,_,_,_,i,.cons _ _ _,.nil,e,q=>by
  subst e;refine PySem.W.kat_nil ?_;rw[decide_eq_false (by simp)];exact q
 |_,_,_,_,i,.cons (vs:=xs) (ns:=ns) n t hx,.cons (vs:=ys) (ns:=ms) m u hy,e,q=>by
  rw[List.zip_cons_cons];refine PySem.W.kat_cons (wpAny_eqBool_int ?_);unfold lx at q;by_cases c:n=m
  ·rw[if_pos c]at q;rw[show(n==m)=true by simpa using c];refine PySem.W.kat_yes (DK (i+1) hx hy ?_ q);rw[e];simp
  ·rw[if_neg c]at q;rw[show(n==m)=false by simpa using c];exact PySem.W.kat_no (P1 _ q)
def CG(h:Heap)(vs:List Value)(kf:Value→List Int):Prop :=
 ∀v∈vs,∃a o xs n,v=.ref a∧h.get? a=some o∧o.cls=.type "tuple"∧o.data=.seq xs n∧IntsAre xs.toList (kf v)
def rank(vs:List Value)(kf:Value→List Int)(p:Keyed):Int:=place (vs.map kf) (kf p.1)
theorem pG{vs:List Value}{p:Keyed}(h:p∈(cI vs).toList):p.1∈vs:=by
 have:p∈vs.zip vs:=by simpa[cI] using h
 exact(List.of_mem_zip (a:=p.1) (b:=p.2) this).1
theorem oI{xs:List Value}{ns:List Int}(h:IntsAre xs ns):xs.length=ns.length:=by
 induction h with
 |nil=>rfl
 |cons _ _ _ ih=>simp[ih]
theorem wF{vs:List Value}{kf:Value→List Int}{b:Bool}(h:CG s.heap vs kf):Tells (model prog w) A E s (tuples' b) (cI vs) (rank vs kf):=by
 intro p q t Q hp hq hk hQ;have mp:=pG hp;have mq:=pG hq;obtain⟨a,o,xs,n,e1,g1,_,d1,i1⟩:=h _ mp;obtain⟨a',o',xs',n',e2,g2,_,d2,i2⟩:=h _ mq;have r:decide (rank vs kf p<rank vs kf q)=lx (kf p.1) (kf q.1):=gU _ (Yf mp) (Yf mq);rw[r]at hQ;rw[lt'_eq];refine wpS_bind (wpS_get ?_);rw[hk,e1,e2];refine wpS_bind (wpS_lift (wpAny_attempt (PySem.W.kat_lt g1 d1 g2 d2 (DK 0 i1 i2 ?_ ⟨rfl,?_⟩))))
 ·have l1:=oI i1;have l2:=oI i2;simp only[Array.length_toList]at l1 l2;rw[l1,l2]
 ·exact wpS_pure hQ
end
end SO
namespace SO
open PySem PyProof PyProof.Rows
open AutoSeq1 (wpAny_loadPart')
theorem vZ:∀{xs:List Value}{ns:List Int},IntsAre xs ns→∀i,i<xs.length→∃n t,xs[i]?=some (.int n t)∧ns[i]?=some n
 |_,_,.nil,i,h=>by simp at h
 |_,_,.cons n t _,0,_=>⟨n,t,rfl,rfl⟩
 |_,_,.cons _ _ r,i+1,h=>by
  obtain⟨n,t,e1,e2⟩:=vZ r i (by simpa using h);exact⟨n,t,by simpa using e1,by simpa using e2⟩
section
variable{prog:Program}{w:World}{A:Around}{E:Value→Shared→Prop}{s:Shared}
end
end SO
namespace SO
open PySem PyProof PyProof.Rows
theorem CH:∀vs:List Value,vs.zip vs=vs.map fun v=>(v,v)
 |[]=>rfl
 |v::vs=>by rw[List.zip_cons_cons,CH vs];rfl
theorem uJ(vs:List Value):(cI vs).toList=vs.map fun v=>(v,v):=by
 rw[←CH];simp[cI]
theorem twice{vs:List Value}{q:Keyed}(h:q∈(cI vs).toList):q.2=q.1:=by
 rw[uJ]at h;obtain⟨v,_,rfl⟩:=Zh.mp h;rfl
theorem sT{vs:List Value}{kf:Value→List Int}{xs:Array Keyed}(p:xs.Perm (cI vs))(u:Up (rank vs kf) xs vs.length) :
  (xs.map (·.2)).toList.Perm vs∧(xs.map (·.2)).toList.Pairwise fun a b=>lx (kf b) (kf a)=false:=by
 have pl:=Array.perm_iff_toList_perm.mp p;constructor
 ·have e:=pl.map (·.2);rw[uJ,Yh]at e;have e2:vs.map ((fun q:Keyed=>q.2)∘fun v=>(v,v))=vs:=by
   have:((fun q:Keyed=>q.2)∘fun v:Value=>(v,v))=id:=rfl;rw[this,List.map_id]
  rw[e2]at e;rw[Array.toList_map];exact e
 ·rw[Array.toList_map,List.pairwise_map,List.pairwise_iff_getElem];intro i j hi hj hij;have z:xs.size=vs.length:=by rw[p.size_eq,e8]
  have hi':i<xs.size:=by simpa using hi
  have hj':j<xs.size:=by simpa using hj
  have r:=u i j (by lia) (by lia);have mi:xs[i]∈(cI vs).toList:=pl.mem_iff.mp (by simp);have mj:xs[j]∈(cI vs).toList:=pl.mem_iff.mp (by simp);have ri:rk (rank vs kf) xs i=rank vs kf xs[i]:=by simp[rk,hi']
  have rj:rk (rank vs kf) xs j=rank vs kf xs[j]:=by simp[rk,hj']
  rw[ri,rj]at r;have t:=gU (vs.map kf) (x:=kf xs[j].1) (y:=kf xs[i].1) (Yf (pG mj)) (Yf (pG mi));rw[decide_eq_false (by unfold rank at r;lia)]at t;simp only[Array.getElem_toList];rw[twice mi,twice mj];exact t.symm
theorem AY{h:Heap}{vs:List Value}{b:Addr}{o:Obj}(hb:h.get? b=some o):(jW (ahead h vs) (h.objs.size+1) vs).get? b=some o:=by
 have lt:=Heap.lt_size hb;unfold jW ahead;refine Heap.get?_push_of_some _ (Heap.get?_push_of_some _ ?_);rw[Heap.get?_update_ne _ _ _ _ (Nat.ne_of_lt (YQ lt))];refine Heap.get?_push_of_some _ ?_;rw[Heap.get?_update_ne _ _ _ _ (Nat.ne_of_lt lt)];exact Heap.get?_push_of_some _ hb
section
variable{prog:Program}{w:World}{A:Around}{E:Value→Shared→Prop}{s:Shared}
theorem CG.mono{h h':Heap}{vs:List Value}{kf:Value→List Int}(H:CG h vs kf)(g:∀b o,h.get? b=some o→h'.get? b=some o):CG h' vs kf:=fun v m=>by
 obtain⟨a,o,xs,n,e,g1,r⟩:=H v m;exact⟨a,o,xs,n,e,g _ _ g1,r⟩
end
end SO
namespace L2
open PySem PySem.Spec PyProof.Rows
section
variable{X:Cx}
theorem tH:∀{ps:List Addr}{us:List Value},bY (ps.map V.ref) us→us=ps.map Value.ref
 |[],us,r=>by rw[List.map_nil]at r;cases r;rfl
 |p::ps,us,r=>by
  rw[List.map_cons]at r;cases r with
  |cons a b =>
   rw[tH b];cases a;rfl
theorem tU:∀(ps:List Addr),bY (ps.map V.ref) (ps.map Value.ref)
 |[]=>.nil
 |_::ps=>.cons rfl (tU ps)
def keyOf(kf:Addr→List Int):Value→List Int
 |.ref a=>kf a
 |_=>[]
theorem zX{ps:List Addr}{us:List Value}(h:us.Perm (ps.map Value.ref)):∃ps':List Addr,us=ps'.map Value.ref∧ps'.Perm ps:=by
 have e:us=(us.map fun u=>match u with | .ref a=>a | _=>0).map Value.ref:=by
  rw[Yh];refine(List.map_id us).symm.trans (Ym fun u m=>?_);obtain⟨a,_,rfl⟩:=Zh.mp (h.mem_iff.mp m);rfl
 refine⟨_,e,?_⟩;have g:=h.map fun u:Value=>match u with | .ref a=>a | _=>0
 rw[Yh]at g;have i:((fun u:Value=>match u with | .ref a=>a | _=>0)∘Value.ref)=id:=rfl;rw[i,List.map_id]at g;exact g
end
end L2
namespace SO
open PySem PyProof PyProof.Rows
section
variable{prog:Program}{w:World}{A:Around}{E:Value→Shared→Prop}{s:Shared}
theorem GJ{h:Heap}{kf:Value→List Int}:∀{vs:List Value},CG h vs kf→(∀v∈vs,kf v≠[]) →
  ∃fs:List Value,PySem.W.KatTups h vs fs∧fs.length=vs.length∧∀f∈fs,∃n t,f=.int n t
 |[],_,_=>⟨[],PySem.W.KatTups.nil,rfl,fun _ m=>by cases m⟩
 |v::vs,H,ne=>by
  obtain⟨fs,k,l,g⟩:=GJ (vs:=vs) (fun u m=>H u (.tail _ m)) fun u m=>ne u (.tail _ m);obtain⟨a,o,xs,n,e,g1,c,d,i⟩:=H v (.head _);have hz:0<xs.toList.length:=by
   rw[oI i];exact List.length_pos_iff.mpr (ne v (.head _))
  obtain⟨n0,t0,e0,_⟩:=vZ i 0 hz;subst e;refine⟨.int n0 t0::fs,PySem.W.KatTups.cons g1 c d (by simpa using e0) k,by simp[l],fun f m=>?_⟩;cases m with
  |head=>exact⟨n0,t0,rfl⟩
  |tail _ m=>exact g f m
theorem CP{l:Addr}{vs:List Value}{kf:Value→List Int}{Q:Value→Shared→Prop}(hl:s.heap.IsList l vs.toArray)(h64:vs.length<64)
  (H:CG s.heap vs kf) (ne:∀v∈vs,kf v≠[])
  (h:∀out:Array Value,out.toList.Perm vs→(out.toList.Pairwise fun a b=>lx (kf b) (kf a)=false)→Q (.ref (s.heap.objs.size+1)) { s with heap:=sortedAll s.heap vs out }) :
  wpAny (model prog w) A (call (.builtin "sorted") [.ref l]) Q E s:=by
 have H':CG (jW (ahead s.heap vs) (s.heap.objs.size+1) vs) vs kf:=H.mono fun _ _=>AY;refine CQ (k:=tuples' true) (ρ:=rank vs kf) hl h64 (fun h2 _ _ q=>?_) (wF H') fun xs p u=>h _ (sT p u).1 (sT p u).2;obtain⟨fs,k,lf,g⟩:=GJ H' ne;refine PySem.W.kat_kind (T:=Value.type "int") k (by lia) (fun v m=>?_) (by decide) q;obtain⟨n,t,rfl⟩:=g v m;exact .now
end
end SO
namespace L2
open PySem PySem.Spec PyProof.Rows
section
variable{X:Cx}
theorem B5:fC X (.builtin "sorted") (fun xs H Q=>∃(p:Addr) (ps:List Addr) (kf:Addr→List Int),xs=[.ref p]∧SqL X.K H p (ps.map V.ref)∧(∀q∈ps,kf q≠[]∧SqT X.K H q ((kf q).map V.int))∧ps.length<64 ∧
  ∀(l:Addr) (ps':List Addr),H l=none→ps'.Perm ps→(ps'.Pairwise fun a b=>SO.lx (kf b) (kf a)=false)→Q (.ref l) (upd H l (.lst (ps'.map V.ref)))):=by
 intro pins s σ H xs us Q I r h;obtain⟨p,ps,kf,rfl,hq,hk,h64,q⟩:=h;obtain⟨u,rfl,rx⟩:=vals1 r;cases rx;obtain⟨its,r',pl,hz⟩:=I.list hq;have ei:=tH r';subst ei;refine SO.CP (kf:=keyOf kf) pl.isList (by rw[Zq];exact h64) (fun v m=>?_) (fun v m=>?_) fun out a1 a2=>?_
 ·obtain⟨a,ma,rfl⟩:=Zh.mp m;obtain⟨its',r2,⟨o,g1,c1,n,d1⟩,_⟩:=I.tuple (hk a ma).2;exact⟨a,o,its'.toArray,n,rfl,g1,c1,d1,(show IntsAre its' (kf a) from intsAre_of r2)⟩
 ·obtain⟨a,ma,rfl⟩:=Zh.mp m;exact(hk a ma).1
 ·obtain⟨ps',e1,e2⟩:=zX a1;rw[e1,List.pairwise_map]at a2;obtain⟨e,he⟩:=sortedAll_at s.heap (ps.map Value.ref) out;refine⟨.ref (s.heap.objs.size+1),_,I.laid (t':=s.toks) (fun _ _=>sortedAll_old) (Nat.le_succ _) (show dC X.prog X.w _ _ _ (.lst (ps'.map V.ref)) from⟨?_,out.toList,e,?_,he⟩),rfl,q _ ps' (I.hok.fresh (Nat.le_succ _)) e2 a2⟩
  ·rw[Zq,e2.length_eq];exact Yr (by lia:ps.length≤64) (by decide)
  ·rw[e1];exact tU ps'
end
end L2
namespace SO
open PySem PyProof PyProof.Rows
section
variable{prog:Program}{w:World}{A:Around}{E:Value→Shared→Prop}{s:Shared}{k:SortKind}{ρ:Keyed→Int}
theorem JY{a:Addr}{vs:List Value}{n:Nat}{P:Fin→Shared→Prop}(ho:s.heap.get? a=some (seqObj "list" vs.toArray n))(h64:vs.length<64)
  (hk:2≤vs.length→∀{Q:SortKind→Shared→Prop},Q k { s with heap:=jW s.heap a vs }→wpAny (model prog w) A (keyKind' vs.toArray) Q E { s with heap:=jW s.heap a vs })
  (T:Tells (model prog w) A (fun _ _=>False) { s with heap:=jW s.heap a vs } k (cI vs) ρ)
  (h:∀xs:Array Keyed,xs.Perm (cI vs)→Up ρ xs vs.length→P (.done (.ret .none)) { s with heap:=sortedHeap s.heap a vs (xs.map (·.2)).reverse }) :
  wpAny (model prog w) A (Builtin.«list.sort» ⟨[.ref a],[(ZT "reverse",.bool true)]⟩) P E s:=by
 obtain⟨n1,ho1⟩:∃n1,(s.heap.update a (Obj.mapSeq fun _=>#[])).get? a=some (seqObj "list" #[] n1):=⟨_,get?_update_seq ho (fun _=>#[])⟩
 have ho2:(jW s.heap a vs).get? a=some (seqObj "list" #[] n1):=Heap.get?_push_of_some _ (Heap.get?_push_of_some _ ho1);have flip:(cI vs).reverse.Perm (cI vs):=Array.perm_iff_toList_perm.mpr (by rw[Array.toList_reverse];exact List.reverse_perm _);have T':Tells (model prog w) A (fun _ _=>False) { s with heap:=jW s.heap a vs } k (cI vs).reverse ρ:=fun p q t Q hp hq=>T p q t Q
  ((Array.perm_iff_toList_perm.mp flip).mem_iff.mp hp) ((Array.perm_iff_toList_perm.mp flip).mem_iff.mp hq)
 have zs:(cI vs).reverse.size=vs.length:=by rw[Array.size_reverse,e8]
 have room:∀xs:Array Keyed,xs.Perm (cI vs)→(xs.map (·.2)).reverse.size≤ZW+1:=fun xs p=>by
  rw[Array.size_reverse,Array.size_map,p.size_eq,e8,sizeLine_eq];lia
 rw[list_sort_rev];refine ZZ (listItems_at ho rfl ?_);refine ZZ (listUpdate_at ho rfl ?_);refine ZZ (seqEpoch_at ho1 rfl ?_);refine ZZ (wpAny_newTuple ?_);refine ZZ (wpAny_newList ?_);refine ZU ?_;show wpAny (model prog w) A _ P E { s with heap:=jW s.heap a vs };dsimp only;rw[if_pos rfl];refine ZZ (wpAny_rule ?_);have last:∀t:SortSt,(arrOf t).Perm (cI vs)→failedOf t=none→Up ρ (arrOf t) vs.length →
   wpAny (model prog w) A (do
    let out:=(arrOf t).map (·.2)
    let touched:=(←seqEpoch a) != n1
    Builtin.List.listUpdate (.ref a) fun _=>if true=true then out.reverse else out
    if let some e:=failedOf t then rule "list.sort.comparison-raised";throw e
    if touched then rule "list.sort.modified";raiseError "ValueError" "list modified during sort"
    ret .none) P E { s with heap:=jW s.heap a vs }:=by
  intro t p f u;refine ZZ (seqEpoch_at ho2 rfl ?_);refine ZZ (listUpdate_at ho2 rfl ?_ (hsz2:=room _ p));rw[f];simp only[bne_self_eq_false,Bool.false_eq_true,if_false];exact ZY (h _ p u)
 by_cases c:vs.length<2
 ·have c':vs.toArray.size<2:=by simpa using c
  rw[if_pos c',if_pos c'];refine ZZ (ZY ?_);rw[StateT.run_pure];refine ZZ (ZY ?_);exact last (SortSt.mk' general' (cI vs).reverse #[] 7 none) flip rfl (Up.one _ (by lia))
 ·have c':¬vs.toArray.size<2:=by simpa using c
  rw[if_neg c',if_neg c'];refine ZZ (hk (by lia) ?_);refine ZZ (ZX (ordered (Q:=fun _ t=>(arrOf t).Perm (cI vs).reverse∧failedOf t=none∧Up ρ (arrOf t) (cI vs).reverse.size) T'
   (t:=SortSt.mk' k (cI vs).reverse #[] 7 none) (by rw[zs];lia) (by rw[zs];exact h64) ⟨rfl,Array.Perm.refl _,rfl,rfl⟩
   fun t' a1 a2 a3=>⟨a1,a2,a3⟩) ?_ fun _ _ e=>e.elim)
  rintro⟨⟨⟩,t⟩ s' ⟨rfl,p,f,u⟩;rw[zs]at u;exact last t (p.trans flip) f u
theorem CS{l:Addr}{vs:List Value}{Q:Value→Shared→Prop}(hl:s.heap.IsList l vs.toArray)(h64:vs.length<64)
  (hk:2≤vs.length→∀{E:Value→Shared→Prop}{Q:SortKind→Shared→Prop},Q k { s with heap:=jW (ahead s.heap vs) (s.heap.objs.size+1) vs } →
   wpAny (model prog w) A.in1.in1 (keyKind' vs.toArray) Q E { s with heap:=jW (ahead s.heap vs) (s.heap.objs.size+1) vs })
  (T:Tells (model prog w) A.in1.in1 (fun _ _=>False) { s with heap:=jW (ahead s.heap vs) (s.heap.objs.size+1) vs } k (cI vs) ρ)
  (h:∀xs:Array Keyed,xs.Perm (cI vs)→Up ρ xs vs.length→Q (.ref (s.heap.objs.size+1)) { s with heap:=sortedAll s.heap vs (xs.map (·.2)).reverse }) :
  wpAny (model prog w) A (call (.builtin "sorted") [.ref l] [(ZT "reverse",.bool true)]) Q E s:=by
 have sz:((s.heap.push (seqObj "list" #[] 0)).update s.heap.objs.size (Obj.mapSeq (·++vs.toArray))).objs.size=s.heap.objs.size+1:=by
  rw[Heap.size_update,size_push']
 have ho:(ahead s.heap vs).get? (s.heap.objs.size+1)=some (seqObj "list" vs.toArray 0):=by
  unfold ahead;rw[←sz];exact Heap.get?_push_size _ rfl
 refine call_function_entry_kw kind_sorted plain_sorted entry_sorted (args_sorted_rev _ _) ?_;unfold Builtin.«sorted»;refine ZZ (m:=checkCount "sorted" 1 1 _) (ZY ?_);refine ZZ (collect_list hl ?_);refine ZZ (wpAny_newList ?_);rw[sz];show wpAny (model prog w) _ _ _ _ { s with heap:=ahead s.heap vs };refine ZZ (ZU (wpAny_call_entry_kw slot_list_sort ⟨_,ho,rfl⟩ entry_list_sort
  (JY (s:={ s with heap:=ahead s.heap vs }) (k:=k) (ρ:=ρ) ho h64 (fun g _ q=>hk g q) T fun xs p u=>⟨_,rfl,?_⟩) (args_list_sort_rev _ _)))
 exact ZY ⟨_,rfl,h xs p u⟩
theorem tK{l:Addr}{vs:List Value}{kf:Value→List Int}{Q:Value→Shared→Prop}(hl:s.heap.IsList l vs.toArray)(h64:vs.length<64)
  (H:CG s.heap vs kf) (ne:∀v∈vs,kf v≠[])
  (h:∀out:Array Value,out.toList.Perm vs→(out.toList.Pairwise fun a b=>lx (kf a) (kf b)=false)→Q (.ref (s.heap.objs.size+1)) { s with heap:=sortedAll s.heap vs out }) :
  wpAny (model prog w) A (call (.builtin "sorted") [.ref l] [(ZT "reverse",.bool true)]) Q E s:=by
 have H':CG (jW (ahead s.heap vs) (s.heap.objs.size+1) vs) vs kf:=H.mono fun _ _=>AY;refine CS (k:=tuples' true) (ρ:=rank vs kf) hl h64 (fun h2 _ _ q=>?_) (wF H') fun xs p u=>h _ ?_ ?_
 ·obtain⟨fs,k,lf,g⟩:=GJ H' ne;refine PySem.W.kat_kind (T:=Value.type "int") k (by lia) (fun v m=>?_) (by decide) q;obtain⟨n,t,rfl⟩:=g v m;exact .now
 ·rw[Array.toList_reverse];exact(List.reverse_perm _).trans (sT p u).1
 ·rw[Array.toList_reverse,List.pairwise_reverse];exact(sT p u).2
end
end SO
namespace L2
open PySem PySem.Spec PyProof.Rows
section
variable{X:Cx}
def OP(X:Cx)(f:Value)(ks:List Str)(r:List V→List V→Hp→VK→Prop):Prop :=
 ∀(pins:List (Addr×Obj)) (s:Shared) (σ:St) (H:Hp) (xs:List V) (us:List Value) (zs:List V) (ws:List Value) (Q:VK),Inv X pins σ H s→bY xs us→bY zs ws→r xs zs H Q →
  wpAny (model X.prog X.w) X.A (call f us (ks.zip ws)) (EP X pins σ Q) X.xe s
def VY(r:List V→List V→Hp→VK→Prop)(t tk:TA):TE:=fun σ H Q=>t σ H fun vs H1=>tk σ H1 fun zs H2=>r vs zs H2 Q
theorem J7{x:Str}{p pos:Pos}{e:Expr}{es:List Expr}{t tk:TA}{id:String}{ks:List Str}{kws:List Keyword}{r:List V→List V→Hp→VK→Prop}(hc:OP X (.builtin id) ks r)(hg:Gl X x)(hm:X.mg x=none)(hv:bootBuiltins x=some (.builtin id))
  (ha:PA X (e::es) t) (hkw:PK X kws tk) (hn:x≠"__name__":=by decide) (hdb:(x==("__debug__" : Str))=false:=by decide)
  (he:backTo pos (starEach (e::es) X.env)=(false,eval e X.env)::backTo pos (starEach es X.env):=by rfl) (hpl:(backTo pos (starEach (e::es) X.env)).any (·.1)=false:=by rfl)
  (hall:(backToKw pos (keywordEach kws X.env)).all (·.1.isSome)=true:=by rfl) (hno:(backToKw pos (keywordEach kws X.env)).any (·.1.isNone)=false:=by rfl)
  (hks:(backToKw pos (keywordEach kws X.env)).filterMap (·.1)=ks:=by rfl):PE X (.Call (.Name x p) (e::es) kws pos) (VY r t tk):=by
 intro pins s σ H Q I h;refine wpAny_Call_Name_kw (oB I hg hm hv ?_ hn hdb);refine callWith_kw (thn (ha pos pins s σ H _ I h) fun us s1 ⟨vs,H1,I1,r1,q⟩=>?_) he hpl hall hno;refine thn (hkw pos pins s1 σ H1 _ I1 q) fun ws s2 ⟨zs,H2,I2,rz,q2⟩=>?_;rw[hks];exact hc pins s2 σ H2 vs us zs ws Q I2 r1 rz q2
theorem zC:OP X (.builtin "sorted") ["reverse"] (fun xs zs H Q=>∃(p:Addr) (ps:List Addr) (kf:Addr→List Int),xs=[.ref p]∧zs=[.bl true]∧SqL X.K H p (ps.map V.ref)∧(∀q∈ps,kf q≠[]∧SqT X.K H q ((kf q).map V.int))∧ps.length<64 ∧
  ∀(l:Addr) (ps':List Addr),H l=none→ps'.Perm ps→(ps'.Pairwise fun a b=>SO.lx (kf a) (kf b)=false)→Q (.ref l) (upd H l (.lst (ps'.map V.ref)))):=by
 intro pins s σ H xs us zs ws Q I r rz h;obtain⟨p,ps,kf,rfl,rfl,hq,hk,h64,q⟩:=h;obtain⟨u,rfl,rx⟩:=vals1 r;cases rx;obtain⟨v,rfl,rv⟩:=vals1 rz;cases rv;obtain⟨its,r',pl,hz⟩:=I.list hq;have ei:=tH r';subst ei;refine SO.tK (kf:=keyOf kf) pl.isList (by rw[Zq];exact h64) (fun v m=>?_) (fun v m=>?_) fun out a1 a2=>?_
 ·obtain⟨a,ma,rfl⟩:=Zh.mp m;obtain⟨its',r2,⟨o,g1,c1,n,d1⟩,_⟩:=I.tuple (hk a ma).2;exact⟨a,o,its'.toArray,n,rfl,g1,c1,d1,(show IntsAre its' (kf a) from intsAre_of r2)⟩
 ·obtain⟨a,ma,rfl⟩:=Zh.mp m;exact(hk a ma).1
 ·obtain⟨ps',e1,e2⟩:=zX a1;rw[e1,List.pairwise_map]at a2;obtain⟨e,he⟩:=sortedAll_at s.heap (ps.map Value.ref) out;refine⟨.ref (s.heap.objs.size+1),_,I.laid (t':=s.toks) (fun _ _=>sortedAll_old) (Nat.le_succ _) (show dC X.prog X.w _ _ _ (.lst (ps'.map V.ref)) from⟨?_,out.toList,e,?_,he⟩),rfl,q _ ps' (I.hok.fresh (Nat.le_succ _)) e2 a2⟩
  ·rw[Zq,e2.length_eq];exact Yr (by lia:ps.length≤64) (by decide)
  ·rw[e1];exact tU ps'
end
end L2
namespace SO
open PySem PyProof PyProof.Rows
section
variable{prog:Program}{w:World}{A:Around}{E:Value→Shared→Prop}{s:Shared}
theorem QM{xl yl:List Int}{a b:Addr}{oa ob:Obj}{xs ys:Array Value}{na nb:Nat}{P:Fin→Shared→Prop}(hoa:s.heap.get? a=some oa)(hda:oa.data=.seq xs na)(hob:s.heap.get? b=some ob)(hcb:ob.cls=.type "tuple")(hdb:ob.data=.seq ys nb)
  (hia:IntsAre xs.toList xl) (hib:IntsAre ys.toList yl) (h:P (.done (.ret (.bool (lx yl xl)))) s) :
  wpAny (model prog w) A (Builtin.«tuple.__gt__» ⟨[.ref a,.ref b],[]⟩) P E s:=by
 have hTb:s.TypeIs (.ref b) "tuple":=⟨ob,hob,hcb⟩
 show wpAny _ _ (isInstance (.ref b) (.type "tuple") >>= _) _ _ s;refine ZZ (wpAny_isInstance hTb isSubtype_tuple_tuple ?_);simp only[Bool.not_true,Bool.false_eq_true,if_false];refine ZZ (wpAny_tupleItemsOf hoa hda ?_);refine ZZ (wpAny_tupleItemsOf hob hdb ?_);refine ZZ ?_;have l1:=oI hia;have l2:=oI hib;simp only[Array.length_toList]at l1 l2;refine wpAny_forIn_list _
  (fun rest r s'=>r.1=none∧s'=s∧∃x' y' xs' ys',rest=List.zip xs' ys'∧IntsAre xs' x'∧IntsAre ys' y'∧lx y' x'=lx yl xl∧decide (ys'.length<xs'.length)=decide (ys.size<xs.size))
  _ ?_ ?_ _ _ ⟨rfl,rfl,xl,yl,xs.toList,ys.toList,rfl,hia,hib,rfl,by simp⟩
 ·rintro⟨u,v⟩ rest r s' ⟨hr,rfl,x',y',xs',ys',hz,hx',hy',hdec,hlen⟩;cases hx' with
  |nil=>simp at hz
  |@cons k1 t1 xs'' x'' hx'' =>
   cases hy' with
   |nil=>simp at hz
   |@cons k2 t2 ys'' y'' hy'' =>
    simp only[List.zip_cons_cons,List.cons.injEq,Prod.mk.injEq]at hz;obtain⟨⟨rfl,rfl⟩,rfl⟩:=hz;refine ZZ (wpAny_eqBool_int ?_);rw[show lx (k2::y'') (k1::x'')=(if k2=k1 then lx y'' x'' else decide (k2<k1)) from rfl]at hdec;by_cases hk:k1=k2
    ·rw[show(k1==k2)=true by simpa using hk];simp only[Bool.not_true,Bool.false_eq_true,if_false];rw[if_pos hk.symm]at hdec;exact ZY ⟨rfl,rfl,x'',y'',xs'',ys'',rfl,hx'',hy'',hdec,by simpa using hlen⟩
    ·rw[show(k1==k2)=false by simpa using hk];simp only[Bool.not_false,if_true];rw[if_neg (fun z=>hk z.symm)]at hdec;rw[←hdec]at h;refine ZZ (wpAny_rule ?_);refine ZZ (show wpAny _ _ (compareOp .Gt (.int k1 t1) (.int k2 t2)) _ _ _ from PyProof.Rows.gt_int ?_);exact ZZ (ZY (ZY (ZY h)))
 ·rintro⟨r1,r2⟩ s' ⟨hr,rfl,x',y',xs',ys',hz,hx',hy',hdec,hlen⟩;simp only at hr;subst hr;refine ZY ?_;have hfin:decide (ys.size<xs.size)=lx yl xl:=by
   rw[←hdec,←hlen];cases hx' with
   |nil =>
    cases hy' with
    |nil=>rfl
    |cons _ _=>rfl
   |cons _ _ =>
    cases hy' with
    |nil=>rfl
    |cons _ _=>simp at hz
  show P (.done (.ret (.bool (decide (xs.size>ys.size))))) s';rw[show decide (xs.size>ys.size)=decide (ys.size<xs.size) from rfl,hfin];exact h
theorem QL{xl yl:List Int}{a b:Addr}{oa ob:Obj}{xs ys:Array Value}{na nb:Nat}{Q:Value→Shared→Prop}(hu:A.units<cLine)(hoa:s.heap.get? a=some oa)(hca:oa.cls=.type "tuple")(hda:oa.data=.seq xs na)(hob:s.heap.get? b=some ob)(hcb:ob.cls=.type "tuple")(hdb:ob.data=.seq ys nb)
  (hia:IntsAre xs.toList xl) (hib:IntsAre ys.toList yl) (h:Q (.bool (lx yl xl)) s):wpAny (model prog w) A (compareOp .Gt (.ref a) (.ref b)) Q E s:=by
 show wpAny _ _ (richCompare .Gt (.ref a) (.ref b)) Q E s;exact wpAny_richCompare_same_room (op:=.Gt) (T:="tuple") ⟨oa,hoa,hca⟩ ⟨ob,hob,hcb⟩ PySem.F.slot_tuple_gt
  (wpAny_call_entry PySem.F.slot_tuple_gt ⟨oa,hoa,hca⟩ PySem.F.entry_tuple_gt (QM hoa hda hob hcb hdb hia hib ⟨_,rfl,(fun z=>by cases z),h⟩) (PySem.F.args_tuple_gt_2 _ _)) hu
end
end SO
namespace L2
open PySem PySem.Spec PyProof.Rows
section
variable{X:Cx}
theorem SF(hu:X.A.units<cLine):OpR X (compareOp .Gt) (fun x y H Q=>∃(a b:Addr) (xl yl:List Int),x=.ref a∧y=.ref b∧SqT X.K H a (xl.map V.int)∧SqT X.K H b (yl.map V.int)∧Q (.bl (SO.lx yl xl)) H):=by
 intro pins s σ H x y v u Q I rx ry h;obtain⟨a,b,xl,yl,rfl,rfl,ha,hb,q⟩:=h;cases rx;cases ry;obtain⟨its,r1,⟨o,g1,c1,n,d1⟩,_⟩:=I.tuple ha;obtain⟨its',r2,⟨o',g2,c2,n',d2⟩,_⟩:=I.tuple hb;exact SO.QL hu g1 c1 d1 g2 c2 d2 (intsAre_of r1) (intsAre_of r2) ⟨.bl _,H,I,rfl,q⟩
theorem qY.r{H:Hp}{a:Addr}{kvs:List (Key×V)}{k:Key}(e:Rd H a (.dK kvs)):qY H a (kV k) (gC kvs k):=.inl ⟨kvs,k,e,rfl,rfl⟩
theorem QI{P:Program}{w:World}{n:Int}{v:Value}(h:(dO P w).is (.inl n) v=true):∃t,v=.int n t:=by
 rcases dH (show uV (.inl n) v=true from h) with⟨i,t,e,rfl⟩ | ⟨x,t,e,_⟩
 ·cases e;exact⟨t,rfl⟩
 ·cases e
theorem AE{P:Program}{w:World}{kvs:List (Key×V)}{vs:List (Key×Value)}(r:KV kvs vs){ns:List Int}(hn:kvs.map (·.1)=ns.map Sum.inl){us:List Value}(hl:us.length=vs.length)
  (hu:∀(i:Nat) v,us[i]?=some v→∃k x,vs[i]?=some (k,x)∧(dO P w).is k v=true):bY (ns.map V.int) us∧us.length=ns.length:=by
 have e1:ns.length=us.length:=by
  have:=congrArg List.length hn;simp only[Zq]at this;rw[hl,←r.length,this]
 refine⟨A6 (by rw[Zq];exact e1) fun j x u hx hu'=>?_,e1.symm⟩;obtain⟨k,y,h1,h2⟩:=hu j u hu';have e2:=r.keys;have e3:(vs.map (·.1))[j]?=some k:=by rw[Zk,h1];rfl
 rw[←e2,hn,Zk]at e3;obtain⟨n,q1,q2⟩:=Xz.mp e3;subst q2;rw[Zk,q1]at hx;cases hx;exact QI h2
theorem GS(hc:X.calm=true):fC X (.type "list") (fun xs H Q=>∃(d:Addr) (kvs:List (Key×V)) (ns:List Int),xs=[.ref d]∧Rd H d (.dK kvs)∧kvs.map (·.1)=ns.map Sum.inl∧∀l,H l=none→Q (.ref l) (upd H l (.lst (ns.map V.int)))):=by
 intro pins s σ H xs us Q I r h;obtain⟨d,kvs,ns,rfl,hd,hn,q⟩:=h;obtain⟨u,rfl,rx⟩:=vals1 r;cases rx;obtain⟨hz,ne,vs,kv,dd⟩:=AI I.hok hd;obtain⟨ep,hat⟩:=dd.dictAt;have hlen:=kv.length;refine PySem.W.kdl_call (PySem.W.kdl_dict (kvs:=vs) (ep:=ep) ne) (I.ok.hd hc) hat (by lia) fun h' tk acc' c' k e' it=>?_;obtain⟨hv,hl⟩:=AE kv hn (us:=acc'.toList) (by rw[Array.length_toList];exact it.1) fun i v hi=>it.2 i v (by rw[←Array.getElem?_toList];exact hi);refine⟨.ref s.heap.objs.size,_,I.laid (t':=tk) k (Nat.le_refl _) (show dC X.prog X.w _ h' _ (.lst (ns.map V.int)) from⟨?_,acc'.toList,c',hv,by rw[e']⟩),rfl,q _ I.fresh⟩;have:=congrArg List.length hn;simp only[Zq]at this;rw[Zq]
 lia
theorem B8(hc:X.calm=true):fC X (.builtin "sorted") (fun xs H Q=>∃(d:Addr) (kvs:List (Key×V)) (ns:List Int),xs=[.ref d]∧Rd H d (.dK kvs)∧kvs.map (·.1)=ns.map Sum.inl∧ns.length<64 ∧
  ∀(l:Addr) (ns':List Int),H l=none→ns'.Perm ns→ns'.Pairwise (·≤·)→Q (.ref l) (upd H l (.lst (ns'.map V.int)))):=by
 intro pins s σ H xs us Q I r h;obtain⟨d,kvs,ns,rfl,hd,hn,h64,q⟩:=h;obtain⟨u,rfl,rx⟩:=vals1 r;cases rx;obtain⟨hz,ne,vs,kv,dd⟩:=AI I.hok hd;obtain⟨ep,hat⟩:=dd.dictAt;have hlen:=kv.length;refine Calls.call_function_entry kind_sorted plain_sorted entry_sorted (args_sorted1 _) ?_;unfold Builtin.«sorted»;refine ZZ (m:=checkCount "sorted" 1 1 _) (ZY ?_);refine ZZ (PySem.W.kdu_collect (PySem.W.kdl_dict (kvs:=vs) (ep:=ep) ne) (I.ok.hd hc) hat (by lia) fun h' tk acc hk it=>?_);obtain⟨hv,hl⟩:=AE kv hn (us:=acc.toList) (by rw[Array.length_toList];exact it.1) fun i v hi=>it.2 i v (by rw[←Array.getElem?_toList];exact hi);have hl':acc.toList.length<64:=by lia
 have hz':acc.toList.length≤ZW:=Yr (by lia:acc.toList.length≤64) (by decide);refine ZZ (wpAny_newList ?_ hz');have ho:(h'.push (seqObj "list" acc.toList.toArray 0)).get? h'.objs.size=some (seqObj "list" acc.toList.toArray 0):=Heap.get?_push_size _ rfl;refine ZZ (ZU (wpAny_call_entry slot_list_sort ⟨_,ho,rfl⟩ entry_list_sort
  (list_sort_tree (s:={ s with heap:=h'.push (seqObj "list" acc.toList.toArray 0),toks:=tk }) ho (intsAre_of hv) hl' fun out ns' a1 a2 a3=>⟨_,rfl,?_⟩) (args_list_sort _)))
 refine ZY ⟨_,rfl,?_⟩;have I1:Inv X pins σ H { s with heap:=h',toks:=tk }:=I.kept hk;obtain⟨e,he⟩:=sortedHeap_at (out:=out) ho;refine⟨.ref h'.objs.size,_,I1.laid (t':=tk) (fun b o eb=>?_) (Nat.le_refl _) (show dC X.prog X.w _ _ _ (.lst (ns'.map V.int)) from⟨?_,out.toList,e,pD a1,he⟩),rfl,q _ ns' I1.fresh a2 a3⟩
 ·have hlt:=Heap.lt_size eb;show(sortedHeap _ _ _ _).get? b=_;rw[sortedHeap_old (Nat.ne_of_lt hlt) (by rw[Heap.size_push];exact YQ hlt)];exact Heap.get?_push_of_some _ eb
 ·rw[Zq,a2.length_eq];exact Yr (by lia:ns.length≤64) (by decide)
theorem pP:entryFor table "dict_itemiterator.__iter__" = some Builtin.«dict_keyiterator.__iter__» :=
 entryFor_alias (id':="dict_keyiterator.__iter__") (by kernel_rfl) rfl (by decide +kernel) (by kernel_rfl)
theorem Inv.freeze{pins:List (Addr×Obj)}{σ:St}{H:Hp}{s:Shared}{d:Addr}{kvs:List (Key×V)}{o:Obj}(I:Inv X pins σ H s)(hd:H d=some (.dK kvs))(ho:s.heap.get? d=some o):Inv X pins σ (upd H d (.frz o (.dK kvs))) s:=by
 have ne:∀b u,H b=some u→(∀z,u≠.dK z)→b≠d:=fun b u e z q=>by subst q;rw[hd]at e;cases e;exact z _ rfl
 refine I.step (h':=s.heap) (g':=s.gens) (d':=s.drawn) (t':=s.toks) (ch:=[]) (fun _ z=>nomatch z) (fun b o' _ _ _ e _=>e) (fun b o' _ _ _ e _=>⟨o'.slots,e⟩) (fun b o' _ _ e=>?_) (fun b o' _ e=>⟨o',e⟩) (fun b xs e=>?_) (fun b ob u e=>?_) (fun b ps e=>⟨#[],?_⟩) (fun m h=>h) (fun b u e=>?_) I.bare
 ·rw[aL (fun q=>by subst q;rw[hd]at e;cases e)];exact e
 ·rw[aL (ne b _ e fun z q=>by cases q)];exact e
 ·rw[aL (ne b _ e fun z q=>by cases q)];exact e
 ·rw[aL (ne b _ e fun z q=>by cases q),e];simp
 ·by_cases hb:b=d
  ·subst hb;rw[aB]at e;cases e;exact⟨ho,I.hok _ _ hd⟩
  ·rw[aL hb]at e;exact(I.hok b u e).stay (fun c v _ q=>q) (fun c q=>by rw[aL (ne c _ q fun z q'=>by cases q')];exact q) fun c xs q=>by rw[aL (ne c _ q fun z q'=>by cases q')];exact q
def ItD(d:Addr)(o:Obj)(kvs:List (Key×V)):It :=
 ⟨fun i H=>H d=some (.frz o (.dK kvs))∧i<kvs.length,fun i H v H'=>∃T p,kvs[i]?=some p∧v=.ref T∧H T=none∧H'=upd H T (.tup [kV p.1,p.2]),fun i H=>H d=some (.frz o (.dK kvs))∧kvs.length≤i⟩
theorem U5{P:Program}{w:World}{k:Key}{v:Value}(h:(dO P w).is k v=true):RelV (kV k) v:=by
 rcases dH (show uV k v=true from h) with⟨i,t,rfl,rfl⟩ | ⟨x,t,rfl,rfl⟩
 ·exact⟨t,rfl⟩
 ·exact⟨t,rfl⟩
theorem KV.get{κ:Type}:∀{kvs:List (κ×V)}{vs:List (κ×Value)}{i:Nat}{p:κ×V},KV kvs vs→kvs[i]?=some p→∃u,vs[i]?=some (p.1,u)∧RelV p.2 u
 |_,_,_,_,.nil,e=>by simp at e
 |_,_,0,_,.cons (b:=q) r _,e=>by
  simp at e;subst e;exact⟨q.2,by rw[r.1];rfl,r.2⟩
 |_,_,i+1,p,.cons _ t,e=>by
  obtain⟨u,h1,h2⟩:=KV.get (i:=i) (p:=p) t (by simpa using e);exact⟨u,by simpa using h1,h2⟩
theorem FA{P:Program}{w:World}{K:PySem.W.Frag}{elts:List Expr}{k:Nat}{pos:Pos}(d it:Addr)(o:Obj)(kvs:List (Key×V)){es:Array DictEntry}{ep:Nat}(hdat:o.data=.dict es ep) :
  Turn P w K (.Tuple elts k pos) (ItD d o kvs) [it] it (fun i h=>∃ok ov,IsItemIter h it d i kvs.length ep ok ov) where
 mem:=by simp
 obj:=fun i h st b hb=>by
  obtain⟨ok,ov,he⟩:=st;have e':=Zb.mp hb;subst e';exact⟨_,he,fun v z=>by
   have z':Data.fields _=Data.cell v:=z;cases z'⟩
 keep:=fun i h h' st k=>by
  obtain⟨ok,ov,he⟩:=st;exact⟨ok,ov,k it (by simp) _ he⟩
 item:=by
  intro X hP hw hK hc i pins s σ H E I hf st hg;subst hP hw hK;obtain⟨ok,ov,hit⟩:=st;obtain⟨hfz,hi⟩:=hg;obtain⟨ho,hz,ne,vs,kv,dd⟩:=(show dC X.prog X.w H s.heap d (.frz o (.dK kvs)) from I.hok d _ hfz)
  obtain⟨ep',hat⟩:=dd.dictAt;obtain⟨o2,es2,ho2,a1,hd2,a3⟩:=id hat;rw[ho]at ho2;cases ho2;rw[hdat]at hd2;cases hd2;have hlen:=kv.length;rw[hlen]at hit;obtain⟨u,hu,ru⟩:=KV.get kv (Zz hi);have fi:=hf it (by simp);refine wpAny_pyNext_items_item hit hat hu fun key h' hkey hout hT hsz hk=>?_;refine⟨_,rfl,?_⟩;have hTi:it≠s.heap.objs.size:=Nat.ne_of_lt (Heap.lt_size hit);have I1:Inv X pins σ (upd H s.heap.objs.size (.tup [kV kvs[i].1,kvs[i].2])) { s with heap:=h',toks:=s.toks } :=
   I.turnedNew (ch:=[it]) (fun b v hb q=>hk b v (fun z=>hb (by simp[z])) q) (fun b v q=>by
    by_cases h1:b=it
    ·subst h1;exact⟨_,hout⟩
    ·exact⟨v,hk b v h1 q⟩) (Nat.le_refl _) hf ⟨by show 2≤ZW;decide,[key,u],.cons (U5 hkey) (.cons ru .nil),⟨_,hT,rfl,_,rfl⟩⟩
  refine wpAny_letOwnedTupleGo_items hout fun h2 he2 hs2=>?_;have I2:Inv X pins σ (upd H s.heap.objs.size (.tup [kV kvs[i].1,kvs[i].2])) { s with heap:=h2,toks:=s.toks } :=
   Inv.turned (s:={ s with heap:=h',toks:=s.toks }) (h':=h2) (t':=s.toks) (it:=it) I1 (fun b o hb q=>(hs2.2 b hb).trans q) (by rw[aL hTi];exact fi.1) fi.2.1 fi.2.2.2.1 fi.2.2.2.2.1 fi.2.2.2.2.2
  refine⟨.ref s.heap.objs.size,_,I2,rfl,⟨s.heap.objs.size,kvs[i],Zz hi,rfl,I.fresh,rfl⟩,⟨_,_,by rw[hlen];exact he2⟩,fun b hb=>?_⟩;have e':=Zb.mp hb;subst e';rw[aL hTi];exact fi.1
 done:=by
  intro X hP hw hK hc i pins s σ H E I hf st hg;subst hP hw hK;obtain⟨ok,ov,hit⟩:=st;obtain⟨hfz,hi⟩:=hg;obtain⟨ho,hz,ne,vs,kv,dd⟩:=(show dC X.prog X.w H s.heap d (.frz o (.dK kvs)) from I.hok d _ hfz)
  obtain⟨ep',hat⟩:=dd.dictAt;obtain⟨o2,es2,ho2,a1,hd2,a3⟩:=id hat;rw[ho]at ho2;cases ho2;rw[hdat]at hd2;cases hd2;have hlen:=kv.length;rw[hlen]at hit;obtain⟨f0,f1,f2,f3,f4,f5⟩:=hf it (by simp);refine wpAny_pyNext_items_end (I.ok.hd hc) hit hat (Zr (by lia)) fun h' eb=>⟨rfl,?_⟩
  exact I.turned (t':=s.toks) (fun b o hb q=>eb b o hb q) f0 f1 f3 f4 f5
 self:=fun _ _ s _ _ st h=>by
  obtain⟨ok,ov,he⟩:=st;have hT:s.TypeIs (.ref it) "dict_itemiterator":=⟨_,he,rfl⟩
  refine wpAny_pyIter_slot hT F.slot_dict_itemiterator_iter (wpAny_call_entry F.slot_dict_itemiterator_iter hT pP ?_ (F.args_dict_itemiterator_iter_1 _));show wpAny _ _ (ret (.ref it)) _ _ s;exact ZY ⟨_,rfl,"dict_itemiterator",_,hT,F.slot_dict_itemiterator_next.lookup,h⟩
end
end L2
namespace L2
open PySem PySem.Spec PyProof.Rows
section
variable{X:Cx}
def S9(to:TE):TI:=fun σ H R=>to σ H fun x H1=>∃(d:Addr) (kvs:List (Key×V)),x=.ref d∧H1 d=some (.dK kvs)∧∀o,R (ItD d o kvs) (upd H1 d (.frz o (.dK kvs)))
theorem M4{o:Expr}{to:TE}{elts:List Expr}{k:Nat}{tpos apos cpos:Pos}(ho:PE X o to)
  (hbase:attributeBase o "items" X.env (eval o X.env)=eval o X.env:=by rfl) (hline:(apos.endLine==cpos.line)=true:=by rfl):PI X (.Tuple elts k tpos) (.Call (.Attribute o "items" apos) [] [] cpos) (S9 to):=by
 intro pins s σ H R I h;refine wpAny_Call_method0_late hbase hline (thn (ho pins s σ H _ I h) fun v s1 ⟨x,H1,I1,r1,d,kvs,ex,hd,q1⟩=>?_);subst ex;cases r1;obtain⟨h1,h2⟩:=E8 (T:="dict") I1 (show RelV (.ref d) (.ref d) from rfl) (.inr (.inr (.inl ⟨rfl,.inl ⟨kvs,hd⟩⟩)));obtain⟨hz,ne,vs,kv,dd⟩:=RC I1.hok hd;refine⟨"dict","dict.items",PySem.F.plainAttrs_dict,PySem.F.slot_dict_items,PySem.F.type_dict_items,h1,h2,Calls.callWith_builtin rfl (PySem.evalArgs_none ?_)⟩;refine call_meetsIn PySem.F.slot_dict_items h1 PySem.F.entry_dict_items (PySem.F.args_dict_items_1 _) (meets_dict_items (dO X.prog X.w) d ne) ⟨⟨vs,dd⟩,?_⟩;obtain⟨ep,hat⟩:=dd.dictAt;obtain⟨o,es,ho',a1,hdat,a3⟩:=id hat;refine wpAny_pyIter_items (v:=s1.heap.objs.size) (d:=d) (knd:=dO X.prog X.w) (kvs:=vs) (ep:=ep) ⟨_,Heap.get?_push_size _ rfl,rfl,rfl⟩ (hat.push _) ?_;have I2:=(I1.freeze hd ho').kept (t':=s1.toks) (h':=s1.heap.push { cls:=.type "dict_items",data:=.fields #[.ref d] }) fun b u e=>Heap.get?_push_of_some _ e;have I3:=I2.kept (t':=s1.toks) (h':=(s1.heap.push { cls:=.type "dict_items",data:=.fields #[.ref d] }).push { cls:=.type "dict_itemiterator",data:=.fields #[.none,.bool false,.ref d,.int 0 0,.int vs.length 0,.int ep 0,.none,.none] }) fun b u e=>Heap.get?_push_of_some _ e;refine⟨(s1.heap.push { cls:=.type "dict_items",data:=.fields #[.ref d] }).objs.size,[(s1.heap.push { cls:=.type "dict_items",data:=.fields #[.ref d] }).objs.size],_,_,_,rfl,I3,FA d _ o kvs hdat,⟨.none,.none,?_⟩,fun b hb=>?_,q1 o⟩
 ·rw[kv.length];exact Heap.get?_push_size _ rfl
 ·have e':=Zb.mp hb;subst e';exact I2.fpOk (Nat.le_refl _) (I2.hok.fresh (Nat.le_refl _))
end
theorem KY{d:Addr}{o:Obj}{kvs:List (Key×V)}{g:TG}{tb:TS}{D:Ends}{σ:St}{H:Hp}(Pv:Nat→St→Hp→Prop)(h0:Pv 0 σ H)(hl:∀i σ H,i≤kvs.length→Pv i σ H→H d=some (.frz o (.dK kvs)))
  (hs:∀(i:Nat) p σ H T,kvs[i]?=some p→Pv i σ H→H T=none→g (.ref T) σ (upd H T (.tup [kV p.1,p.2])) fun σ2 H2=>tb { D with nx:=Pv (i+1),ct:=Pv (i+1),bk:=D.nx } σ2 H2) (hd:∀σ H,Pv kvs.length σ H→D.nx σ H) :
  ∃W:Nat→Nat→St→Hp→Prop,(∃m,W 0 m σ H)∧∀i m σ H,W i m σ H →
   ((ItD d o kvs).stop i H∧D.nx σ H)∨((ItD d o kvs).go i H∧∃N:St→Hp→Prop,(∀σ' H',N σ' H'→∃m',m' < m∧W (i+1) m' σ' H')∧∀x H',(ItD d o kvs).yld i H x H'→g x σ H' fun σ2 H2=>tb { D with nx:=N,ct:=N,bk:=D.nx } σ2 H2):=by
 refine⟨fun i m σ H=>m=kvs.length-i∧i≤kvs.length∧Pv i σ H,⟨kvs.length,by simp,Nat.zero_le _,h0⟩,?_⟩;rintro i m σ H ⟨rfl,hi,p⟩;have q:=hl i σ H hi p;by_cases hlt:i<kvs.length
 ·refine .inr ⟨⟨q,hlt⟩,Pv (i+1),fun σ' H' p'=>⟨kvs.length-(i+1),by omega,rfl,hlt,p'⟩,fun x H' y=>?_⟩;obtain⟨T,kv,e,rfl,hT,rfl⟩:=y;exact hs i kv σ _ T e p hT
 ·have e:i=kvs.length:=by lia
  subst e;exact .inl ⟨⟨q,Nat.le_refl _⟩,hd σ H p⟩
end L2
namespace L2
open PySem PySem.Spec PyProof.Rows
section
variable{X:Cx}{pins:List (Addr×Obj)}{σ:St}{H:Hp}{s:Shared}{h':Heap}
theorem Inv.turnedCh{t':Nat}{ch:List Addr}(I:Inv X pins σ H s)(k:∀b u,b∉ch→s.heap.get? b=some u→h'.get? b=some u)(hf:∀b∈ch,vQ X pins H b):Inv X pins σ H { s with heap:=h',toks:=t' }:=by
 have nit:∀b u,H b=some u→b∉ch:=fun b u e z=>by rw[(hf b z).1]at e;cases e
 refine I.step (g':=s.gens) (d':=s.drawn) (ch:=ch) (fun b hb=>?_) (fun b o _ _ hc e _=>k b o hc e) (fun b o _ _ hc e _=>⟨o.slots,k b o hc e⟩) (fun b u hc e n=>n) (fun b u hc e=>⟨u,k b u hc e⟩)
  (fun b xs e=>e) (fun b ob u e=>e) (fun b ps e=>⟨#[],by rw[e];simp⟩) (fun m hm=>?_) (fun b u e=>?_) I.bare
 ·exact⟨(hf b hb).2.2.2.1,(hf b hb).2.1,(hf b hb).2.2.2.2.1,(hf b hb).2.2.2.2.2⟩
 ·obtain⟨ob,es,ep,ho,r⟩:=hm;exact⟨ob,es,ep,k _ ob (fun z=>(hf _ z).2.1 rfl) ho,r⟩
 ·refine(I.hok b u e).stay (fun c v hc q=>k c v ?_ q) (fun c q=>q) fun c xs q=>q;rcases hc with z | z
  ·rw[z];exact nit b u e
  ·exact nit c _ z
end
def Itz(a b:Addr):It :=
 ⟨fun i H=>∃xs ys x y,H a=some (.lst xs)∧H b=some (.lst ys)∧xs[i]?=some x∧ys[i]?=some y,fun i H v H'=>∃T x y,v=.ref T∧H T=none∧H'=upd H T (.tup [x,y])∧(∀xs,H a=some (.lst xs)→xs[i]?=some x)∧∀ys,H b=some (.lst ys)→ys[i]?=some y,fun i H=>∃xs ys,H a=some (.lst xs)∧H b=some (.lst ys)∧(xs.length≤i∨ys.length≤i)⟩
theorem LY{P:Program}{w:World}{K:PySem.W.Frag}{elts:List Expr}{k:Nat}{pos:Pos}(a b z TI TO i1 i2:Addr)(d:[z,TI,TO,i1,i2].Nodup) :
  Turn P w K (.Tuple elts k pos) (Itz a b) [z,TI,TO,i1,i2] z (fun i h=>IsZip h z TI TO .none∧IsPair h TI (.ref i1) (.ref i2)∧(∃u v,IsPair h TO u v)∧h.IsListIter i1 a i∧h.IsListIter i2 b i):=by
 simp only[List.nodup_cons,Zn,List.not_mem_nil,or_false,not_or]at d;obtain⟨⟨d1,d2,d3,d4⟩,⟨d5,d6,d7⟩,⟨d8,d9⟩,d10,_⟩:=d;have apart:∀{H:Hp}{l l':Addr}{xs ys:List V},H l=some (.lst xs)→H l'=some (.lst ys)→(∀c∈[z,TI,TO,i1,i2],H c=none)→ZipApart z TI TO i1 i2 l l':=fun {H l l' xs ys} h h' hn =>
  ⟨Ne.symm d1,Ne.symm d2,Ne.symm d3,Ne.symm d4,d5,d6,d7,d8,d9,d10,aJ h (hn z (by simp)),aJ h (hn TO (by simp)),aJ h (hn i1 (by simp)),aJ h (hn i2 (by simp)),
   aJ h' (hn z (by simp)),aJ h' (hn TO (by simp)),aJ h' (hn i1 (by simp)),aJ h' (hn i2 (by simp))⟩
 refine⟨by simp,?_,?_,?_,?_,?_⟩
 ·rintro i h ⟨hz,hTI,⟨u,v,hTO⟩,⟨o1,h1,c1,e1⟩,⟨o2,h2,c2,e2⟩⟩ b' hb;simp only[Zn,List.not_mem_nil,or_false]at hb;rcases hb with rfl | rfl | rfl | rfl | rfl
  ·exact⟨_,hz,fun v q=>by have q':Data.fields _=Data.cell v:=q;cases q'⟩
  ·exact⟨_,hTI,fun v q=>by have q':Data.seq _ _=Data.cell v:=q;cases q'⟩
  ·exact⟨_,hTO,fun v q=>by have q':Data.seq _ _=Data.cell v:=q;cases q'⟩
  ·exact⟨_,h1,fun v q=>by rw[e1]at q;cases q⟩
  ·exact⟨_,h2,fun v q=>by rw[e2]at q;cases q⟩
 ·rintro i h h' ⟨hz,hTI,⟨u,v,hTO⟩,h1,h2⟩ kk;exact⟨kk z (by simp) _ hz,kk TI (by simp) _ hTI,⟨u,v,kk TO (by simp) _ hTO⟩,h1.at fun o e=>kk i1 (by simp) o e,h2.at fun o e=>kk i2 (by simp) o e⟩
 ·intro X hP hw hK hc i pins s σ H E I hf st hg;subst hP hw hK;obtain⟨hz,hTI,⟨u,v,hTO⟩,h1,h2⟩:=st;obtain⟨xs,ys,x,y,ha,hb,hx,hy⟩:=hg;have D:=apart ha hb fun c hc=>(hf c hc).1;obtain⟨_,its,n,rv,hl,e⟩:=I.lstM ha;obtain⟨_,its2,n2,rv2,hl2,e2⟩:=I.lstM hb;obtain⟨u1,hu1,ru1⟩:=rv.get hx;obtain⟨u2,hu2,ru2⟩:=rv2.get hy;have hux:its.toArray[i]?=some u1:=by simpa using hu1
  have huy:its2.toArray[i]?=some u2:=by simpa using hu2
  refine wpAny_pyNext_zip_item D hz hTI hTO h1 h2 ⟨_,e,rfl,n,rfl⟩ ⟨_,e2,rfl,n2,rfl⟩ hux huy fun h' a1 a2 a3 a4 a5 a6 hk=>?_;refine⟨_,rfl,?_⟩;have kk:∀c o,c∉[z,TO,i1,i2]→s.heap.get? c=some o→h'.get? c=some o:=fun c o hc q=>hk c o (fun x=>hc (by simp[x])) (fun x=>hc (by simp[x])) (fun x=>hc (by simp[x])) (fun x=>hc (by simp[x])) q;have th:∀c o,s.heap.get? c=some o→∃o',h'.get? c=some o':=fun c o q=>by
   by_cases c1:c=z
   ·subst c1;exact⟨_,a1⟩
   ·by_cases c2:c=TO
    ·subst c2;exact⟨_,a2⟩
    ·by_cases c3:c=i1
     ·subst c3;obtain⟨o',q1,_⟩:=a3;exact⟨_,q1⟩
     ·by_cases c4:c=i2
      ·subst c4;obtain⟨o',q1,_⟩:=a4;exact⟨_,q1⟩
      ·exact⟨o,hk c o c1 c2 c3 c4 q⟩
  have sub:∀c∈[z,TO,i1,i2],c∈[z,TI,TO,i1,i2]:=fun c hc=>by simp at hc ⊢;rcases hc with rfl | rfl | rfl | rfl<;>simp
  have I1:Inv X pins σ (upd H s.heap.objs.size (.tup [x,y])) { s with heap:=h',toks:=s.toks } :=
   I.turnedNew (ch:=[z,TO,i1,i2]) kk th (Nat.le_refl _) (fun c hc=>hf c (sub c hc)) ⟨by show 2≤ZW;decide,[u1,u2],.cons ru1 (.cons ru2 .nil),⟨_,a5,rfl,_,rfl⟩⟩
  have fz:=hf z (by simp);have neT:∀c∈[z,TI,TO,i1,i2],c≠s.heap.objs.size:=fun c hc=>by
   simp only[Zn,List.not_mem_nil,or_false]at hc;rcases hc with rfl | rfl | rfl | rfl | rfl
   ·exact Nat.ne_of_lt (Heap.lt_size hz)
   ·exact Nat.ne_of_lt (Heap.lt_size hTI)
   ·exact Nat.ne_of_lt (Heap.lt_size hTO)
   ·obtain⟨_,q,_⟩:=h1;exact Nat.ne_of_lt (Heap.lt_size q)
   ·obtain⟨_,q,_⟩:=h2;exact Nat.ne_of_lt (Heap.lt_size q)
  refine wpAny_letOwnedTupleGo_zip a1 fun h2' hz2 hs2=>?_;have I2:Inv X pins σ (upd H s.heap.objs.size (.tup [x,y])) { s with heap:=h2',toks:=s.toks } :=
   Inv.turned (s:={ s with heap:=h',toks:=s.toks }) (h':=h2') (t':=s.toks) (it:=z) I1 (fun c o hc q=>(hs2.2 c hc).trans q) (by rw[aL (neT z (by simp))];exact fz.1) fz.2.1 fz.2.2.2.1 fz.2.2.2.2.1 fz.2.2.2.2.2
  refine⟨.ref s.heap.objs.size,_,I2,rfl,⟨s.heap.objs.size,x,y,rfl,I.fresh,rfl,fun zs hzs=>by rw[ha]at hzs;cases hzs;exact hx,fun zs hzs=>by rw[hb]at hzs;cases hzs;exact hy⟩,
   ⟨hz2,(hs2.2 TI (Ne.symm d1)).trans (hk TI _ (Ne.symm d1) d5 d6 d7 hTI),⟨_,_,(hs2.2 TO (Ne.symm d2)).trans a2⟩,a3.at fun o q=>(hs2.2 i1 (Ne.symm d3)).trans q,a4.at fun o q=>(hs2.2 i2 (Ne.symm d4)).trans q⟩,fun c hc=>?_⟩
  rw[aL (neT c hc)];exact(hf c hc).1
 ·intro X hP hw hK hc i pins s σ H E I hf st hg;subst hP hw hK;obtain⟨hz,hTI,⟨u,v,hTO⟩,h1,h2⟩:=st;obtain⟨xs,ys,ha,hb,hx⟩:=hg;have D:=apart ha hb fun c hc=>(hf c hc).1;obtain⟨_,its,n,rv,hl,e⟩:=I.lstM ha;obtain⟨_,its2,n2,rv2,hl2,e2⟩:=I.lstM hb;have sub:∀c∈[z,TO,i1,i2],c∈[z,TI,TO,i1,i2]:=fun c hc=>by simp at hc ⊢;rcases hc with rfl | rfl | rfl | rfl<;>simp
  refine wpAny_pyNext_zip_end (I.ok.hd hc) D hz hTI hTO h1 h2 ⟨_,e,rfl,n,rfl⟩ ⟨_,e2,rfl,n2,rfl⟩ ?_ fun h' hk=>⟨rfl,?_⟩
  ·rcases hx with q | q
   ·left;simp;lia
   ·right;simp;lia
  ·exact I.turnedCh (t':=s.toks) (ch:=[z,TO,i1,i2]) (fun c o hc q=>hk c o (fun x=>hc (by simp[x])) (fun x=>hc (by simp[x])) (fun x=>hc (by simp[x])) (fun x=>hc (by simp[x])) q) fun c hc=>hf c (sub c hc)
 ·intro A i s Q E st h;exact wpAny_pyIter_zip st.1 h
section
variable{X:Cx}
def WC(ta:TA):TI:=fun σ H R=>ta σ H fun vs H1=>∃a b xs ys,vs=[.ref a,.ref b]∧H1 a=some (.lst xs)∧H1 b=some (.lst ys)∧R (Itz a b) H1
theorem FR{a b:Expr}{ta:TA}{p pos:Pos}{elts:List Expr}{k:Nat}{tpos:Pos}(hg:Gl X "zip")(hm:X.mg "zip" = none)(ha:PA X [a,b] ta)(hs:starEach [a,b] X.env=[(false,eval a X.env),(false,eval b X.env)]:=by rfl)(hs2:starEach [b] X.env=[(false,eval b X.env)]:=by rfl) :
  PI X (.Tuple elts k tpos) (.Call (.Name "zip" p) [a,b] [] pos) (WC ta):=by
 intro pins s σ H R I h;refine Call_ (oB I hg hm boot_zip (PyProof.Rows.callWith_type1 (thn (ha pos pins s σ H _ I h) fun us s1 ⟨vs,H1,I1,r1,q1⟩=>?_) (by rw[hs,hs2]) (by rw[hs2];rfl)));obtain⟨l,l2,xs,ys,e,hx,hy,q⟩:=q1;subst e;cases r1 with
 |cons r rr =>
  cases rr with
  |cons r' rr =>
   cases rr;cases r;cases r';obtain⟨_,its,n,rv,hl,e⟩:=I1.lstM hx;obtain⟨_,its2,n2,rv2,hl2,e2⟩:=I1.lstM hy;refine call_zip_2 ⟨_,e,rfl,n,rfl⟩ ⟨_,e2,rfl,n2,rfl⟩ fun h' z1 z2 z3 z4 z5 hsz hk=>?_;refine wpAny_pyIter_zip z1 ?_;have I2:Inv X pins σ H1 { s1 with heap:=h' }:=I1.kept (t':=s1.toks) hk;refine⟨s1.heap.objs.size+4,[s1.heap.objs.size+4,s1.heap.objs.size+2,s1.heap.objs.size+3,s1.heap.objs.size,s1.heap.objs.size+1],_,_,H1,rfl,I2,LY l l2 _ _ _ _ _ (by simp),⟨z1,z2,⟨_,_,z3⟩,z4,z5⟩,fun c hc=>?_,q⟩;have hc':s1.heap.objs.size≤c:=by
    simp only[Zn,List.not_mem_nil,or_false]at hc;rcases hc with rfl | rfl | rfl | rfl | rfl<;>lia
   exact I1.fpOk hc' (I1.hok.fresh hc')
end
theorem IL{a b:Addr}{xs ys:List V}{g:TG}{tb:TS}{D:Ends}{σ:St}{H:Hp}(Pv:Nat→St→Hp→Prop)(hlen:xs.length=ys.length)(h0:Pv 0 σ H)(hl:∀i σ H,i≤xs.length→Pv i σ H→H a=some (.lst xs)∧H b=some (.lst ys))
  (hs:∀(i:Nat) x y σ H T,xs[i]?=some x→ys[i]?=some y→Pv i σ H→H T=none→g (.ref T) σ (upd H T (.tup [x,y])) fun σ2 H2=>tb { D with nx:=Pv (i+1),ct:=Pv (i+1),bk:=D.nx } σ2 H2) (hd:∀σ H,Pv xs.length σ H→D.nx σ H) :
  ∃W:Nat→Nat→St→Hp→Prop,(∃m,W 0 m σ H)∧∀i m σ H,W i m σ H →
   ((Itz a b).stop i H∧D.nx σ H)∨((Itz a b).go i H∧∃N:St→Hp→Prop,(∀σ' H',N σ' H'→∃m',m' < m∧W (i+1) m' σ' H')∧∀x H',(Itz a b).yld i H x H'→g x σ H' fun σ2 H2=>tb { D with nx:=N,ct:=N,bk:=D.nx } σ2 H2):=by
 refine⟨fun i m σ H=>m=xs.length-i∧i≤xs.length∧Pv i σ H,⟨xs.length,by simp,Nat.zero_le _,h0⟩,?_⟩;rintro i m σ H ⟨rfl,hi,p⟩;obtain⟨q1,q2⟩:=hl i σ H hi p;by_cases hlt:i<xs.length
 ·refine .inr ⟨⟨xs,ys,xs[i],ys[i]'(by lia),q1,q2,by simp[hlt],by rw[Zz (by lia)]⟩,Pv (i+1),fun σ' H' p'=>⟨xs.length-(i+1),by lia,rfl,hlt,p'⟩,fun x H' y=>?_⟩;obtain⟨T,x',y',rfl,hT,rfl,y1,y2⟩:=y;exact hs i x' y' σ _ T (y1 xs q1) (y2 ys q2) p hT
 ·have e:i=xs.length:=by lia
  subst e;exact .inl ⟨⟨xs,ys,q1,q2,.inl (Nat.le_refl _)⟩,hd σ H p⟩
end L2
namespace L2
open PySem PySem.Spec PyProof.Rows
end L2
namespace L2
open PySem PyProof.Rows
theorem sP:∀xs ys:List Int,PyData.eqvAll (xs.map PyData.int) (ys.map PyData.int)=decide (xs=ys)
 |[],[]=>rfl
 |[],_::_=>rfl
 |_::_,[]=>rfl
 |x::xs,y::ys=>by
  simp only[List.map_cons,PyData.eqvAll,sP xs ys,PyData.eqv];by_cases h:x=y
  ·subst h;simp
  ·simp[h]
theorem lL(xs ys:List Int):PyData.eqv (.list (xs.map PyData.int)) (.list (ys.map PyData.int))=decide (xs=ys):=by
 rw[PyData.eqv,sP]
end L2
namespace FL
structure En where
 d:Int
 v:Nat
 k:Nat
 by_:Int
section
variable(rest:Nat→Int)(src dst:Nat→Int→Nat)(len:Nat→Int→Int)(op:Nat→Int→Prop)
def Led(R:List En)(e:En):Prop:=op e.k e.by_∧dst e.k e.by_=e.v∧e.by_≠0∧∃u∈R,u.v=src e.k e.by_∧e.d=u.d+len e.k e.by_
def A4(e:En):Prop:=e.by_=0∧e.d=0∧0<rest e.v
structure Rch(n:Nat)(pr:Nat→Int→Prop)(R W:List En)(nr:Nat→Option Int):Prop where
 old:∀(i:Nat) e,R[i]?=some e→A4 rest e∨Led src dst len op (R.take i) e
 wait:∀e∈W,A4 rest e∨Led src dst len op R e
 lt:∀e∈R++W,e.v<n
 nd:(R.map (·.v)).Nodup
 up:R.Pairwise fun a b=>a.d≤b.d
 mono:∀u∈R,∀e∈W,u.d≤e.d
 dom:∀k by_,pr k by_→op k by_→∃x,nr (dst k by_)=some x∧∃u∈R,u.v=src k by_∧x≤u.d+len k by_
 near:∀v x,nr v=some x→∃e∈R++W,e.v=v∧e.d≤x
 pos:∀v,v<n→0<rest v→∃e∈R++W,e.v=v∧e.d≤0
variable{rest src dst len op}{n:Nat}{pr pr':Nat→Int→Prop}{R W W':List En}{nr:Nat→Option Int}{e:En}
theorem Led.more{R R':List En}(h:Led src dst len op R e)(s:∀u∈R,u∈R'):Led src dst len op R' e:=by
 obtain⟨a,b,c,u,hu,r⟩:=h;exact⟨a,b,c,u,s u hu,r⟩
theorem Rch.start(hW:∀e∈W,A4 rest e∧e.v<n)(all:∀v,v<n→0<rest v→∃e∈W,e.v=v):Rch rest src dst len op n (fun _ _=>False) [] W (fun _=>none) where
 old:=fun i e h=>by simp at h
 wait:=fun e he=>.inl (hW e he).1
 lt:=fun e he=>(hW e (by simpa using he)).2
 nd:=List.nodup_nil
 up:=.nil
 mono:=fun u hu=>by cases hu
 dom:=fun _ _ h=>h.elim
 near:=fun _ _ h=>by cases h
 pos:=fun v hv h=>by
  obtain⟨e,he,ev⟩:=all v hv h;exact⟨e,by simpa using he,ev,by rw[(hW e he).1.2.1];exact Int.le_refl _⟩
theorem Rch.drop(h:Rch rest src dst len op n pr R W nr)(p:W.Perm (e::W'))(he:∃u∈R,u.v=e.v):Rch rest src dst len op n pr R W' nr:=by
 have sub:∀x∈W',x∈W:=fun x hx=>p.mem_iff.mpr (.tail _ hx);have inst:∀{v:Nat}{x:Int},(∃e∈R++W,e.v=v∧e.d≤x)→∃e∈R++W',e.v=v∧e.d≤x:=fun {v x} ⟨y,hy,yv,yd⟩=>by
  rcases Zf.mp hy with hy | hy
  ·exact⟨y,List.mem_append_left _ hy,yv,yd⟩
  ·rcases Zn.mp (p.mem_iff.mp hy) with rfl | hy'
   ·obtain⟨u,hu,uv⟩:=he;exact⟨u,List.mem_append_left _ hu,uv.trans yv,Int.le_trans (h.mono u hu _ hy) yd⟩
   ·exact⟨y,List.mem_append_right _ hy',yv,yd⟩
 exact{ old:=h.old,wait:=fun x hx=>h.wait x (sub x hx),lt:=fun x hx=>h.lt x ((Zf.mp hx).elim (List.mem_append_left _) fun z=>List.mem_append_right _ (sub x z)),nd:=h.nd,up:=h.up,mono:=fun u hu x hx=>h.mono u hu x (sub x hx),dom:=h.dom,near:=fun v x hv=>inst (h.near v x hv),pos:=fun v hv hp=>inst (h.pos v hv hp) }
theorem Rch.take(h:Rch rest src dst len op n pr R W nr)(p:W.Perm (e::W'))(least:∀x∈W',e.d≤x.d)(he:∀u∈R,u.v≠e.v):Rch rest src dst len op n pr (R++[e]) W' nr:=by
 have me:e∈W:=p.mem_iff.mpr (.head _);have sub:∀x∈W',x∈W:=fun x hx=>p.mem_iff.mpr (.tail _ hx);have inst:∀{v:Nat}{x:Int},(∃e∈R++W,e.v=v∧e.d≤x)→∃y∈(R++[e])++W',y.v=v∧y.d≤x:=fun {v x} ⟨y,hy,yv,yd⟩=>by
  refine⟨y,?_,yv,yd⟩;rcases Zf.mp hy with hy | hy
  ·exact List.mem_append_left _ (List.mem_append_left _ hy)
  ·rcases Zn.mp (p.mem_iff.mp hy) with rfl | hy'
   ·exact List.mem_append_left _ (List.mem_append_right _ (.head _))
   ·exact List.mem_append_right _ hy'
 exact{
  old:=fun i x hx=>by
   rcases Xq i R.length with hi | hi
   ·rw[Zx hi]at hx;rw[List.take_append_of_le_length (Nat.le_of_lt hi)];exact h.old i x hx
   ·rw[Zy hi]at hx;have hz:i-R.length=0:=by
     have:=(Zj.mp hx).1;simp at this
     lia
    rw[hz]at hx;have ex:e=x:=by simpa using hx
    subst ex;have ei:i=R.length:=by lia
    subst ei;rw[List.take_left];exact h.wait _ me
  wait:=fun x hx=>(h.wait x (sub x hx)).imp id fun z=>z.more fun u hu=>List.mem_append_left _ hu
  lt:=fun x hx=>by
   rcases Zf.mp hx with hx | hx
   ·rcases Zf.mp hx with hx | hx
    ·exact h.lt x (List.mem_append_left _ hx)
    ·cases hx with
     |head=>exact h.lt _ (List.mem_append_right _ me)
     |tail _ z=>cases z
   ·exact h.lt x (List.mem_append_right _ (sub x hx))
  nd:=by
   rw[Zt];refine List.nodup_append.mpr ⟨h.nd,by simp,?_⟩;intro a ha b hb;obtain⟨u,hu,rfl⟩:=Zh.mp ha;have:b=e.v:=by simpa using hb
   rw[this];exact he u hu
  up:=List.pairwise_append.mpr ⟨h.up,List.pairwise_singleton _ _,fun a ha b hb=>by
   have:b=e:=by simpa using hb
   rw[this];exact h.mono a ha e me⟩
  mono:=fun u hu x hx=>by
   rcases Zf.mp hu with hu | hu
   ·exact h.mono u hu x (sub x hx)
   ·have:u=e:=by simpa using hu
    rw[this];exact least x hx
  dom:=fun k by_ hp ho=>by
   obtain⟨x,h1,u,hu,r⟩:=h.dom k by_ hp ho;exact⟨x,h1,u,List.mem_append_left _ hu,r⟩
  near:=fun v x hv=>inst (h.near v x hv)
  pos:=fun v hv hp=>inst (h.pos v hv hp) }
theorem Rch.pass{k:Nat}{by_:Int}(h:Rch rest src dst len op n pr R W nr)(c:op k by_→∃x,nr (dst k by_)=some x∧∃u∈R,u.v=src k by_∧x≤u.d+len k by_)(sub:∀k' b',pr' k' b'→pr k' b'∨(k'=k∧b'=by_)):Rch rest src dst len op n pr' R W nr :=
 ⟨h.old,h.wait,h.lt,h.nd,h.up,h.mono,fun k' b' hp ho=>(sub k' b' hp).elim (fun z=>h.dom k' b' z ho) fun z=>by
  obtain⟨rfl,rfl⟩:=z;exact c ho,h.near,h.pos⟩
theorem Rch.put{k:Nat}{by_:Int}{u:En}(h:Rch rest src dst len op n pr R W nr)(ho:op k by_)(hb:by_≠0)(hu:u∈R)(uv:u.v=src k by_)(top:∀x∈R,x.d≤u.d)(hl:0≤len k by_)(hd:dst k by_<n)
  (better:∀x,nr (dst k by_)=some x→u.d+len k by_≤x) (p:W'.Perm (⟨u.d+len k by_,dst k by_,k,by_⟩::W)) (sub:∀k' b',pr' k' b'→pr k' b'∨(k'=k∧b'=by_)) :
  Rch rest src dst len op n pr' R W' (fun v=>if v=dst k by_ then some (u.d+len k by_) else nr v):=by
 have new:(⟨u.d+len k by_,dst k by_,k,by_⟩:En)∈W':=p.mem_iff.mpr (.head _);have grow:∀{v:Nat}{x:Int},(∃e∈R++W,e.v=v∧e.d≤x)→∃e∈R++W',e.v=v∧e.d≤x:=fun {v x} ⟨y,hy,r⟩=>by
  refine⟨y,?_,r⟩;rcases Zf.mp hy with hy | hy
  ·exact List.mem_append_left _ hy
  ·exact List.mem_append_right _ (p.mem_iff.mpr (.tail _ hy))
 exact{
  old:=h.old
  wait:=fun x hx=>by
   rcases Zn.mp (p.mem_iff.mp hx) with rfl | hx
   ·exact .inr ⟨ho,rfl,hb,u,hu,uv,rfl⟩
   ·exact h.wait x hx
  lt:=fun x hx=>by
   rcases Zf.mp hx with hx | hx
   ·exact h.lt x (List.mem_append_left _ hx)
   ·rcases Zn.mp (p.mem_iff.mp hx) with rfl | hx
    ·exact hd
    ·exact h.lt x (List.mem_append_right _ hx)
  nd:=h.nd
  up:=h.up
  mono:=fun y hy x hx=>by
   rcases Zn.mp (p.mem_iff.mp hx) with rfl | hx
   ·show y.d≤u.d+len k by_;have:=top y hy
    lia
   ·exact h.mono y hy x hx
  dom:=fun k' b' hp ho'=>by
   by_cases z:dst k' b'=dst k by_
   ·refine⟨_,if_pos z,?_⟩;rcases sub k' b' hp with y | ⟨rfl,rfl⟩
    ·obtain⟨x,h1,w,hw,wv,hx⟩:=h.dom k' b' y ho';rw[z]at h1;have:=better x h1;exact⟨w,hw,wv,by lia⟩
    ·exact⟨u,hu,uv,Int.le_refl _⟩
   ·rcases sub k' b' hp with y | ⟨rfl,rfl⟩
    ·obtain⟨x,h1,r⟩:=h.dom k' b' y ho';exact⟨x,(if_neg z).trans h1,r⟩
    ·exact absurd rfl z
  near:=fun v x hv=>by
   by_cases z:v=dst k by_
   ·rw[if_pos z]at hv;cases hv;exact⟨_,List.mem_append_right _ new,z.symm,Int.le_refl _⟩
   ·rw[if_neg z]at hv;exact grow (h.near v x hv)
  pos:=fun v hv hp=>grow (h.pos v hv hp) }
theorem Rch.have_pos(h:Rch rest src dst len op n pr R [] nr){v:Nat}(hv:v<n)(hp:0<rest v):∃u∈R,u.v=v:=by
 obtain⟨e,he,ev,_⟩:=h.pos v hv hp;rw[List.append_nil]at he;exact⟨e,he,ev⟩
noncomputable def lift(R:List En)(D:Int)(v:Nat):Int:=match R.find? fun u=>u.v==v with
 |some u=>D-u.d
 |none=>0
theorem kD(nd:(R.map (·.v)).Nodup){u:En}(hu:u∈R)(D:Int):lift R D u.v=D-u.d:=by
 unfold lift;have:R.find? (fun w=>w.v==u.v)=some u:=by
  induction R with
  |nil=>cases hu
  |cons a l ih =>
   rw[List.map_cons,List.nodup_cons]at nd;rcases Zn.mp hu with rfl | hu
   ·exact List.find?_cons_of_pos (by simp)
   ·have ne:¬(a.v==u.v)=true:=fun z=>nd.1 (by rw[eq_of_beq z];exact Zh.mpr ⟨u,hu,rfl⟩);rw[List.find?_cons_of_neg (p:=fun w:En=>w.v==u.v) ne];exact ih nd.2 hu
 rw[this]
theorem xP{v:Nat}(h:∀u∈R,u.v≠v)(D:Int):lift R D v=0:=by
 unfold lift;have:R.find? (fun w=>w.v==v)=none:=List.find?_eq_none.mpr fun u hu z=>h u hu (eq_of_beq z);rw[this]
theorem Rch.slack(h:Rch rest src dst len op n pr (R++[e]) W nr)(all:∀k by_,op k by_→(∃u∈R,u.v=src k by_)→pr k by_)(nn:∀k by_,op k by_→0≤len k by_){k:Nat}{by_:Int}(ho:op k by_) :
  0≤len k by_-lift (R++[e]) e.d (src k by_)+lift (R++[e]) e.d (dst k by_):=by
 have top:∀u∈R++[e],u.d≤e.d:=fun u hu=>by
  rcases Zf.mp hu with hu | hu
  ·exact(List.pairwise_append.mp h.up).2.2 u hu e (.head _)
  ·have:u=e:=by simpa using hu
   rw[this];exact Int.le_refl _
 have nn':=nn k by_ ho;have lo:0≤lift (R++[e]) e.d (dst k by_):=by
  by_cases z:∃u∈R++[e],u.v=dst k by_
  ·obtain⟨u,hu,uv⟩:=z;rw[←uv,kD h.nd hu];have:=top u hu
   lia
  ·rw[xP fun u hu uv=>z ⟨u,hu,uv⟩];exact Int.le_refl _
 by_cases z:∃u∈R++[e],u.v=src k by_
 ·obtain⟨u,hu,uv⟩:=z;rw[←uv,kD h.nd hu];rcases Zf.mp hu with hu' | hu'
  ·obtain⟨x,h1,w,hw,wv,hx⟩:=h.dom k by_ (all k by_ ho ⟨u,hu',uv⟩) ho;have ew:w.d=u.d:=by
    have a1:=kD h.nd hw 0;have a2:=kD h.nd hu 0;rw[wv,←uv,a2]at a1
    lia
   obtain⟨y,hy,yv,yd⟩:=h.near _ _ h1;rcases Zf.mp hy with hy | hy
   ·rw[←yv,kD h.nd hy]
    lia
   ·have:=h.mono e (List.mem_append_right _ (.head _)) y hy
    lia
  ·have:u=e:=by simpa using hu'
   rw[this]
   lia
 ·rw[xP fun u hu uv=>z ⟨u,hu,uv⟩]
  lia
theorem Rch.tight(h:Rch rest src dst len op n pr R W nr){i:Nat}(hi:R[i]?=some e)(hb:e.by_≠0)(D:Int):op e.k e.by_∧dst e.k e.by_=e.v∧len e.k e.by_-lift R D (src e.k e.by_)+lift R D (dst e.k e.by_)=0∧∃u j,j<i∧R[j]?=some u∧u.v=src e.k e.by_:=by
 rcases h.old i e hi with z | ⟨a,b,_,u,hu,uv,ud⟩
 ·exact absurd z.1 hb
 ·have hu':=List.mem_of_mem_take hu;obtain⟨j,hj,ej⟩:=Yy.mp hu;rw[Yw]at hj;refine⟨a,b,?_,u,j,by lia,?_,uv⟩
  ·rw[b,←uv,kD h.nd hu',kD h.nd (Zg hi)]
   lia
  ·rw[←ej,List.getElem_take,Zz (by lia)]
end
end FL
namespace FL
section
variable{rest:Nat→Int}{src dst:Nat→Int→Nat}{len:Nat→Int→Int}{op:Nat→Int→Prop}{n:Nat}{pr:Nat→Int→Prop}{R W:List En}{nr:Nat→Option Int}
inductive Back(src:Nat→Int→Nat)(R:List En):Nat→List (Nat×Int)→Nat→Prop
 |stop {i:Nat}{e:En}:R[i]?=some e→e.by_=0→Back src R i [] e.v
 |step {i j b:Nat}{e u:En}{ps:List (Nat×Int)}:R[i]?=some e→e.by_≠0→j<i→R[j]?=some u→u.v=src e.k e.by_→Back src R j ps b→Back src R i ((e.k,e.by_)::ps) b
theorem Back.there(h:Rch rest src dst len op n pr R W nr):∀(m i:Nat),i<m→i<R.length→∃ps b,Back src R i ps b∧b<n∧0<rest b
 |0,_,hm,_=>absurd hm (Nat.not_lt_zero _)
 |m+1,i,hm,hi=>by
  have g:=Zz hi;by_cases hb:(R[i]).by_=0
  ·refine⟨[],_,.stop g hb,h.lt _ (List.mem_append_left _ (Zp hi)),?_⟩;rcases h.old i _ g with z | z
   ·exact z.2.2
   ·exact absurd hb z.2.2.1
  ·obtain⟨_,_,_,u,j,hj,gj,uv⟩:=h.tight g hb 0;obtain⟨ps,b,hp,r⟩:=Back.there h m j (by lia) (by lia);exact⟨_,b,.step g hb hj gj uv hp,r⟩
theorem Back.open_(h:Rch rest src dst len op n pr R W nr){i b:Nat}{ps:List (Nat×Int)}(p:Back src R i ps b):∀q∈ps,op q.1 q.2∧∃(j:Nat) (e:En),j≤i∧R[j]?=some e∧e.k=q.1∧e.by_=q.2∧dst q.1 q.2=e.v∧∃(l:Nat) (u:En),l<j∧R[l]?=some u∧u.v=src q.1 q.2:=by
 induction p with
 |stop _ _=>intro q hq;cases hq
 |@step i j b e u ps g hb hj gj uv _ ih =>
  intro q hq;rcases Zn.mp hq with rfl | hq
  ·obtain⟨t1,t2,_,_⟩:=h.tight g hb 0;exact⟨t1,i,e,Nat.le_refl _,g,rfl,rfl,t2,j,u,hj,gj,uv⟩
  ·obtain⟨o,j',e',hj',r⟩:=ih q hq;exact⟨o,j',e',by lia,r⟩
theorem OI(nd:(R.map (·.v)).Nodup){i j:Nat}{e u:En}(hi:R[i]?=some e)(hj:R[j]?=some u)(h:e.v=u.v):i=j:=by
 have a:(R.map (·.v))[i]?=some e.v:=by rw[Zk,hi];rfl
 have b:(R.map (·.v))[j]?=some e.v:=by rw[Zk,hj,h];rfl
 obtain⟨hi',ei⟩:=Zj.mp a;obtain⟨hj',ej⟩:=Zj.mp b;exact(List.getElem_inj nd).mp (ei.trans ej.symm)
theorem Back.once(h:Rch rest src dst len op n pr R W nr)(flip:∀k by_,op k by_→src k (-by_)=dst k by_)(one:∀k by_,op k by_→by_=1∨by_ = -1){i b:Nat}{ps:List (Nat×Int)}(p:Back src R i ps b):(ps.map (·.1)).Nodup:=by
 induction p with
 |stop _ _=>exact List.nodup_nil
 |@step i j b e u ps g hb hj gj uv p ih =>
  rw[List.map_cons,List.nodup_cons];refine⟨fun z=>?_,ih⟩;obtain⟨q,hq,eq⟩:=Zh.mp z;obtain⟨oq,j',e',hj',g',k',b',d',l,w,hl,gl,wv⟩:=Back.open_ h p q hq;obtain⟨oe,de,_,_⟩:=h.tight g hb 0;have eq':q.1=e.k:=eq;have nd:=h.nd;by_cases s:q.2=e.by_
  ·rw[eq',s,de]at d';have:=OI nd g g' d'
   lia
  ·have sgn:q.2 = - e.by_:=by
    rcases one _ _ oq with x | x<;>rcases one _ _ oe with y | y<;>rw[x,y]at s ⊢<;>first | rfl | exact absurd rfl s
   have f:=flip _ _ oe;rw[eq',sgn,f,de]at wv;have:=OI nd gl g wv
   lia
end
def sm(m:Nat)(f:Nat→Int):Int:=((List.range m).map f).sum
theorem HG(f:Nat→Int):sm 0 f=0:=rfl
theorem dY(m:Nat)(f:Nat→Int):sm (m+1) f=sm m f+f m:=by
 unfold sm;rw[List.range_succ,Zt,List.sum_append];simp
theorem gF{m:Nat}{f g:Nat→Int}(h:∀k,k<m→f k=g k):sm m f=sm m g:=by
 induction m with
 |zero=>rfl
 |succ m ih=>rw[dY,dY,ih fun k hk=>h k (by lia),h m (by lia)]
theorem MN{m k:Nat}(hk:k<m)(f:Nat→Int)(x:Int):sm m (fun j=>f j+if j=k then x else 0)=sm m f+x:=by
 induction m with
 |zero=>exact absurd hk (Nat.not_lt_zero _)
 |succ m ih =>
  rw[dY,dY];by_cases z:k=m
  ·subst z;rw[gF (g:=f) fun j hj=>by rw[if_neg (by lia)];lia,if_pos rfl]
   lia
  ·rw[ih (by lia),if_neg (fun h=>z h.symm)]
   lia
def rs(m:Nat)(a b:Nat→Nat)(need g:Nat→Int)(v:Nat):Int:=need v-sm m (fun k=>if a k=v then g k else 0)+sm m (fun k=>if b k=v then g k else 0)
theorem UR{m k:Nat}{a b:Nat→Nat}{need g:Nat→Int}(hk:k<m)(x:Int)(v:Nat):rs m a b need (fun j=>g j+if j=k then x else 0) v=rs m a b need g v-(if a k=v then x else 0)+(if b k=v then x else 0):=by
 have e:∀c:Nat→Nat,sm m (fun j=>if c j=v then g j+(if j=k then x else 0) else 0)=sm m (fun j=>if c j=v then g j else 0)+(if c k=v then x else 0):=fun c=>by
  rw[←MN hk];refine gF fun j _=>?_;by_cases z:j=k
  ·subst z;rw[if_pos rfl,if_pos rfl];split<;>lia
  ·rw[if_neg z,if_neg z];split<;>lia
 unfold rs;rw[e a,e b]
 lia
def e9(g:Nat→Int)(x:Int):List (Nat×Int)→Nat→Int
 |[]=>g
 |(k,by_)::ps=>e9 (fun j=>g j+if j=k then by_*x else 0) x ps
def sd(a b:Nat→Nat)(k:Nat)(by_:Int):Nat:=if 0<by_ then a k else b k
def fr(a b:Nat→Nat)(k:Nat)(by_:Int):Nat:=if 0<by_ then b k else a k
theorem PH{m k:Nat}{a b:Nat→Nat}{need g:Nat→Int}{by_:Int}(hk:k<m)(one:by_=1∨by_ = -1)(x:Int)(v:Nat) :
  rs m a b need (fun j=>g j+if j=k then by_*x else 0) v=rs m a b need g v-(if sd a b k by_=v then x else 0)+(if fr a b k by_=v then x else 0):=by
 rw[UR hk];rcases one with rfl | rfl
 ·have e1:sd a b k 1=a k:=rfl;have e2:fr a b k 1=b k:=rfl;rw[e1,e2,Int.one_mul]
 ·have e1:sd a b k (-1)=b k:=rfl;have e2:fr a b k (-1)=a k:=rfl;have e3 : -1*x = -x:=by lia
  rw[e1,e2,e3];by_cases z:a k=v<;>by_cases y:b k=v<;>simp only[z,y,if_true,if_false]<;>lia
theorem J2{rest:Nat→Int}{len:Nat→Int→Int}{op:Nat→Int→Prop}{n m:Nat}{pr:Nat→Int→Prop}{R W:List En}{nr:Nat→Option Int}{a b:Nat→Nat}{need:Nat→Int}
  (h:Rch rest (sd a b) (fr a b) len op n pr R W nr) (one:∀k by_,op k by_→by_=1∨by_ = -1) (hm:∀k by_,op k by_→k<m) (x:Int) {i c:Nat}{ps:List (Nat×Int)}(p:Back (sd a b) R i ps c) :
  ∀(g:Nat→Int) (e:En),R[i]?=some e→∀v,rs m a b need (e9 g x ps) v=rs m a b need g v-(if c=v then x else 0)+(if e.v=v then x else 0):=by
 induction p with
 |@stop i e hi hb =>
  intro g e' he' v;rw[hi]at he';cases he';show rs m a b need g v=_
  lia
 |@step i j c e u ps hi hb hj gj uv p ih =>
  intro g e' he' v;rw[hi]at he';cases he';obtain⟨oe,de,_,_⟩:=h.tight hi hb 0;show rs m a b need (e9 (fun l=>g l+if l=e.k then e.by_*x else 0) x ps) v=_;rw[ih _ u gj v,PH (hm _ _ oe) (one _ _ oe),de,uv]
  lia
theorem qM(x:Int):∀(ps:List (Nat×Int)) (g:Nat→Int) {j:Nat},j∉ps.map (·.1)→e9 g x ps j=g j
 |[],_,_,_=>rfl
 |(k,by_)::ps,g,j,h=>by
  rw[List.map_cons,Zn,not_or]at h;show e9 (fun l=>g l+if l=k then by_*x else 0) x ps j=g j;rw[qM x ps _ h.2,if_neg h.1]
  lia
theorem zV(x:Int):∀(ps:List (Nat×Int)) (g:Nat→Int) {k:Nat}{by_:Int},(ps.map (·.1)).Nodup→(k,by_)∈ps→e9 g x ps k=g k+by_*x
 |(k',b')::ps,g,k,by_,nd,h=>by
  rw[List.map_cons,List.nodup_cons]at nd;show e9 (fun l=>g l+if l=k' then b'*x else 0) x ps k=_;rcases Zn.mp h with e | h
  ·cases e;rw[qM x ps _ nd.1,if_pos rfl]
  ·have ne:k≠k':=fun z=>nd.1 (Zh.mpr ⟨(k,by_),h,z⟩);rw[zV x ps _ nd.2 h,if_neg ne]
   lia
end FL
namespace FL
section
variable{m n:Nat}{a b:Nat→Nat}{lo:Nat→Int}{hi:Nat→Option Int}{co g p:Nat→Int}
def rt(a b:Nat→Nat)(co p:Nat→Int)(k:Nat):Int:=co k-p (a k)+p (b k)
structure iR(m:Nat)(a b:Nat→Nat)(lo:Nat→Int)(hi:Nat→Option Int)(co g p:Nat→Int):Prop where
 low:∀k,k<m→lo k≤g k
 high:∀k,k<m→∀h,hi k=some h→g k≤h
 over:∀k,k<m→0<rt a b co p k→g k=lo k
 under:∀k,k<m→rt a b co p k<0→hi k=some (g k)
def opn(m:Nat)(lo:Nat→Int)(hi:Nat→Option Int)(g:Nat→Int)(k:Nat)(by_:Int):Prop:=k<m∧((by_=1∧hi k≠some (g k))∨(by_ = -1∧g k≠lo k))
def ln(a b:Nat→Nat)(co p:Nat→Int)(k:Nat)(by_:Int):Int:=by_*rt a b co p k
theorem iZ{k:Nat}{by_:Int}(h:opn m lo hi g k by_):by_=1∨by_ = -1:=h.2.imp (·.1) (·.1)
theorem O9(k:Nat){by_:Int}(h:by_=1∨by_ = -1):sd a b k (-by_)=fr a b k by_:=by
 rcases h with rfl | rfl<;>rfl
theorem iR.nn(s:iR m a b lo hi co g p){k:Nat}{by_:Int}(h:opn m lo hi g k by_):0≤ln a b co p k by_:=by
 obtain⟨hk,⟨rfl,z⟩ | ⟨rfl,z⟩⟩:=h
 ·unfold ln;rcases Int.lt_or_le (rt a b co p k) 0 with c | c
  ·exact absurd (s.under k hk c) z
  ·lia
 ·unfold ln;rcases Int.lt_or_le 0 (rt a b co p k) with c | c
  ·exact absurd (s.over k hk c) z
  ·lia
theorem iR.room(s:iR m a b lo hi co g p){k:Nat}{by_:Int}(h:opn m lo hi g k by_):(by_=1→∀x,hi k=some x→1≤x-g k)∧(by_ = -1→1≤g k-lo k):=by
 obtain⟨hk,⟨rfl,z⟩ | ⟨rfl,z⟩⟩:=h
 ·refine⟨fun _ x hx=>?_,fun e=>absurd e (by decide)⟩;have:=s.high k hk x hx;have ne:g k≠x:=fun e=>z (by rw[e];exact hx)
  lia
 ·refine⟨fun e=>absurd e (by decide),fun _=>?_⟩;have:=s.low k hk
  lia
theorem tR(L:Nat→Int)(k:Nat):rt a b co (fun v=>p v+L v) k=rt a b co p k-L (a k)+L (b k):=by
 show co k-(p (a k)+L (a k))+(p (b k)+L (b k))=co k-p (a k)+p (b k)-L (a k)+L (b k)
 lia
section
variable{rest:Nat→Int}{pr:Nat→Int→Prop}{R W:List En}{nr:Nat→Option Int}{e:En}
theorem iR.raised(s:iR m a b lo hi co g p)(h:Rch rest (sd a b) (fr a b) (ln a b co p) (opn m lo hi g) n pr (R++[e]) W nr)(all:∀k by_,opn m lo hi g k by_→(∃u∈R,u.v=sd a b k by_)→pr k by_) :
  iR m a b lo hi co g (fun v=>p v+lift (R++[e]) e.d v) where
 low:=s.low
 high:=s.high
 over:=fun k hk c=>by
  rw[tR]at c;by_cases z:g k=lo k
  ·exact z
  ·have o:opn m lo hi g k (-1):=⟨hk,.inr ⟨rfl,z⟩⟩
   have q:=h.slack all (fun k' b' o'=>s.nn o') o;have e1:sd a b k (-1)=b k:=rfl;have e2:fr a b k (-1)=a k:=rfl;have e3:ln a b co p k (-1) = - rt a b co p k:=by unfold ln;lia
   rw[e1,e2,e3]at q
   lia
 under:=fun k hk c=>by
  rw[tR]at c;by_cases z:hi k=some (g k)
  ·exact z
  ·have o:opn m lo hi g k 1:=⟨hk,.inl ⟨rfl,z⟩⟩
   have q:=h.slack all (fun k' b' o'=>s.nn o') o;have e1:sd a b k 1=a k:=rfl;have e2:fr a b k 1=b k:=rfl;have e3:ln a b co p k 1=rt a b co p k:=by unfold ln;lia
   rw[e1,e2,e3]at q
   lia
theorem LZ(h:Rch rest (sd a b) (fr a b) (ln a b co p) (opn m lo hi g) n pr R W nr){i c:Nat}{ps:List (Nat×Int)}(q:Back (sd a b) R i ps c)(D:Int):∀d∈ps,rt a b co (fun v=>p v+lift R D v) d.1=0:=by
 intro d hd;obtain⟨o,j,u,_,gj,k1,b1,_⟩:=q.open_ h d hd;have hb:u.by_≠0:=by
  rw[b1];rcases iZ o with x | x<;>rw[x]<;>decide
 obtain⟨_,_,t,_⟩:=h.tight gj hb D;rw[k1,b1]at t;rw[tR];rcases iZ o with x | x
 ·rw[x]at t;have e1:sd a b d.1 1=a d.1:=rfl;have e2:fr a b d.1 1=b d.1:=rfl;have e3:ln a b co p d.1 1=rt a b co p d.1:=by unfold ln;lia
  rw[e1,e2,e3]at t;exact t
 ·rw[x]at t;have e1:sd a b d.1 (-1)=b d.1:=rfl;have e2:fr a b d.1 (-1)=a d.1:=rfl;have e3:ln a b co p d.1 (-1) = - rt a b co p d.1:=by unfold ln;lia
  rw[e1,e2,e3]at t
  lia
end
theorem iR.push{ps:List (Nat×Int)}{x:Int}(s:iR m a b lo hi co g p)(hx:0≤x)(nd:(ps.map (·.1)).Nodup)(op:∀d∈ps,opn m lo hi g d.1 d.2)(zero:∀d∈ps,rt a b co p d.1=0)
  (up:∀d∈ps,d.2=1→∀h,hi d.1=some h→x≤h-g d.1) (dn:∀d∈ps,d.2 = -1→x≤g d.1-lo d.1):iR m a b lo hi co (e9 g x ps) p:=by
 have at_:∀k,(e9 g x ps k=g k∧k∉ps.map (·.1))∨(∃by_,(k,by_)∈ps∧e9 g x ps k=g k+by_*x):=fun k=>by
  by_cases z:k∈ps.map (·.1)
  ·obtain⟨d,hd,rfl⟩:=Zh.mp z;exact .inr ⟨d.2,hd,zV x ps g nd hd⟩
  ·exact .inl ⟨qM x ps g z,z⟩
 refine⟨fun k hk=>?_,fun k hk h hh=>?_,fun k hk c=>?_,fun k hk c=>?_⟩
 ·have l:=s.low k hk;rcases at_ k with⟨e,_⟩ | ⟨by_,hd,e⟩
  ·rw[e];exact l
  ·rw[e];rcases iZ (op _ hd) with y | y
   ·rw[show by_=1 from y];lia
   ·have:=dn _ hd y;rw[show by_ = -1 from y];have t:x≤g k-lo k:=this
    lia
 ·have l:=s.high k hk h hh;rcases at_ k with⟨e,_⟩ | ⟨by_,hd,e⟩
  ·rw[e];exact l
  ·rw[e];rcases iZ (op _ hd) with y | y
   ·have t:x≤h-g k:=up _ hd y h hh;rw[show by_=1 from y];lia
   ·rw[show by_ = -1 from y];lia
 ·rcases at_ k with⟨e,_⟩ | ⟨by_,hd,e⟩
  ·rw[e];exact s.over k hk c
  ·have t:rt a b co p k=0:=zero _ hd
   lia
 ·rcases at_ k with⟨e,_⟩ | ⟨by_,hd,e⟩
  ·rw[e];exact s.under k hk c
  ·have t:rt a b co p k=0:=zero _ hd
   lia
end
end FL
namespace FL
theorem MO(m:Nat)(f g:Nat→Int):sm m (fun k=>f k+g k)=sm m f+sm m g:=by
 induction m with
 |zero=>rfl
 |succ m ih=>rw[dY,dY,dY,ih];lia
theorem RV(m:Nat)(f g:Nat→Int):sm m (fun k=>f k-g k)=sm m f-sm m g:=by
 induction m with
 |zero=>rfl
 |succ m ih=>rw[dY,dY,dY,ih];lia
theorem ML(m:Nat):sm m (fun _=>0)=0:=by
 induction m with
 |zero=>rfl
 |succ m ih=>rw[dY,ih];rfl
theorem JZ{m:Nat}{f:Nat→Int}(h:∀k,k<m→0≤f k):0≤sm m f:=by
 induction m with
 |zero=>exact Int.le_refl _
 |succ m ih =>
  rw[dY];have:=ih fun k hk=>h k (by lia);have:=h m (by lia)
  lia
theorem MK{m:Nat}{f:Nat→Int}(z:sm m f=0){v:Nat}(hv:v<m)(h:f v≠0):∃u,u<m∧0<f u:=by
 by_cases c:∃u,u<m∧0<f u
 ·exact c
 ·exfalso;have neg:∀k,k<m→f k≤0:=fun k hk=>Int.not_lt.mp fun x=>c ⟨k,hk,x⟩;have key:∀j,j≤m→sm j f≤0∧(v<j→sm j f<0):=by
   intro j;induction j with
   |zero=>exact fun _=>⟨Int.le_refl _,fun x=>absurd x (Nat.not_lt_zero _)⟩
   |succ j ih =>
    intro hj;obtain⟨i1,i2⟩:=ih (by lia);have n1:=neg j (by lia);rw[dY];refine⟨by lia,fun x=>?_⟩;by_cases e:v=j
    ·subst e
     lia
    ·have:=i2 (by lia)
     lia
  have:=(key m (Nat.le_refl _)).2 hv
  lia
theorem GB{n c l:Nat}{r r':Nat→Int}{x:Int}(hc:c<n)(e:∀v,v<n→r' v=r v-(if c=v then x else 0)+(if l=v then x else 0))(h1:x≤r c)(h2:x≤- r l)(hx:1≤x) :
  sm n (fun v=>max (r' v) 0)=sm n (fun v=>max (r v) 0)-x:=by
 have ne:c≠l:=fun z=>by subst z;lia
 have:=MN hc (fun v=>max (r v) 0) (-x);rw[←Int.sub_eq_add_neg]at this;rw[←this];refine gF fun v hv=>?_;rw[e v hv];by_cases z:v=c
 ·subst z;rw[if_pos rfl,if_neg (fun y=>ne y.symm),if_pos rfl]
  lia
 ·rw[if_neg (fun y=>z y.symm),if_neg z];by_cases y:l=v
  ·subst y;rw[if_pos rfl]
   lia
  ·rw[if_neg y]
   lia
end FL
namespace FL
open SO
def Dn(w:List (List Int)):Prop:=w.Pairwise fun x y=>lx x y=false
theorem BP{e x y:List Int}(h:lx e y=true)(g:lx x y=false):lx e x=true:=by
 have a:=gU [e,x,y] (x:=e) (y:=y) (by simp) (by simp);have b:=gU [e,x,y] (x:=x) (y:=y) (by simp) (by simp);have c:=gU [e,x,y] (x:=e) (y:=x) (by simp) (by simp);rw[h]at a;rw[g]at b;rw[←c];have a':=of_decide_eq_true a;have b':=of_decide_eq_false b;exact decide_eq_true (by omega)
theorem QE{e x y:List Int}(h:lx e x=false)(g:lx x y=false):lx e y=false:=by
 cases z:lx e y with
 |false=>rfl
 |true=>rw[BP z g]at h;cases h
theorem R3{w:List (List Int)}{e:List Int}{i:Nat}(h:Dn w)(hi:i≤w.length)(f:∀j x,j<i→w[j]?=some x→lx e x=true)(b:∀j x,i≤j→w[j]?=some x→lx e x=false):Dn (w.take i++e::w.drop i):=by
 have tk:∀x∈w.take i,lx e x=true:=fun x hx=>by
  obtain⟨j,hj,rfl⟩:=Yy.mp hx;rw[Yw]at hj;refine f j _ (by lia) ?_;rw[List.getElem_take,Zz (by lia)]
 have dr:∀x∈w.drop i,lx e x=false:=fun x hx=>by
  obtain⟨j,hj,rfl⟩:=Yy.mp hx;rw[Yd]at hj;refine b (i+j) _ (by lia) ?_;rw[List.getElem_drop,Zz (by lia)]
 have h':(w.take i++w.drop i).Pairwise fun x y=>lx x y=false:=by rw[List.take_append_drop];exact h
 obtain⟨h1,h2,h3⟩:=List.pairwise_append.mp h';refine List.pairwise_append.mpr ⟨h1,List.pairwise_cons.mpr ⟨dr,h2⟩,fun x hx y hy=>?_⟩;rcases Zn.mp hy with rfl | hy
 ·cases z:lx x y with
  |false=>rfl
  |true =>
   have:=BP z (x:=y) (BO y);have q:=tk x hx;have a:=gU [x,y] (x:=x) (y:=y) (by simp) (by simp);have b:=gU [x,y] (x:=y) (y:=x) (by simp) (by simp);rw[z]at a;rw[q]at b;have a':=of_decide_eq_true a;have b':=of_decide_eq_true b
   lia
 ·exact h3 x hx y hy
theorem QF{w:List (List Int)}{e x:List Int}{m:Nat}(h:Dn w)(hm:w[m]?=some x)(z:lx e x=true):∀j y,j<m+1→w[j]?=some y→lx e y=true:=fun j y hj hy=>by
 by_cases c:j=m
 ·subst c;rw[hm]at hy;cases hy;exact z
 ·obtain⟨h1,e1⟩:=Zj.mp hy;obtain⟨h2,e2⟩:=Zj.mp hm;have:=List.pairwise_iff_getElem.mp h j m h1 h2 (by lia);rw[e1,e2]at this;exact BP z this
theorem QG{w:List (List Int)}{e x:List Int}{m:Nat}(h:Dn w)(hm:w[m]?=some x)(z:lx e x=false):∀j y,m≤j→w[j]?=some y→lx e y=false:=fun j y hj hy=>by
 by_cases c:j=m
 ·subst c;rw[hm]at hy;cases hy;exact z
 ·obtain⟨h1,e1⟩:=Zj.mp hy;obtain⟨h2,e2⟩:=Zj.mp hm;have:=List.pairwise_iff_getElem.mp h m j h2 h1 (by lia);rw[e1,e2]at this;exact QE z this
theorem GC{w:List (List Int)}{d d':Int}{r r':List Int}(h:Dn (w++[d::r]))(hx:(d'::r')∈w):d≤d':=by
 have:=(List.pairwise_append.mp h).2.2 _ hx _ (.head _);unfold lx at this;by_cases z:d'=d
 ·lia
 ·rw[if_neg z]at this;have:=of_decide_eq_false this
  lia
end FL
namespace FL
theorem iR.step{m n c:Nat}{a b:Nat→Nat}{lo:Nat→Int}{hi:Nat→Option Int}{co g p need:Nat→Int}{pr:Nat→Int→Prop}{R W:List En}{nr:Nat→Option Int}{e:En}{ps:List (Nat×Int)}{x:Int}
  (s:iR m a b lo hi co g p) (h:Rch (rs m a b need g) (sd a b) (fr a b) (ln a b co p) (opn m lo hi g) n pr (R++[e]) W nr) (all:∀k by_,opn m lo hi g k by_→(∃u∈R,u.v=sd a b k by_)→pr k by_)
  (q:Back (sd a b) (R++[e]) R.length ps c) (hx:1≤x) (up:∀d∈ps,d.2=1→∀h,hi d.1=some h→x≤h-g d.1) (dn:∀d∈ps,d.2 = -1→x≤g d.1-lo d.1) :
  iR m a b lo hi co (e9 g x ps) (fun v=>p v+lift (R++[e]) e.d v)∧∀v,rs m a b need (e9 g x ps) v=rs m a b need g v-(if c=v then x else 0)+(if e.v=v then x else 0):=by
 refine⟨(s.raised h all).push (by lia) (q.once h (fun k b' o=>O9 k (iZ o)) fun k b' o=>iZ o) (fun d hd=>(q.open_ h d hd).1) (LZ h q e.d) up dn,fun v=>?_⟩;refine J2 h (fun k b' o=>iZ o) (fun k b' o=>o.1) x q g e ?_ v;rw[Zy (Nat.le_refl _),Nat.sub_self];rfl
theorem RW{n c:Nat}(hc:c<n)(f:Nat→Int)(x:Int):sm n (fun v=>f v*if c=v then x else 0)=f c*x:=by
 have:=MN hc (fun _=>0) (f c*x);rw[ML,Int.zero_add]at this;rw[←this];refine gF fun v _=>?_;by_cases z:c=v
 ·subst z;rw[if_pos rfl,if_pos rfl];lia
 ·rw[if_neg z,if_neg (fun y=>z y.symm),Int.mul_zero];rfl
theorem HH{n:Nat}(f:Nat→Int)(c:Nat→Nat)(g:Nat→Int):∀m,(∀k,k<m→c k<n)→sm n (fun v=>f v*sm m (fun k=>if c k=v then g k else 0))=sm m (fun k=>f (c k)*g k)
 |0,_=>by
  rw[gF (g:=fun _=>0) fun v _=>by rw[HG,Int.mul_zero],ML];rfl
 |m+1,h=>by
  rw[dY,←HH f c g m fun k hk=>h k (by lia),←RW (h m (by lia)) f (g m),←MO];refine gF fun v _=>?_;rw[dY,Int.mul_add]
section
variable{a b:Nat→Nat}{co p:Nat→Int}{on:Nat→Option Nat}
end
section
variable{a b:Nat→Nat}{co p:Nat→Int}{free:List Nat}{t j:Nat}{on:Nat→Option Nat}{lc:Nat→Nat}
end
end FL
namespace AW
abbrev Ts:=List (Int×Int)
abbrev Os:=List (List Int)
def plc(ts:Ts)(e:Nat):Int:=((ts[e / 2]?).map fun t=>if e%2=0 then t.1 else t.2).getD (-1)
def InW(m:Int)(ts:Ts):Prop:=∀t∈ts,(0≤t.1∧t.1<m)∧0≤t.2∧t.2<m
def all2(ts:Ts):List Int:=(List.range (2*ts.length)).map fun n:Nat=>(n:Int)
def endsAt(ts:Ts)(p:Int):List Int:=(all2 ts).filter fun e=>plc ts e.toNat==p
inductive Rch(ts:Ts):Int→Prop
 |zero:Rch ts 0
 |fwd {t:Int×Int}:t∈ts→Rch ts t.1→Rch ts t.2
 |bwd {t:Int×Int}:t∈ts→Rch ts t.2→Rch ts t.1
def yX(m:Int)(ts:Ts):Prop:=∀p:Int,0≤p→p<m→Rch ts p
def Fit(ts:Ts)(os:Os):Prop:=∀(i:Nat) (o:List Int),os[i]?=some o→o.length≤4∧o.Perm (endsAt ts i)
def WI(ts:Ts)(os:Os):Prop:=os.flatten.Perm (all2 ts)∧∀(i:Nat) (o:List Int),os[i]?=some o→o.length≤4∧∀e∈o,plc ts e.toNat=i
def VM(m:Int)(ts:Ts):Prop:=(1≤m∧m≤200)∧1≤ts.length∧ts.length≤400
def pB(m:Int)(ts:Ts)(os:Os):Prop:=VM m ts∧InW m ts∧(os.length:Int)=m∧Fit ts os∧yX m ts
theorem sD{ts:Ts}{e:Int}:e∈all2 ts↔0≤e∧e<2*ts.length:=by
 unfold all2;rw[Zh];constructor
 ·rintro⟨n,hn,rfl⟩;have:=Zs.mp hn
  lia
 ·rintro⟨h0,h1⟩;exact⟨e.toNat,Zs.mpr (by lia),by lia⟩
theorem pI{α β:Type}{f:α→β}(hf:∀a b,f a=f b→a=b):∀{l:List α},l.Nodup→(l.map f).Nodup
 |[],_=>List.nodup_nil
 |a::l,h=>by
  obtain⟨h1,h2⟩:=List.nodup_cons.mp h;rw[List.map_cons,List.nodup_cons];refine⟨fun q=>?_,pI hf h2⟩;obtain⟨b,hb,e⟩:=Zh.mp q;exact h1 (hf _ _ e▸hb)
theorem qP(ts:Ts):(all2 ts).Nodup:=pI (fun a b h=>by lia) List.nodup_range
theorem jK{ts:Ts}{p e:Int}:e∈endsAt ts p↔(0≤e∧e<2*ts.length)∧plc ts e.toNat=p:=by
 unfold endsAt;rw[Yz,sD,beq_iff_eq]
theorem jA(ts:Ts)(p:Int):(endsAt ts p).Nodup:=(qP ts).filter _
theorem xB{l l':List Int}(h:l.Nodup)(h':l'.Nodup)(e:∀a,a∈l↔a∈l'):l.Perm l':=(List.perm_ext_iff_of_nodup h h').mpr e
theorem M1{m:Int}{ts:Ts}(h:InW m ts){e:Int}(h0:0≤e)(h1:e<2*ts.length):0≤plc ts e.toNat∧plc ts e.toNat<m:=by
 have hk:e.toNat / 2<ts.length:=by lia
 have e1:ts[e.toNat / 2]?=some ts[e.toNat / 2]:=Zz hk;have:=h _ (Zp hk);unfold plc;rw[e1];simp only[Option.map_some,Option.getD_some];split<;>omega
theorem BY{m:Int}{ts:Ts}{os:Os}(hw:InW m ts)(hl:(os.length:Int)=m):Fit ts os↔WI ts os:=by
 constructor
 ·intro h;have mem:∀(i:Nat) (o:List Int) (e:Int),os[i]?=some o→(e∈o↔(0≤e∧e<2*ts.length)∧plc ts e.toNat=i):=fun i o e hi=>((h i o hi).2.mem_iff).trans jK;refine⟨xB (List.pairwise_flatten.mpr ⟨fun o ho=>?_,?_⟩) (qP ts) fun e=>?_,fun i o hi=>⟨(h i o hi).1,fun e he=>((mem i o e hi).mp he).2⟩⟩
  ·obtain⟨i,hi,rfl⟩:=Yy.mp ho;exact(h i _ (Zz hi)).2.nodup_iff.mpr (jA ts i)
  ·rw[List.pairwise_iff_getElem];intro i j hi hj hij e h1 e' h2 q;subst q;have e1:=((mem i _ e (Zz hi)).mp h1).2;have e2:=((mem j _ e (Zz hj)).mp h2).2
   lia
  ·rw[List.mem_flatten,sD];constructor
   ·rintro⟨o,ho,he⟩;obtain⟨i,hi,rfl⟩:=Yy.mp ho;exact((mem i _ e (Zz hi)).mp he).1
   ·rintro⟨h0,h1⟩;obtain⟨p0,p1⟩:=M1 hw h0 h1;have hi:(plc ts e.toNat).toNat<os.length:=by lia
    exact⟨_,Zp hi,(mem _ _ e (Zz hi)).mpr ⟨⟨h0,h1⟩,by lia⟩⟩
 ·rintro⟨hp,h⟩ i o hi;refine⟨(h i o hi).1,?_⟩;have nf:os.flatten.Nodup:=hp.nodup_iff.mpr (qP ts);have no:o.Nodup:=(List.pairwise_flatten.mp nf).1 o (Zg hi);refine xB no (jA ts i) fun e=>?_;rw[jK,←sD,←hp.mem_iff];constructor
  ·exact fun he=>⟨List.mem_flatten.mpr ⟨o,Zg hi,he⟩,(h i o hi).2 e he⟩
  ·rintro⟨hf,hpl⟩;obtain⟨o',ho',he⟩:=List.mem_flatten.mp hf;obtain⟨j,hj,rfl⟩:=Yy.mp ho';have e1:=(h j _ (Zz hj)).2 e he;have:j=i:=by lia
   subst this;rw[Zz hj]at hi;cases hi;exact he
theorem JW{l l':List Int}(p:l.Perm l')(h:l.Pairwise (·≤·))(h':l'.Pairwise (·≤·)):l=l' :=
 p.eq_of_pairwise (fun a b _ _ h1 h2=>Int.le_antisymm h1 h2) h h'
theorem OT(ts:Ts):(all2 ts).Pairwise (·≤·):=by
 unfold all2;rw[List.pairwise_map];exact List.pairwise_lt_range.imp fun h=>by lia
theorem JP(ts:Ts)(p:Int):(endsAt ts p).Pairwise (·≤·):=(OT ts).filter _
theorem PU{ts:Ts}{t:Int×Int}{e:Nat}(h:e<2*ts.length):plc (ts++[t]) e=plc ts e:=by
 unfold plc;rw[Zx (by lia)]
theorem M0(ts:Ts)(t:Int×Int):plc (ts++[t]) (2*ts.length)=t.1:=by
 unfold plc;rw[show 2*ts.length / 2=ts.length by lia,Yx];show(if 2*ts.length%2=0 then t.1 else t.2)=t.1;rw[if_pos (by lia)]
theorem MZ(ts:Ts)(t:Int×Int):plc (ts++[t]) (2*ts.length+1)=t.2:=by
 unfold plc;rw[show(2*ts.length+1) / 2=ts.length by lia,Yx];show(if (2*ts.length+1)%2=0 then t.1 else t.2)=t.2;rw[if_neg (by lia)]
theorem LD(ts:Ts)(t:Int×Int):all2 (ts++[t])=all2 ts++[(2*ts.length:Int),2*ts.length+1]:=by
 unfold all2;rw[Zm,show 2*(ts.length+[t].length)=2*ts.length+1+1 by simp;lia,List.range_succ,List.range_succ];simp
theorem EA(ts:Ts)(t:Int×Int)(p:Int):endsAt (ts++[t]) p=endsAt ts p++((if t.1=p then [(2*ts.length:Int)] else [])++if t.2=p then [(2*ts.length+1:Int)] else []):=by
 unfold endsAt;rw[LD,List.filter_append];congr 1
 ·refine List.filter_congr fun e he=>?_;obtain⟨h0,h1⟩:=sD.mp he;rw[PU (by lia)]
 ·have e0:plc (ts++[t]) (2*(ts.length:Int)).toNat=t.1:=by rw[show(2*(ts.length:Int)).toNat=2*ts.length by lia,M0]
  have e1:plc (ts++[t]) (2*(ts.length:Int)+1).toNat=t.2:=by rw[show(2*(ts.length:Int)+1).toNat=2*ts.length+1 by lia,MZ]
  simp only[List.filter_cons,List.filter_nil,e0,e1,beq_iff_eq];by_cases h1:t.1=p<;>by_cases h2:t.2=p<;>simp[h1,h2]
def nb(t:Int×Int)(p:Int):List Int:=(if t.1=p then [t.2] else [])++if t.2=p then [t.1] else []
def nbs(ts:Ts)(p:Int):List Int:=ts.flatMap fun t=>nb t p
theorem NP(ts:Ts)(t:Int×Int)(p:Int):nbs (ts++[t]) p=nbs ts p++nb t p:=by
 unfold nbs;rw[List.flatMap_append];simp
theorem pJ{ts:Ts}{p q:Int}:q∈nbs ts p↔∃t∈ts,(t.1=p∧t.2=q)∨(t.2=p∧t.1=q):=by
 unfold nbs nb;rw[List.mem_flatMap];constructor
 ·rintro⟨t,ht,h⟩;refine⟨t,ht,?_⟩;rcases Zf.mp h with h | h
  ·split at h
   ·exact .inl ⟨by assumption,(Zb.mp h).symm⟩
   ·cases h
  ·split at h
   ·exact .inr ⟨by assumption,(Zb.mp h).symm⟩
   ·cases h
 ·rintro⟨t,ht,⟨h1,h2⟩ | ⟨h1,h2⟩⟩
  ·exact⟨t,ht,List.mem_append_left _ (by rw[if_pos h1,h2];simp)⟩
  ·exact⟨t,ht,List.mem_append_right _ (by rw[if_pos h1,h2];simp)⟩
theorem Rch.step{ts:Ts}{p q:Int}(h:Rch ts p)(hq:q∈nbs ts p):Rch ts q:=by
 obtain⟨t,ht,⟨rfl,rfl⟩ | ⟨rfl,rfl⟩⟩:=pJ.mp hq
 ·exact h.fwd ht
 ·exact h.bwd ht
theorem F0{m:Int}{ts:Ts}(h:InW m ts){p q:Int}(hq:q∈nbs ts p):0≤q∧q<m:=by
 obtain⟨t,ht,⟨rfl,rfl⟩ | ⟨rfl,rfl⟩⟩:=pJ.mp hq
 ·exact(h t ht).2
 ·exact(h t ht).1
theorem Rch.within{ts:Ts}{S:Int→Prop}(h0:S 0)(hs:∀p,S p→∀q∈nbs ts p,S q){p:Int}(h:Rch ts p):S p:=by
 induction h with
 |zero=>exact h0
 |fwd ht _ ih=>exact hs _ ih _ (pJ.mpr ⟨_,ht,.inl ⟨rfl,rfl⟩⟩)
 |bwd ht _ ih=>exact hs _ ih _ (pJ.mpr ⟨_,ht,.inr ⟨rfl,rfl⟩⟩)
structure iR(m:Nat)(ts:Ts)(R:List Bool)(W:List Int):Prop where
 len:R.length=m
 zero:R[0]?=some true
 ok:∀p:Nat,R[p]?=some true→Rch ts p
 win:∀p∈W,∃n:Nat,p=n∧R[n]?=some true
 cl:∀p:Nat,R[p]?=some true→(p:Int)∈W∨∀q∈nbs ts p,R[q.toNat]?=some true
structure oX(m:Nat)(ts:Ts)(R:List Bool)(W:List Int)(p0 k:Nat):Prop where
 len:R.length=m
 zero:R[0]?=some true
 ok:∀p:Nat,R[p]?=some true→Rch ts p
 win:∀p∈W,∃n:Nat,p=n∧R[n]?=some true
 own:R[p0]?=some true
 cl:∀p:Nat,R[p]?=some true→(p:Int)∈W∨(p=p0∧∀(j:Nat) q,j<k→(nbs ts p0)[j]?=some q→R[q.toNat]?=some true)∨∀q∈nbs ts p,R[q.toNat]?=some true
theorem iR.start{m:Nat}{ts:Ts}(h:0<m):iR m ts ((List.range m).map fun p=>decide (p=0)) [0] where
 len:=by simp
 zero:=by simp[h]
 ok:=fun p hp=>by
  rw[Zk]at hp;cases e:(List.range m)[p]? with
  |none=>rw[e]at hp;cases hp
  |some n =>
   obtain⟨hn,rfl⟩:=Zj.mp e;rw[e]at hp;simp at hp;subst hp;exact .zero
 win:=fun p hp=>⟨0,by simpa using hp,by simp[h]⟩
 cl:=fun p hp=>by
  rw[Zk]at hp;cases e:(List.range m)[p]? with
  |none=>rw[e]at hp;cases hp
  |some n =>
   obtain⟨hn,rfl⟩:=Zj.mp e;rw[e]at hp;simp at hp;subst hp;exact .inl (by simp)
theorem iR.done{m:Nat}{ts:Ts}{R:List Bool}(hin:InW m ts)(h:iR m ts R []):R.all id=true↔yX m ts:=by
 rw[List.all_eq_true];constructor
 ·intro ha p h0 h1;obtain⟨n,rfl⟩:=Xv h0;have hn:n<R.length:=by rw[h.len];lia
  refine h.ok n ?_;rw[Zz hn];have:=ha _ (Zp hn);exact congrArg some this
 ·intro hw b hb;obtain⟨n,hn,rfl⟩:=Yy.mp hb;have hr:Rch ts (n:Int):=hw n (by lia) (by rw[h.len]at hn;lia);have e:=(hr.within (S:=fun p=>0≤p∧R[p.toNat]?=some true) ⟨Int.le_refl _,h.zero⟩ fun p hp q hq=>by
   obtain⟨k,rfl⟩:=Xv hp.1;refine⟨(F0 hin hq).1,?_⟩;rcases h.cl k (by simpa using hp.2) with z | z
   ·cases z
   ·exact z q hq).2
  rw[show(n:Int).toNat=n by lia,Zz hn]at e;exact Option.some.inj e
theorem oX.start{m:Nat}{ts:Ts}{R:List Bool}{W:List Int}{p0:Nat}(h:iR m ts R (W++[(p0:Int)])):oX m ts R W p0 0 where
 len:=h.len
 zero:=h.zero
 ok:=h.ok
 win:=fun p hp=>h.win p (List.mem_append_left _ hp)
 own:=by
  obtain⟨n,e,hn⟩:=h.win (p0:Int) (by simp);have:n=p0:=by lia
  exact this▸hn
 cl:=fun p hp=>by
  rcases h.cl p hp with z | z
  ·rcases Zf.mp z with z | z
   ·exact .inl z
   ·have:p=p0:=by have:=Zb.mp z;lia
    exact .inr (.inl ⟨this,fun j q hj=>absurd hj (Nat.not_lt_zero _)⟩)
  ·exact .inr (.inr z)
theorem oX.skip{m:Nat}{ts:Ts}{R:List Bool}{W:List Int}{p0 k:Nat}{q:Int}(h:oX m ts R W p0 k)(hq:(nbs ts p0)[k]?=some q)(hr:R[q.toNat]?=some true):oX m ts R W p0 (k+1) where
 len:=h.len
 zero:=h.zero
 ok:=h.ok
 win:=h.win
 own:=h.own
 cl:=fun p hp=>by
  rcases h.cl p hp with z | ⟨z1,z2⟩ | z
  ·exact .inl z
  ·refine .inr (.inl ⟨z1,fun j q' hj hq'=>?_⟩);by_cases hjk:j<k
   ·exact z2 j q' hjk hq'
   ·have:j=k:=by lia
    subst this;rw[hq]at hq';cases hq';exact hr
  ·exact .inr (.inr z)
theorem m7{R:List Bool}{i j:Nat}(hi:i<R.length):(R.set i true)[j]?=some true↔j=i∨R[j]?=some true:=by
 by_cases e:i=j
 ·subst e;rw[List.getElem?_set_self hi];simp
 ·rw[List.getElem?_set_ne e];constructor
  ·exact .inr
  ·rintro(z | z)
   ·exact absurd z.symm e
   ·exact z
theorem oX.reach{m:Nat}{ts:Ts}{R:List Bool}{W:List Int}{p0 k q:Nat}(h:oX m ts R W p0 k)(hq:(nbs ts p0)[k]?=some (q:Int))(hm:q<m):oX m ts (R.set q true) (W++[(q:Int)]) p0 (k+1):=by
 have hl:q<R.length:=by rw[h.len];exact hm
 have up:∀j:Nat,R[j]?=some true→(R.set q true)[j]?=some true:=fun j hj=>(m7 hl).mpr (.inr hj);have hrq:Rch ts q:=(h.ok p0 h.own).step (Zg hq);refine⟨by rw[List.length_set];exact h.len,up 0 h.zero,fun p hp=>?_,fun p hp=>?_,up _ h.own,fun p hp=>?_⟩
 ·rcases(m7 hl).mp hp with rfl | hp
  ·exact hrq
  ·exact h.ok p hp
 ·rcases Zf.mp hp with z | z
  ·obtain⟨n,e,hn⟩:=h.win p z;exact⟨n,e,up n hn⟩
  ·exact⟨q,Zb.mp z,(m7 hl).mpr (.inl rfl)⟩
 ·rcases(m7 hl).mp hp with rfl | hp
  ·exact .inl (by simp)
  ·rcases h.cl p hp with z | ⟨z1,z2⟩ | z
   ·exact .inl (List.mem_append_left _ z)
   ·refine .inr (.inl ⟨z1,fun j q' hj hq'=>?_⟩);by_cases hjk:j<k
    ·exact up _ (z2 j q' hjk hq')
    ·have:j=k:=by lia
     subst this;rw[hq]at hq';cases hq';exact(m7 hl).mpr (.inl (by lia))
   ·exact .inr (.inr fun q' hq'=>up _ (z q' hq'))
theorem oX.finish{m:Nat}{ts:Ts}{R:List Bool}{W:List Int}{p0 k:Nat}(h:oX m ts R W p0 k)(hk:(nbs ts p0).length≤k):iR m ts R W where
 len:=h.len
 zero:=h.zero
 ok:=h.ok
 win:=h.win
 cl:=fun p hp=>by
  rcases h.cl p hp with z | ⟨rfl,z2⟩ | z
  ·exact .inl z
  ·refine .inr fun q hq=>?_;obtain⟨j,hj,e⟩:=Yy.mp hq;exact z2 j q (by lia) (by rw[Zz hj,e])
  ·exact .inr z
def jP(R:List Bool):Nat:=(R.filter (! ·)).length
theorem xW:∀{R:List Bool}{i:Nat},R[i]?=some false→jP (R.set i true)+1=jP R
 |[],_,h=>by simp at h
 |b::R,0,h=>by
  have e:b=false:=by simpa using h
  subst e;simp[jP]
 |b::R,i+1,h=>by
  have h':R[i]?=some false:=by simpa using h
  have ih:=xW h';unfold jP at ih ⊢;rw[List.set_cons_succ];cases b<;>simp<;>lia
theorem pH:∀(l m:List Int),l.Nodup→(∀x∈l,x∈m)→l.length≤m.length
 |[],_,_,_=>Nat.zero_le _
 |x::l,m,nd,h=>by
  have h1:=List.nodup_cons.mp nd;have ih:=pH l (m.erase x) h1.2 fun y hy=>(List.mem_erase_of_ne (fun z=>h1.1 (by rw[←z];exact hy))).mpr (h y (Zw _ hy));have hx:=List.length_erase_of_mem (h x Zd);have:0<m.length:=List.length_pos_of_mem (h x Zd);simp only[Yq]
  lia
def upTo(m:Nat):List Int:=(List.range m).map fun n:Nat=>(n:Int)
theorem mem_upTo{m:Nat}{p:Int}:p∈upTo m↔0≤p∧p<m:=by
 unfold upTo;rw[Zh];constructor
 ·rintro⟨n,hn,rfl⟩;have:=Zs.mp hn
  lia
 ·rintro⟨h0,h1⟩;exact⟨p.toNat,Zs.mpr (by lia),by lia⟩
theorem FZ(m:Nat):(upTo m).Nodup:=pI (fun a b h=>by lia) List.nodup_range
theorem xQ(m:Nat):(upTo m).length=m:=by simp[upTo]
structure pQ(m:Nat)(ts:Ts)(C:List Int):Prop where
 nd:C.Nodup
 zero:0∈C
 win:∀p∈C,0≤p∧p<m
 ok:∀p∈C,Rch ts p
def G1(ts:Ts)(C:List Int):Prop:=∀t∈ts,t.1∈C↔t.2∈C
theorem pQ.le{m:Nat}{ts:Ts}{C:List Int}(h:pQ m ts C):C.length≤m:=by
 have:=pH C (upTo m) h.nd fun p hp=>mem_upTo.mpr (h.win p hp)
 rwa [xQ]at this
theorem pQ.whole{m:Nat}{ts:Ts}{C:List Int}(h:pQ m ts C)(e:C.length=m):yX m ts:=fun p h0 h1=>by
 by_cases hp:p∈C
 ·exact h.ok p hp
 ·have:=pH (p::C) (upTo m) (List.nodup_cons.mpr ⟨hp,h.nd⟩) fun q hq=>by
   rcases Zn.mp hq with rfl | hq
   ·exact mem_upTo.mpr ⟨h0,h1⟩
   ·exact mem_upTo.mpr (h.win q hq)
  rw[xQ,Yq]at this
  lia
theorem pQ.full{m:Nat}{ts:Ts}{C:List Int}(h:pQ m ts C)(c:G1 ts C)(w:yX m ts):C.length=m:=by
 refine Nat.le_antisymm h.le ?_;have:=pH (upTo m) C (FZ m) fun p hp=>by
  obtain⟨h0,h1⟩:=mem_upTo.mp hp;refine(w p h0 h1).within (S:=fun p=>p∈C) h.zero fun p hp q hq=>?_;obtain⟨t,ht,⟨rfl,rfl⟩ | ⟨rfl,rfl⟩⟩:=pJ.mp hq
  ·exact(c t ht).mp hp
  ·exact(c t ht).mpr hp
 rwa [xQ]at this
theorem pQ.start{m:Nat}{ts:Ts}(h:0<m):pQ m ts [0]:=⟨by simp,by simp,fun p hp=>by have:=Zb.mp hp;lia,fun p hp=>by rw[Zb.mp hp];exact .zero⟩
theorem pQ.add{m:Nat}{ts:Ts}{C:List Int}(h:pQ m ts C){p q:Int}(hp:p∈C)(hq:q∉C)(hn:q∈nbs ts p)(hw:InW m ts):pQ m ts (C++[q]) where
 nd:=by
  rw[List.nodup_append];exact⟨h.nd,by simp,fun a ha b hb z=>by rw[Zb.mp hb]at z;exact hq (z▸ha)⟩
 zero:=List.mem_append_left _ h.zero
 win:=fun x hx=>by
  rcases Zf.mp hx with z | z
  ·exact h.win x z
  ·rw[Zb.mp z];exact F0 hw hn
 ok:=fun x hx=>by
  rcases Zf.mp hx with z | z
  ·exact h.ok x z
  ·rw[Zb.mp z];exact(h.ok p hp).step hn
def half(C:List Int)(a b:Int):List Int:=if a∈C∧b∉C then C++[b] else C
theorem KW{m:Nat}{ts:Ts}{C:List Int}(h:pQ m ts C)(hw:InW m ts){a b:Int}(hn:b∈nbs ts a):pQ m ts (half C a b):=by
 unfold half;split
 ·rename_i c;exact h.add c.1 c.2 hn hw
 ·exact h
end AW
namespace L2
open PySem PySem.Spec PyProof.Rows
theorem scm{N P:List Str}{sc:Scope}(a:sc.kind=.function:=by rfl)(b:sc.isCoroutine=false:=by rfl)(c:sc.isGenerator=false:=by rfl)(d:N.Nodup:=by decide +kernel)(e:N.take P.length=P:=by rfl)(f:∀x∈P,sc.names.lookup x=some .local∨sc.names.lookup x=some .cell:=by decide +kernel)(g:∀y∈sc.names,y.2≠.free:=by decide +kernel):a9 N P sc:=⟨a,b,c,d,e,f,g⟩
structure Fn4(K:PySem.W.Frag)(mg:Str→Option Value)(x:Str)(s:Stmt)(ps:List Str)(a:Addr)(d:FuncData):Prop where
 F:Fun K x x s a d
 m:mg x=some (.ref a)
 k:PySem.W.keepIn K (.ref a)=true
 b:Binds K d ps []
abbrev FnX(K:PySem.W.Frag)(x:Str)(s:Stmt):Prop:=∃f:Addr,PySem.W.nsIn K ZV x=some (some (.ref f))∧∃(oc:Value) (od:Option Addr) (kV dc pm:Value) (an:Option Addr) (cd ct:Value) (sl:Array (Option Value)),K.lookup f=some ⟨oc,od,.func (PySem.W.fnOf x x (kH s) (iH s) (aS s) .none kV dc pm an cd ct),sl⟩∧PySem.W.codeIn K cd x=true∧PySem.W.keepIn K (.ref f)=true
theorem b8{K:PySem.W.Frag}{mg:Str→Option Value}{h:Heap}{x:Str}{s:Stmt}{ps:List Str}(X:K.In h)(G:h.Ns ZV mg)(e:FnX K x s)(hb:∀(kV doc pm:Value) (an:Option Addr) (cdv ct:Value) (us:List Value),us.length=ps.length→bindArgs (PySem.W.fnOf x x (kH s) (iH s) (aS s) .none kV doc pm an cdv ct) ⟨us,[]⟩=pure (ps.zip us)):∃f d,Fn4 K mg x s ps f d:=by
 obtain⟨f,a,oc,od,kV,dc,pm,an,cd,ct,sl,l,c,k⟩:=e;have F:=GI (st:=s) l c k;exact⟨f,_,F,PySem.W.mg_of X G a,k,F.binds hb⟩
theorem TB{K:PySem.W.Frag}{mg:Str→Option Value}{h:Heap}{x:Str}{s:Stmt}{ps:List Str}(X:K.In h)(G:h.Ns ZV mg)(e:FnX K x s)(hb:∀(kV doc pm:Value) (an:Option Addr) (cdv ct:Value) (us:List Value),us.length=ps.length→bindArgs (PySem.W.fnOf x x (kH s) (iH s) (aS s) .none kV doc pm an cdv ct) ⟨us,[]⟩=pure (ps.zip us)):∃f d,Fn4 K mg x s ps f d∧∀(s:Shared) (us:List Value),us.length=ps.length→BindsTo s d ⟨us,[]⟩ (ps.zip us):=by
 obtain⟨f,a,oc,od,kV,dc,pm,an,cd,ct,sl,l,c,k⟩:=e;have F:=GI (st:=s) l c k;exact⟨f,_,⟨F,PySem.W.mg_of X G a,k,F.binds hb⟩,fun s us hl=>.of_eq (hb _ _ _ _ _ _ us hl)⟩
theorem bR{X:Cx}{CX:CXT}{k:Nat}{f:Addr}{fd:FuncData}{ps:List Str}{sp:Sp}{E:XK}{x:Str}{p pos:Pos}{e:Expr}{es:List Expr}{s:Stmt}{t:TA}(F:bQ X.prog X.w X.K X.mg X.base CX k f fd ps sp){j:Nat}(hr:iB j X.A)(c:Fn4 X.K X.mg x s ps f fd)(hx:mI CX X E)
  (ha:PA X (e::es) t) (hj:k≤j:=by decide) (hg:Gl X x:=by rfl) (hdb:(x==("__debug__" : Str))=false:=by decide) (he:starEach (e::es) X.env=(false,eval e X.env)::starEach es X.env:=by rfl) (hpl:(backTo pos (starEach es X.env)).any (·.1)=false:=by rfl) :
  PE X (.Call (.Name x p) (e::es) [] pos) (Q4 sp [] E t):=PY F (hr.mono hj) hg c.m c.k c.b .nil hx ha hdb he hpl
structure Mth(T:String)(name:Str)(id:String):Prop where
 a:PlainAttrs T
 b:Slot T name id
 c:typeOf (.builtin id)=pure (.type "method_descriptor")
theorem mAp:Mth "list" "append" "list.append":=⟨PySem.F.plainAttrs_list,PySem.F.slot_list_append,PySem.F.type_list_append⟩
theorem mSp:Mth "str" "split" "str.split":=⟨PySem.F.plainAttrs_str,PySem.F.slot_str_split,PySem.F.type_str_split⟩
theorem mJn:Mth "str" "join" "str.join":=⟨PySem.F.plainAttrs_str,PySem.F.slot_str_join,PySem.F.type_str_join⟩
theorem mCo:Mth "str" "count" "str.count":=⟨PySem.F.plainAttrs_str,PySem.F.slot_str_count,PySem.F.type_str_count⟩
theorem kO{X:Cx}{o e:Expr}{es:List Expr}{to:TE}{t:TA}{name:Str}{apos cpos:Pos}{T id:String}{r:V→List V→Hp→VK→Prop}(M:Mth T name id)(hm:MtR X id r)(ho:PE X o to)(ha:PA X (e::es) t)
  (hbase:attributeBase o name X.env (eval o X.env)=eval o X.env:=by rfl)
  (hfew:((backTo cpos (starEach (e::es) X.env)).all (fun x=>!x.1)&&(backToKw cpos (keywordEach [] X.env)).all (fun x=>x.1.isSome)
   && decide ((e::es).length+([]:List Keyword).length+(if ([]:List Keyword).isEmpty then 0 else 1)<30))=true:=by rfl)
  (hline:(apos.endLine==cpos.line)=true:=by rfl) (hs:starEach (e::es) X.env=(false,eval e X.env)::starEach es X.env:=by rfl) (hplain:(backTo cpos (starEach es X.env)).any (·.1)=false:=by rfl) :
  PE X (.Call (.Attribute o name apos) (e::es) [] cpos) (tBM X.K T r to t):=nS M.a M.b M.c hm ho ha hbase hfew hline hs hplain
theorem a7{X:Cx}{pos:Pos}(i:Nat){x:Str}{e:Expr}{te:TE}{pos':Pos}(hN:X.N.Nodup)(he:PE X e te)(hi:X.N[i]?=some x:=by rfl)(hx:Loc X.env.scope x:=by first | exact Or.inl rfl | exact Or.inr rfl)(hs:swapsWith e (some (.Name x pos')) pos.line X.env=pure false:=by rfl)(hf:X.fn x=true∨X.env.scope.names.lookup x=some .local:=by first | exact .inl rfl | exact .inr rfl | assumption) :
  PS X (.Assign [.Name x pos'] e pos) (OZ te (jN i)):=R7 hN hi hx he hs hf
end L2
namespace K33
open PySem L2
def top(i:Nat):Stmt:=PySem.Challenge.pw_fewbends_k33_outer_lands_refused.main.body.getD i (.Pass ⟨0,0,0,0⟩)
abbrev nM:Stmt:=top 17
theorem rP:a9 ["web","many","ties"] ["web"] (aS nM):=scm
abbrev fQ:Stmt:=top 18
theorem iV:a9 ["many","ties"] ["many","ties"] (aS fQ):=scm
abbrev lX:Stmt:=top 19
theorem pR:a9 ["web","orders","order","ends"] ["web"] (aS lX):=scm
abbrev gR:Stmt:=top 20
theorem j9:a9 ["many","ties","ends","number","tie"] ["many","ties"] (aS gR):=scm
abbrev gQ:Stmt:=top 21
theorem j8:a9 ["many","ties","near","a","b","reached","waiting","place","neighbour"] ["many","ties"] (aS gQ):=scm
abbrev nE:Stmt:=top 22
theorem A9:a9 ["end"] ["end"] (aS nE):=scm
abbrev qC:Stmt:=top 23
theorem CW:a9 ["web","end"] ["web","end"] (aS qC):=scm
abbrev tQ:Stmt:=top 24
theorem FH:a9 ["web","end"] ["web","end"] (aS tQ):=scm
abbrev wW:Stmt:=top 25
theorem zT:a9 ["web","end","order"] ["web","end"] (aS wW):=scm
abbrev BE:Stmt:=top 26
theorem CZ:a9 ["web","told","seen","first","land","end"] ["web"] (aS BE):=scm
abbrev nG:Stmt:=top 27
theorem rM:a9 ["web","first","land","end"] ["web","first"] (aS nG):=scm
abbrev jJ:Stmt:=top 28
theorem mL:a9 ["web","numbers","number","land","end"] ["web"] (aS jJ):=scm
abbrev tP:Stmt:=top 29
theorem FG:a9 ["web"] ["web"] (aS tP):=scm
abbrev lY:Stmt:=top 30
theorem kK:a9 ["web"] ["web"] (aS lY):=scm
abbrev kM:Stmt:=top 31
theorem wM:a9 ["web","outer"] ["web","outer"] (aS kM):=scm
abbrev FJ:Stmt:=top 33
theorem PB:a9 ["way","prices"] ["way","prices"] (aS FJ):=scm
abbrev BC:Stmt:=top 34
theorem CU:a9 ["net","going","told","way","number"] ["net","going"] (aS BC):=scm
abbrev gP:Stmt:=top 35
theorem j7:a9 ["net","prices","onward","free","changed","count"] ["net"] (aS gP):=scm
abbrev jI:Stmt:=top 36
theorem mK:a9 ["net","free","prices","onward","changed","number","way","below"] ["net","free","prices","onward"] (aS jI):=scm
abbrev pS:Stmt:=top 37
abbrev qI:Stmt:=top 39
theorem uO:a9 ["net","doors","number","way"] ["net"] (aS qI):=scm
abbrev wU:Stmt:=top 40
theorem zR:a9 ["net","prices","search","reached","last"] ["net","prices"] (aS wU):=scm
abbrev BD:Stmt:=top 41
theorem CV:a9 ["search","begun","waiting","nearest","reached","entry","knot","number","by","distance","far","nearer"] ["search"] (aS BD):=scm
abbrev qH:Stmt:=top 42
theorem C3:a9 ["search","number","by"] ["search","number","by"] (aS qH):=scm
abbrev FI:Stmt:=top 43
theorem HI:a9 ["search","number","by","way"] ["search","number","by"] (aS FI):=scm
abbrev wN:Stmt:=top 44
theorem zN:a9 ["waiting","entry","first","beyond","middle"] ["waiting","entry"] (aS wN):=scm
abbrev jH:Stmt:=top 45
theorem mJ:a9 ["search","reached","last","knot","entry"] ["search","reached","last"] (aS jH):=scm
abbrev tL:Stmt:=top 46
theorem wJ:a9 ["search","reached","last","path","entry"] ["search","reached","last"] (aS tL):=scm
abbrev FK:Stmt:=top 47
theorem HJ:a9 ["search","path","last","begin","rooms","bounds","amount","number","by"] ["search","path","last"] (aS FK):=scm
abbrev nK:Stmt:=top 49
theorem rO:a9 ["net","many","way"] ["net"] (aS nK):=scm
abbrev qJ:Stmt:=top 50
theorem uP:a9 ["net","settled","ring","found"] ["net"] (aS qJ):=scm
abbrev mM:Stmt:=top 51
abbrev lW:Stmt:=top 53
theorem y8:a9 ["number","outer"] ["number","outer"] (aS lW):=scm
abbrev BB:Stmt:=top 54
theorem CT:a9 ["shape","lefts"] ["shape"] (aS BB):=scm
abbrev nC:Stmt:=top 55
theorem rK:a9 ["shape","lefts","fewer"] ["shape"] (aS nC):=scm
abbrev FM:Stmt:=top 57
theorem PD:a9 ["wishes","shape"] ["wishes","shape"] (aS FM):=scm
abbrev wO:Stmt:=top 58
theorem zO:a9 ["web","outer","wishes","needs","number","land"] ["web","outer","wishes"] (aS wO):=scm
abbrev kL:Stmt:=top 59
theorem m8:a9 ["web","sets","ways","end","number","low","high"] ["web","sets"] (aS kL):=scm
abbrev nF:Stmt:=top 60
theorem rL:a9 ["web","wishes","weights","bars","numbers","ways","end","number","beyond"] ["web","wishes"] (aS nF):=scm
abbrev wV:Stmt:=top 61
theorem zS:a9 ["web","outer","wishes","told","many_ends","shape"] ["web","outer","wishes"] (aS wV):=scm
abbrev lZ:Stmt:=top 63
theorem iC:a9 ["web","wishes","best","best_shape","papers","outer","told"] ["web","wishes"] (aS lZ):=scm
abbrev qD:Stmt:=top 64
theorem CY:a9 ["told"] ["told"] (aS qD):=scm
abbrev nJ:Stmt:=top 66
theorem BA:a9 ["_law_script","_law_k"] ["_law_script","_law_k"] (aS nJ):=scm
abbrev BF:Stmt:=top 67
theorem C1:a9 ["_law_cell","_law_k","_law_again","_law_number"] ["_law_cell","_law_k"] (aS BF):=scm
abbrev qE:Stmt:=top 68
theorem uL:a9 ["_law_number","_law_many","_law_told","_law_k"] ["_law_number","_law_many"] (aS qE):=scm
abbrev tN:Stmt:=top 69
theorem FF:a9 ["_law_end"] ["_law_end"] (aS tN):=scm
abbrev tM:Stmt:=top 70
theorem wK:a9 ["_law_ties","_law_end"] ["_law_ties","_law_end"] (aS tM):=scm
abbrev qG:Stmt:=top 71
theorem uN:a9 ["_law_ties","_law_orders","_law_end","_law_order"] ["_law_ties","_law_orders","_law_end"] (aS qG):=scm
abbrev tO:Stmt:=top 72
theorem wL:a9 ["_law_ties","_law_orders","_law_told","_law_left","_law_land","_law_here"] ["_law_ties","_law_orders"] (aS tO):=scm
abbrev wQ:Stmt:=top 74
theorem zP:a9 ["_law_ties","_law_orders","_law_number","_law_most","_law_some","_law_land","_law_one","_law_other_here","_law_a","_law_b","_law_end"] ["_law_ties","_law_orders","_law_number","_law_most"] (aS wQ):=scm
abbrev nH:Stmt:=top 75
theorem rN:a9 ["_law_ties","_law_orders","_law_cell","_law_places","_law_numbers","_law_names","_law_told","_law_k","_law_a","_law_b","_law_flip","_law_rows","_law_place_here","_law_order","_law_at"] ["_law_ties","_law_orders","_law_cell"] (aS nH):=scm
abbrev BG:Stmt:=top 76
theorem C2:a9 ["_law_script","_law_steps","_law_most","_law_cell","_law_ties","_law_orders","_law_k"] ["_law_script","_law_steps","_law_most"] (aS BG):=scm
abbrev wR:Stmt:=top 77
theorem zQ:a9 ["_law_web","_law_number","_law_many","_law_ties","_law_orders","_law_way","_law_some","_law_row"] ["_law_web","_law_number"] (aS wR):=scm
abbrev qF:Stmt:=top 78
theorem uM:a9 ["_law_web","_law_many","_law_ties","_law_orders","_law_one","_law_other_here","_law_rows","_law_place_here","_law_order","_law_come","_law_again"] ["_law_web"] (aS qF):=scm
abbrev BH:Stmt:=top 79
theorem MQ:a9 ["_law_web"] ["_law_web"] (aS BH):=scm
abbrev nI:Stmt:=top 80
theorem iX:a9 ["_law_web","_law_wishes","_law_kept","e"] ["_law_web","_law_wishes"] (aS nI):=scm
abbrev MR:Stmt:=top 81
theorem MP:a9 ["_law_script","_law_web","_law_k","_law_wishes","_law_handed"] ["_law_script"] (aS MR):=scm
abbrev eX:Stmt:=inClass (top 38) 0
theorem m9:a9 ["self","net","prices"] ["self","net","prices"] (aS eX):=scm
set_option genInjectivity false in
structure Adr where
 dZ:Addr
 bP:Addr
 bI:Addr
 eM:Addr
 fJ:Addr
 dQ:Addr
 eO:Addr
 eL:Addr
 cX:Addr
 fI:Addr
 dP:Addr
 fE:Tok
 iD:Tok
 kA:Tok
 dM:Tok
 a8:Addr
 iJ:Addr
 iI:FuncData
 vJ:Addr
 vC:FuncData
 jX:Addr
 jS:FuncData
 sZ:Addr
 sR:FuncData
 lS:Addr
 lN:FuncData
 lQ:Addr
 lM:FuncData
 oU:Addr
 oQ:FuncData
 yR:Addr
 yF:FuncData
 A3:Addr
 AM:FuncData
 EW:Addr
 EG:FuncData
 JI:Addr
 JA:FuncData
 vG:Addr
 u9:FuncData
 oV:Addr
 oR:FuncData
 A2:Addr
 AL:FuncData
 jD:Addr
 jC:FuncData
 qA:Addr
 pZ:FuncData
 yP:Addr
 yC:FuncData
 CD:Addr
 B2:FuncData
 hZ:Addr
 hJ:FuncData
 jZ:Addr
 jU:FuncData
 p7:Addr
 pX:FuncData
 qW:Addr
 qU:FuncData
 yW:Addr
 yK:FuncData
 CF:Addr
 B3:FuncData
 j3:Addr
 jV:FuncData
 CC:Addr
 B1:FuncData
 yQ:Addr
 yE:FuncData
 jY:Addr
 jT:FuncData
 uD:Addr
 uB:FuncData
 GU:Addr
 GR:FuncData
 oW:Addr
 oS:FuncData
 qX:Addr
 qV:FuncData
 mR:Addr
 mQ:FuncData
 sY:Addr
 sQ:FuncData
 JH:Addr
 I0:FuncData
 vE:Addr
 u5:FuncData
 OJ:Addr
 OA:FuncData
 ES:Addr
 EC:FuncData
 p9:Addr
 pY:FuncData
 vF:Addr
 u6:FuncData
 EV:Addr
 EF:FuncData
 gN:Addr
 gK:FuncData
 yS:Addr
 yG:FuncData
 vI:Addr
 vB:FuncData
 JJ:Addr
 JB:FuncData
 yT:Addr
 yH:FuncData
 AZ:Addr
 AJ:FuncData
 uE:Addr
 uC:FuncData
 yV:Addr
 yJ:FuncData
 A0:Addr
 AK:FuncData
 ET:Addr
 ED:FuncData
 vH:Addr
 vA:FuncData
 JK:Addr
 JC:FuncData
 EU:Addr
 EE:FuncData
 yU:Addr
 yI:FuncData
 JL:Addr
 JD:FuncData
 kJ:Addr
 kI:FuncData
 RE:Addr
 RD:FuncData
structure Txt(K:PySem.W.Frag)(mg:Str→Option Value)(t:Adr):Prop where
 kG:Fn4 K mg "check_map" nM ["web"] t.vJ t.vC
 jQ:Fn4 K mg "ties_name_places" fQ ["many","ties"] t.jX t.jS
 sO:Fn4 K mg "orders_fit" lX ["web"] t.sZ t.sR
 lK:Fn4 K mg "ends_at_places" gR ["many","ties"] t.lS t.lN
 lJ:Fn4 K mg "hangs_together" gQ ["many","ties"] t.lQ t.lM
 iQ:Fn4 K mg "other_end" nE ["end"] t.oU t.oQ
 xX:Fn4 K mg "place_of" qC ["web","end"] t.yR t.yF
 uA:Fn4 K mg "goes_to" tQ ["web","end"] t.A3 t.AM
 yA:Fn4 K mg "behind" wW ["web","end"] t.EW t.EG
 pN:Fn4 K mg "lands" BE ["web"] t.JI t.JA
 uY:Fn4 K mg "land_from" nG ["web","first"] t.vG t.u9
 jR:Fn4 K mg "land_numbers" jJ ["web"] t.oV t.oR
 t9:Fn4 K mg "is_flat" tP ["web"] t.A2 t.AL
 eT:Fn4 K mg "check_flat" lY ["web"] t.jD t.jC
 pV:Fn4 K mg "check_outer" kM ["web","outer"] t.qA t.pZ
 BZ:Fn4 K mg "rate" FJ ["way","prices"] t.yP t.yC
 IP:Fn4 K mg "rests" BC ["net","going"] t.CD t.B2
 lH:Fn4 K mg "settled_prices" gP ["net"] t.hZ t.hJ
 oO:Fn4 K mg "lower_prices" jI ["net","free","prices","onward"] t.jZ t.jU
 zA:Fn4 K mg "ring_behind" pS ["net","onward","knot"] t.p7 t.pX
 x8:Fn4 K mg "doors_of" qI ["net"] t.qW t.qU
 x6:Fn4 K mg "filled" wU ["net","prices"] t.yW t.yK
 IQ:Fn4 K mg "reach" BD ["search"] t.CF t.B3
 mE:Fn4 K mg "far_side" qH ["search","number","by"] t.j3 t.jV
 GL:Fn4 K mg "room" FI ["search","number","by"] t.CC t.B1
 DY:Fn4 K mg "put_in" wN ["waiting","entry"] t.yQ t.yE
 oM:Fn4 K mg "raise_prices" jH ["search","reached","last"] t.jY t.jT
 AH:Fn4 K mg "path_to" tL ["search","reached","last"] t.uD t.uB
 N6:Fn4 K mg "push" FK ["search","path","last"] t.GU t.GR
 u4:Fn4 K mg "check_net" nK ["net"] t.oW t.oS
 x9:Fn4 K mg "cheapest" qJ ["net"] t.qX t.qV
 vN:Fn4 K mg "without_costs" mM ["net"] t.mR t.mQ
 sN:Fn4 K mg "wanted_sum" lW ["number","outer"] t.sY t.sQ
 IM:Fn4 K mg "turns" BB ["shape"] t.JH t.I0
 uW:Fn4 K mg "shortened" nC ["shape"] t.vE t.u5
 GM:Fn4 K mg "cost" FM ["wishes","shape"] t.OJ t.OA
 DZ:Fn4 K mg "net_of" wO ["web","outer","wishes"] t.ES t.EC
 pU:Fn4 K mg "corner_ways" kL ["web","sets"] t.p9 t.pY
 uX:Fn4 K mg "left_ways" nF ["web","wishes"] t.vF t.u6
 D5:Fn4 K mg "fewest" wV ["web","outer","wishes"] t.EV t.EF
 gJ:Fn4 K mg "best_outer" lZ ["web","wishes"] t.gN t.gK
 xY:Fn4 K mg "paper_of" qD ["told"] t.yS t.yG
 fY:Fn4 K mg "_law_cell_at" nJ ["_law_script","_law_k"] t.vI t.vB
 iG:Fn4 K mg "_law_mix" BF ["_law_cell","_law_k"] t.JJ t.JB
 qS:Fn4 K mg "_law_turned" qE ["_law_number","_law_many"] t.yT t.yH
 lI:Fn4 K mg "_law_other" tN ["_law_end"] t.AZ t.AJ
 jG:Fn4 K mg "_law_place" tM ["_law_ties","_law_end"] t.uE t.uC
 qT:Fn4 K mg "_law_behind" qG ["_law_ties","_law_orders","_law_end"] t.yV t.yJ
 t8:Fn4 K mg "_law_lands" tO ["_law_ties","_law_orders"] t.A0 t.AK
 D0:Fn4 K mg "_law_step" wQ ["_law_ties","_law_orders","_law_number","_law_most"] t.ET t.ED
 uZ:Fn4 K mg "_law_renamed" nH ["_law_ties","_law_orders","_law_cell"] t.vH t.vA
 IR:Fn4 K mg "_law_map" BG ["_law_script","_law_steps","_law_most"] t.JK t.JC
 D4:Fn4 K mg "_law_bent" wR ["_law_web","_law_number"] t.EU t.EE
 xZ:Fn4 K mg "_law_is_map" qF ["_law_web"] t.yU t.yI
 IS:Fn4 K mg "_law_due" BH ["_law_web"] t.JL t.JD
 oP:Fn4 K mg "_law_refused" nI ["_law_web","_law_wishes"] t.kJ t.kI
 VF:Fn4 K mg "law" MR ["_law_script"] t.RE t.RD
 bT:Cls K t.a8
 iE:j4 K t.a8 "ways"
 fP:j4 K t.a8 "prices"
 eJ:j4 K t.a8 "going"
 cL:j4 K t.a8 "resting"
 nX:j4 K t.a8 "doors"
 KH:Mk K t.a8 t.iJ
 NT:mg "Search" = some (.ref t.a8)
 zI:Fun K "__init__" "Search.__init__" eX t.iJ t.iI
 zE:Binds K t.iI ["self","net","prices"] []
 Q0:mg "all" = none
 T3:mg "any" = none
 dA:mg "enumerate" = none
 CI:mg "int" = none
 cS:mg "isinstance" = none
 cP:mg "len" = none
 lV:mg "list" = none
 QZ:mg "max" = none
 LK:mg "min" = none
 eA:mg "range" = none
 qZ:mg "sorted" = none
 QY:mg "sum" = none
 LJ:mg "zip" = none
 cW:mg "QUARTERS_ROUND" = some (.int 4 t.fE)
 fM:mg "MOST_PLACES" = some (.int 200 t.iD)
 iP:mg "MOST_TIES" = some (.int 400 t.kA)
 cZ:mg "MOST_ENDS_AT_A_PLACE" = some (.int 4 t.dM)
 fU:mg "BendError" = some (.ref t.dZ)
 fF:mg "NoMap" = some (.ref t.bP)
 gX:mg "NotFlat" = some (.ref t.bI)
 lD:mg "NoLand" = some (.ref t.eM)
 pL:mg "NoNet" = some (.ref t.fJ)
 jF:mg "NoShape" = some (.ref t.dQ)
 lE:mg "NoLaid" = some (.ref t.eO)
 lC:mg "NoText" = some (.ref t.eL)
 fT:mg "NoPicture" = some (.ref t.cX)
 pK:mg "NoRow" = some (.ref t.fI)
 jE:mg "NoThing" = some (.ref t.dP)
 A5:PySem.W.excIn K t.bP [.type "ValueError",.type "Exception",.type "BaseException",.type "object"] "ValueError.__new__" = true
 JM:L2.GZ K t.bP t.dZ
 LP:PySem.W.subIn K (.ref t.bP) (.type "ValueError")=some true
 kS:L2.dS K t.bP t.bI
 mY:L2.dS K t.bP t.eM
 rH:L2.dS K t.bP t.fJ
 kU:L2.dS K t.bP t.dQ
 mZ:L2.dS K t.bP t.eO
 mX:L2.dS K t.bP t.eL
 iL:L2.dS K t.bP t.cX
 rG:L2.dS K t.bP t.fI
 kT:L2.dS K t.bP t.dP
 x_K:L2.uI K t.bP
 LO:PySem.W.excIn K t.bI [.type "ValueError",.type "Exception",.type "BaseException",.type "object"] "ValueError.__new__" = true
 LN:L2.GZ K t.bI t.dZ
 LM:PySem.W.subIn K (.ref t.bI) (.type "ValueError")=some true
 rF:L2.dS K t.bI t.bP
 mT:L2.dS K t.bI t.eM
 rE:L2.dS K t.bI t.fJ
 kR:L2.dS K t.bI t.dQ
 mV:L2.dS K t.bI t.eO
 mS:L2.dS K t.bI t.eL
 iK:L2.dS K t.bI t.cX
 rB:L2.dS K t.bI t.fI
 kQ:L2.dS K t.bI t.dP
 y_K:L2.uI K t.bI
 fD:mg "ValueError" = none
end K33
abbrev K33.lawK:Nat:=60
namespace NM
open L2 (at0)
structure Way where
 a:Nat
 b:Nat
 lo:Int
 hi:Option Int
 c:Int
def rt(ps:List Int)(w:Way):Int:=w.c-at0 ps w.a+at0 ps w.b
theorem sV{l:List Int}{j k:Nat}{v:Int}(h:j<l.length):at0 (l.set j v) k=if k=j then v else at0 l k:=by
 unfold at0;simp only[List.getD];by_cases e:k=j
 ·subst e;rw[if_pos rfl,List.getElem?_set_self h];rfl
 ·rw[if_neg e,List.getElem?_set_ne (Ne.symm e)]
def step(l:List Int)(w:Way)(g:Int):List Int:=(l.set w.a (at0 l w.a-g)).set w.b (at0 (l.set w.a (at0 l w.a-g)) w.b+g)
theorem CN(l:List Int)(w:Way)(g:Int):(step l w g).length=l.length:=by unfold step;simp
def left:List Way→List Int→List Int→List Int
 |w::ws,g::gs,l=>left ws gs (step l w g)
 |_,_,l=>l
theorem AD{ws:List Way}{gs l:List Int}{i:Nat}{w:Way}{g:Int}(h1:ws[i]?=some w)(h2:gs[i]?=some g):left (ws.take (i+1)) (gs.take (i+1)) l=step (left (ws.take i) (gs.take i) l) w g:=by
 induction i generalizing ws gs l with
 |zero =>
  cases ws with
  |nil=>simp at h1
  |cons x ws =>
   cases gs with
   |nil=>simp at h2
   |cons y gs =>
    simp at h1 h2;subst h1 h2;simp[left]
 |succ i ih =>
  cases ws with
  |nil=>simp at h1
  |cons x ws =>
   cases gs with
   |nil=>simp at h2
   |cons y gs =>
    simp only[List.take_succ_cons,left];exact ih (by simpa using h1) (by simpa using h2)
theorem sE:∀(ws:List Way) (gs l:List Int),(left ws gs l).length=l.length
 |w::ws,g::gs,l=>by rw[left,sE,CN]
 |[],_,l=>by cases ‹List Int›<;>rfl
 |_::_,[],l=>rfl
end NM
namespace FL
open NM L2
def aF(ws:List Way)(k:Nat):Nat:=(ws[k]?.map (·.a)).getD 0
def bF(ws:List Way)(k:Nat):Nat:=(ws[k]?.map (·.b)).getD 0
def loF(ws:List Way)(k:Nat):Int:=(ws[k]?.map (·.lo)).getD 0
def hiF(ws:List Way)(k:Nat):Option Int:=ws[k]?.bind (·.hi)
def coF(ws:List Way)(k:Nat):Int:=(ws[k]?.map (·.c)).getD 0
section
variable{ws:List Way}{k:Nat}{w:Way}
theorem vK(h:ws[k]?=some w):aF ws k=w.a:=by unfold aF;rw[h];rfl
theorem yO(h:ws[k]?=some w):bF ws k=w.b:=by unfold bF;rw[h];rfl
theorem F9(h:ws[k]?=some w):loF ws k=w.lo:=by unfold loF;rw[h];rfl
theorem BW(h:ws[k]?=some w):hiF ws k=w.hi:=by unfold hiF;rw[h];rfl
theorem TL(h:ws[k]?=some w):coF ws k=w.c:=by unfold coF;rw[h];rfl
theorem MT(h:ws[k]?=some w)(ps:List Int):rt (aF ws) (bF ws) (coF ws) (at0 ps) k=NM.rt ps w:=by
 unfold rt NM.rt;rw[vK h,yO h,TL h]
end
theorem EO{l:List Int}{w:Way}{g:Int}(ha:w.a<l.length)(hb:w.b<l.length)(v:Nat):at0 (step l w g) v=at0 l v-(if w.a=v then g else 0)+(if w.b=v then g else 0):=by
 unfold step;rw[sV (by simpa using hb),sV ha,sV ha];by_cases x:v=w.b<;>by_cases y:v=w.a
 ·subst x;rw[if_pos rfl,if_pos y,if_pos y.symm,if_pos rfl,y]
 ·subst x;rw[if_pos rfl,if_neg y,if_neg (fun z=>y z.symm),if_pos rfl];lia
 ·subst y;rw[if_neg x,if_pos rfl,if_pos rfl,if_neg (fun z=>x z.symm)];lia
 ·rw[if_neg x,if_neg y,if_neg (fun z=>y z.symm),if_neg (fun z=>x z.symm)];lia
theorem QH{ws:List Way}{gs ns:List Int}(hl:gs.length=ws.length)(hk:∀w∈ws,w.a<ns.length∧w.b<ns.length)(v:Nat) :
  at0 (left ws gs ns) v=rs ws.length (aF ws) (bF ws) (at0 ns) (at0 gs) v:=by
 have key:∀i,i≤ws.length→at0 (left (ws.take i) (gs.take i) ns) v=rs i (aF ws) (bF ws) (at0 ns) (at0 gs) v:=by
  intro i;induction i with
  |zero=>intro _;simp[left,rs,HG]
  |succ i ih =>
   intro hi;have h1:ws[i]?=some ws[i]:=Zz (by lia);have h2:gs[i]?=some gs[i]:=Zz (by lia);have hw:=hk ws[i] (Zp _);have ll:=sE (ws.take i) (gs.take i) ns;rw[AD h1 h2,EO (by rw[ll];exact hw.1) (by rw[ll];exact hw.2),ih (by lia)];have eg:at0 gs i=gs[i]:=by unfold at0;simp[List.getD,h2]
   unfold rs;rw[dY,dY,vK h1,yO h1,eg]
   lia
 have:=key ws.length (Nat.le_refl _)
 rwa [Yv,List.take_of_length_le (by lia)]at this
section
variable{rest rest':Nat→Int}{src dst:Nat→Int→Nat}{len:Nat→Int→Int}{op:Nat→Int→Prop}{n:Nat}{pr:Nat→Int→Prop}{R W:List En}{nr:Nat→Option Int}
theorem Rch.congr(h:Rch rest src dst len op n pr R W nr)(e:∀v,v<n→rest v=rest' v):Rch rest' src dst len op n pr R W nr:=by
 have f:∀x∈R++W,A4 rest x→A4 rest' x:=fun x hx z=>⟨z.1,z.2.1,by rw[←e _ (h.lt x hx)];exact z.2.2⟩
 exact⟨fun i x hx=>(h.old i x hx).imp (f x (List.mem_append_left _ (Zg hx))) id,fun x hx=>(h.wait x hx).imp (f x (List.mem_append_right _ hx)) id,h.lt,h.nd,h.up,h.mono,h.dom,h.near,fun v hv hp=>h.pos v hv (by rw[e v hv];exact hp)⟩
theorem few:∀(n:Nat) (l:List Nat),l.Nodup→(∀x∈l,x<n)→l.length≤n
 |0,[],_,_=>Nat.le_refl _
 |0,x::_,_,h=>absurd (h x (.head _)) (Nat.not_lt_zero _)
 |n+1,l,nd,h=>by
  have ih:=few n (l.filter fun x=>decide (x≠n)) (nd.filter _) fun x hx=>by
   obtain⟨h1,h2⟩:=Yz.mp hx;have:=h x h1;have:=of_decide_eq_true h2
   lia
  have key:∀m:List Nat,m.Nodup→m.length≤(m.filter fun x=>decide (x≠n)).length+1:=by
   intro m;induction m with
   |nil=>intro _;simp
   |cons a m ihm =>
    intro hm;rw[List.nodup_cons]at hm;by_cases z:a=n
    ·have e:m.filter (fun x=>decide (x≠n))=m:=List.filter_eq_self.mpr fun x hx=>decide_eq_true fun y=>hm.1 (by rw[z,←y];exact hx);rw[List.filter_cons_of_neg (by simpa using z),e];simp
    ·rw[List.filter_cons_of_pos (by simpa using z)];have:=ihm hm.2;rw[Yq,Yq]
     lia
  have:=key l nd
  lia
theorem Rch.few(h:Rch rest src dst len op n pr R W nr):R.length≤n:=by
 have:=FL.few n (R.map (·.v)) h.nd fun x hx=>by
  obtain⟨u,hu,rfl⟩:=Zh.mp hx;exact h.lt u (List.mem_append_left _ hu)
 simpa using this
def Out(rest:Nat→Int)(src dst:Nat→Int→Nat)(len:Nat→Int→Int)(op:Nat→Int→Prop)(n:Nat)(R:List En):Prop :=
 (∃(R':List En) (e:En) (W:List En) (nr:Nat→Option Int) (pr:Nat→Int→Prop),R=R'++[e]∧Rch rest src dst len op n pr R W nr∧(∀k by_,op k by_→(∃u∈R',u.v=src k by_)→pr k by_)∧rest e.v<0) ∨
 (∃(nr:Nat→Option Int) (pr:Nat→Int→Prop),Rch rest src dst len op n pr R [] nr∧(∀k by_,op k by_→(∃u∈R,u.v=src k by_)→pr k by_)∧∀u∈R,0≤rest u.v)
theorem Out.congr(h:Out rest src dst len op n R)(e:∀v,v<n→rest v=rest' v):Out rest' src dst len op n R:=by
 rcases h with⟨R',x,W,nr,pr,rfl,h,a,l⟩ | ⟨nr,pr,h,a,l⟩
 ·exact .inl ⟨R',x,W,nr,pr,rfl,h.congr e,a,by rw[←e _ (h.lt x (by simp))];exact l⟩
 ·exact .inr ⟨nr,pr,h.congr e,a,fun u hu=>by rw[←e _ (h.lt u (by simpa using hu))];exact l u hu⟩
end
structure GY(ws:List Way)(n:Nat)(ds:List (List (Nat×Int))):Prop where
 len:ds.length=n
 mem:∀(v:Nat) (l:List (Nat×Int)),ds[v]?=some l→∀(k:Nat) (by_:Int),(k,by_)∈l↔k<ws.length∧((by_=1∧aF ws k=v)∨(by_ = -1∧bF ws k=v))
 few:∀(v:Nat) (l:List (Nat×Int)),ds[v]?=some l→l.length≤2*ws.length
theorem GY.src{ws:List Way}{n:Nat}{ds:List (List (Nat×Int))}(h:GY ws n ds){v:Nat}{l:List (Nat×Int)}(hl:ds[v]?=some l){k:Nat}{by_:Int}(hm:(k,by_)∈l):k<ws.length∧(by_=1∨by_ = -1)∧sd (aF ws) (bF ws) k by_=v:=by
 obtain⟨h1,h2⟩:=(h.mem v l hl k by_).mp hm;rcases h2 with⟨rfl,e⟩ | ⟨rfl,e⟩
 ·exact⟨h1,.inl rfl,e⟩
 ·exact⟨h1,.inr rfl,e⟩
theorem GY.has{ws:List Way}{n:Nat}{ds:List (List (Nat×Int))}(h:GY ws n ds){k:Nat}{by_:Int}(hk:k<ws.length)(hb:by_=1∨by_ = -1){l:List (Nat×Int)}(hl:ds[sd (aF ws) (bF ws) k by_]?=some l):(k,by_)∈l:=by
 refine(h.mem _ l hl k by_).mpr ⟨hk,?_⟩;rcases hb with rfl | rfl
 ·exact .inl ⟨rfl,rfl⟩
 ·exact .inr ⟨rfl,rfl⟩
def rm(ws:List Way)(gs:List Int)(k:Nat)(by_:Int):Option Int:=if by_<0 then some (at0 gs k-loF ws k) else (hiF ws k).map fun h=>h-at0 gs k
theorem MW{ws:List Way}{gs:List Int}{k:Nat}{by_:Int}(hk:k<ws.length)(hb:by_=1∨by_ = -1):opn ws.length (loF ws) (hiF ws) (at0 gs) k by_↔rm ws gs k by_≠some 0:=by
 unfold opn rm;rcases hb with rfl | rfl
 ·rw[if_neg (by decide)];constructor
  ·rintro⟨_,⟨_,z⟩ | ⟨z,_⟩⟩
   ·intro y;obtain⟨h,e1,e2⟩:=Xz.mp y;exact z (by rw[e1];congr 1;lia)
   ·exact absurd z (by decide)
  ·intro z;refine⟨hk,.inl ⟨rfl,fun y=>z ?_⟩⟩;rw[y];show some (at0 gs k-at0 gs k)=some 0;rw[Int.sub_self]
 ·rw[if_pos (by decide)];constructor
  ·rintro⟨_,⟨z,_⟩ | ⟨_,z⟩⟩
   ·exact absurd z (by decide)
   ·intro y;have:=Option.some.inj y;exact z (by lia)
  ·intro z;refine⟨hk,.inr ⟨rfl,fun y=>z ?_⟩⟩;congr 1;lia
end FL
namespace L2
open PySem PyProof.Rows NM
def wv(w:Way):List V:=[vn w.a,vn w.b,.int w.lo,vo w.hi,.int w.c]
def iA(H:Hp)(a:Addr)(ws:List Way):Prop:=∃rs:List Addr,H a=some (.lst (rs.map V.ref))∧rs.length=ws.length∧∀(i:Nat) w,ws[i]?=some w→∃r,rs[i]?=some r∧H r=some (.tup (wv w))
theorem iA.mono{H H':Hp}{a:Addr}{ws:List Way}(h:iA H a ws)(g:aW H H'):iA H' a ws:=by
 obtain⟨rs,h1,h2,h3⟩:=h;exact⟨rs,g _ _ h1,h2,fun i w hw=>by obtain⟨r,q1,q2⟩:=h3 i w hw;exact⟨r,q1,g _ _ q2⟩⟩
structure lU(H:Hp)(p na wa:Addr)(ns:List Int)(ws:List Way):Prop where
 tp:H p=some (.tup [.ref na,.ref wa])
 n:H na=some (.lst (ns.map V.int))
 w:iA H wa ws
theorem lU.mono{H H':Hp}{p na wa:Addr}{ns:List Int}{ws:List Way}(h:lU H p na wa ns ws)(g:aW H H'):lU H' p na wa ns ws:=⟨g _ _ h.tp,g _ _ h.n,h.w.mono g⟩
structure VJ(n:Nat)(w:Way):Prop where
 a:w.a<n
 b:w.b<n
 lo : -1000≤w.lo∧w.lo≤1000
 hi:∀h,w.hi=some h→w.lo≤h∧h≤1000
 c : -1000≤w.c∧w.c≤1000
structure EY(ns:List Int)(ws:List Way):Prop where
 n:1≤ns.length
 n2:ns.length≤1000
 w2:ws.length≤1000
 z:ns.sum=0
 nb:∀x∈ns,-100000≤x∧x≤100000
 w:∀w∈ws,VJ ns.length w
theorem E6{H:Hp}{rs:List Addr}{ws:List Way}{i:Nat}{r:Addr}(hl:rs.length=ws.length)(h3:∀(i:Nat) w,ws[i]?=some w→∃r,rs[i]?=some r∧H r=some (.tup (wv w)))(h:rs[i]?=some r):∃w,ws[i]?=some w∧H r=some (.tup (wv w)):=by
 have hi:i<ws.length:=by rw[←hl];exact(Zj.mp h).1
 obtain⟨r',q1,q2⟩:=h3 i ws[i] (Zz hi);rw[h]at q1;cases q1;exact⟨_,Zz hi,q2⟩
theorem vZ{ls:List Int}{i:Nat}{x:V}(h:(ls.map V.int)[i]?=some x):i<ls.length∧x=.int (at0 ls i):=by
 have hi:i<ls.length:=by
  have:=(Zj.mp h).1;simpa using this
 rw[gM hi]at h;exact⟨hi,(Option.some.inj h).symm⟩
end L2
variable{P:PySem.Program}{w:PySem.World}{K:PySem.W.Frag}{mg:PySem.Str→Option PySem.Value}{base:PySem.Heap}{t:K33.Adr}
namespace K33
open PySem L2 PyProof.Rows NM
def HF:Sp:=fun vs H Q _=>∃(p na wa:Addr) (ns:List Int) (ws:List Way),vs=[.ref p]∧lU H p na wa ns ws∧EY ns ws∧Q .non H
theorem NN(T:Txt K mg t):bQ P w K mg base CX0 1 t.oW t.oS ["net"] HF:=by
 refine T.u4.F.ok rO (fun vs H Q E h=>?_) (fun cdv A outer s H vs Q E hr h=>?_)
 ·obtain⟨p,na,wa,ns,ws,rfl,_⟩:=h;rfl
 obtain⟨p,na,wa,ns,ws,rfl,hN,hO,q⟩:=h;have nd:=rO.nd;obtain⟨rs,e1,e2,e3⟩:=hN.w;refine⟨_,(aE (a7 1 nd (aT aO rfl T.cP PySem.boot_len (aA (aM aU (pv 0) aH (fun _ _=>rfl)) aC)))
  (aE (cC (aZ fK (pv 1) aH (bD _)) (aK rV) bJ)
  (aE (cC (aZ xD (aT (AO rfl) rfl T.QY boot_sum (aA (aM aU (pv 0) aH (fun _ _=>rfl)) aC)) aH (bD _)) (aK rV) bJ)
  (aK (cY PassesOwn.never rfl (cK (aM aU (pv 0) aH (fun _ _=>rfl))) (aQ (i:=2) nd rfl (Or.inl rfl)) (aE (cC (gH (PW.pt (gS (nO rZ fS aH (aM aU (pv 2) aH (fun _ _=>rfl)) (pv 1)) (gG (nO rZ fS aH (aM aU (pv 2) aH (fun _ _=>rfl)) (pv 1)))))) (aK rV) bJ)
  (aK (cC (PW.pt (gS (aZ HS (aM aU (pv 2) aH (fun _ _=>rfl)) eP (bD _)) (gG (aZ fS (aM aU (pv 2) aH (fun _ _=>rfl)) (aM aU (pv 2) aH (fun _ _=>rfl)) (bD _))))) (aK rV) bJ)))))))),?_⟩
 have hT:SqT K H p [.ref na,.ref wa]:=SqT.of hN.tp;have hn1:=hO.n;refine⟨_,rfl,(aG p _ _ _ rfl ⟨ rfl,(bB hT rfl na _ rfl ⟨ .inl (SqL.of hN.n),?_⟩)⟩)⟩;have el:(((ns.map V.int).length:Nat):Int)=(ns.length:Int):=by rw[Zq]
 show jN 1 (V.int (((ns.map V.int).length:Nat):Int)) _ _ _;rw[el];refine(bW _ rfl rfl _ rfl (eZ (decide_eq_false (fun z=>by have:=V.int.inj z;lia)) ?_));refine⟨_,rfl,(aG p _ _ _ rfl ⟨ rfl,(bB hT rfl na _ rfl ⟨ SqL.of hN.n,?_⟩)⟩)⟩;refine⟨rfl,_,rfl,eZ (by rw[hO.z];rfl) ?_⟩;refine⟨_,rfl,(aG p _ _ _ rfl (aR rfl hT rfl wa rfl ⟨ ⟨_,SqL.of e1⟩,fA (xs:=rs.map V.ref) (fun _ σ H'=>H'=H∧∃o:Option V,σ=[some (.ref p),some (.int ns.length),o]) ⟨rfl,none,rfl⟩ (fun i σ H' _ h=>by obtain⟨rfl,_⟩:=h;exact SqL.of e1) ?_ ?_⟩))⟩
 ·rintro i x σ H' hx ⟨rfl,o,rfl⟩;obtain⟨r,hr1,rfl⟩:=vU hx;obtain⟨w,hw,er⟩:=E6 e2 e3 hr1;have ok:=hO.w w (Zg hw);have hW:SqT K H' r (wv w):=SqT.of er;have ha:=ok.a;have hb:=ok.b;refine⟨_,rfl,(aG r _ _ _ rfl ⟨ rfl,(bB hW rfl _ _ rfl ⟨ rfl,_,rfl,eV (decide_eq_true (by lia)) (aN _ rfl _ _ rfl ⟨ rfl,_,rfl,eV (decide_eq_true (by lia)) ?_⟩)⟩)⟩)⟩;refine⟨_,rfl,(aG r _ _ _ rfl ⟨ rfl,(bB hW rfl _ _ rfl ⟨ rfl,_,rfl,eV (decide_eq_true (by lia)) (aN _ rfl _ _ rfl ⟨ rfl,_,rfl,?_⟩)⟩)⟩)⟩;rw[decide_eq_true (show(w.b:Int)<(ns.length:Int) by lia)];refine dX ?_;refine⟨_,rfl,(aG r _ _ (vo w.hi) rfl ⟨ rfl,hW,rfl,rfl,?_⟩)⟩;rcases hh:w.hi with _ | h
  ·exact⟨_,rfl,eZ (by rfl) (dX ⟨rfl,_,rfl⟩)⟩
  ·have e4:atI (wv w) 3=some (.int h):=by show some (vo w.hi)=_;rw[hh];rfl
   have:=ok.hi h hh;exact⟨_,rfl,eV (by rfl) ⟨_,rfl,(aG r _ _ _ rfl (aR rfl hW e4 _ rfl (aG r _ _ _ rfl ⟨ rfl,(bB hW rfl _ _ rfl ⟨ rfl,_,rfl,eZ (decide_eq_false (by lia)) ⟨rfl,_,rfl⟩⟩)⟩)))⟩⟩
 ·rintro σ H' ⟨rfl,o,rfl⟩;exact q
end K33
namespace L2
open PySem PySem.Spec PyProof.Rows
section
variable{X:Cx}
def UV(K:PySem.W.Frag):V→V→Hp→VK→Prop:=fun o i H Q=>∃p xs k v,o=.ref p∧i=.int k∧SqL K H p xs∧0≤k∧atI xs k=some v∧Q v H
theorem jM:VN X (UV X.K):=by
 intro pins s σ H o i ov iv Q I ro ri h;obtain⟨p,xs,k,z,rfl,rfl,hq,h0,he,q⟩:=h;cases ro;obtain⟨t,rfl⟩:=ri;obtain⟨its,r,pl,hz⟩:=I.list hq;obtain⟨j,h1,h2,h3,h4,h5⟩:=v9 he;obtain⟨w,ew,rw'⟩:=r.get h2;have hl:=r.length;have hn:=mC;have hj:k.toNat=j:=by
  rw[seqIndex_of h0 h5]at h1;exact Option.some.inj h1
 exact wpAny_getItem_list pl.isList h0 (by lia) (by rw[hj];simpa using ew) ⟨z,H,I,rw',q⟩
end
end L2
namespace K33
open PySem L2 PyProof.Rows NM FL
def sL(wa pa ga ra da:Addr):List (Str×V):=cB "doors" (.ref da) (cB "resting" (.ref ra) (cB "going" (.ref ga) (cB "prices" (.ref pa) (cB "ways" (.ref wa) []))))
theorem BX(wa pa ga ra da:Addr):(sL wa pa ga ra da).lookup ("ways" : Str)=some (.ref wa):=by
 unfold sL;rw[bZ,if_neg (by decide +kernel),bZ,if_neg (by decide +kernel),bZ,if_neg (by decide +kernel),bZ,if_neg (by decide +kernel),bZ,if_pos rfl]
theorem tZ(wa pa ga ra da:Addr):(sL wa pa ga ra da).lookup ("prices" : Str)=some (.ref pa):=by
 unfold sL;rw[bZ,if_neg (by decide +kernel),bZ,if_neg (by decide +kernel),bZ,if_neg (by decide +kernel),bZ,if_pos rfl]
theorem sM(wa pa ga ra da:Addr):(sL wa pa ga ra da).lookup ("going" : Str)=some (.ref ga):=by
 unfold sL;rw[bZ,if_neg (by decide +kernel),bZ,if_neg (by decide +kernel),bZ,if_pos rfl]
theorem fB(wa pa ga ra da:Addr):(sL wa pa ga ra da).lookup ("resting" : Str)=some (.ref ra):=by
 unfold sL;rw[bZ,if_neg (by decide +kernel),bZ,if_pos rfl]
theorem N4(wa pa ga ra da:Addr):(sL wa pa ga ra da).lookup ("doors" : Str)=some (.ref da):=by
 unfold sL;rw[bZ,if_pos rfl]
structure SA where
 w:Addr
 p:Addr
 g:Addr
 r:Addr
 d:Addr
 rows:List Addr
def y4(H:Hp)(a:Addr)(l:List (Nat×Int)):Prop:=∃rs:List Addr,H a=some (.lst (rs.map V.ref))∧rs.length=l.length∧∀(j:Nat) q,l[j]?=some q→∃r,rs[j]?=some r∧H r=some (.tup [vn q.1,.int q.2])
theorem y4.keep{H H':Hp}{a:Addr}{l:List (Nat×Int)}(h:y4 H a l)(k:∀b xs,(b=a→H b=some (.lst xs)→H' b=some (.lst xs))∧(H b=some (.tup xs)→H' b=some (.tup xs))):y4 H' a l:=by
 obtain⟨rs,h1,h2,h3⟩:=h;refine⟨rs,(k a _).1 rfl h1,h2,fun j q hq=>?_⟩;obtain⟨r,e1,e2⟩:=h3 j q hq;exact⟨r,e1,(k r _).2 e2⟩
structure SAt(C:Addr)(H:Hp)(s:Addr)(A:SA)(ws:List Way)(ds:List (List (Nat×Int)))(ps gs rs:List Int):Prop where
 ob:∃dx,H s=some (.ins C dx (sL A.w A.p A.g A.r A.d))
 w:iA H A.w ws
 p:H A.p=some (.lst (ps.map V.int))
 g:H A.g=some (.lst (gs.map V.int))
 r:H A.r=some (.lst (rs.map V.int))
 d:H A.d=some (.lst (A.rows.map V.ref))
 dl:A.rows.length=ds.length
 dr:∀(i:Nat) l,ds[i]?=some l→∃a,A.rows[i]?=some a∧y4 H a l
 np:A.p∉A.w::A.d::A.rows
 ng:A.g∉A.w::A.d::A.rows
 nr:A.r∉A.w::A.d::A.rows
 pg:A.p≠A.g
 pr:A.p≠A.r
 gr:A.g≠A.r
theorem SAt.into{C:Addr}{H H':Hp}{s:Addr}{A:SA}{ws:List Way}{ds:List (List (Nat×Int))}{ps gs rs ps' gs' rs':List Int}(h:SAt C H s A ws ds ps gs rs)(k:∀b o,b≠A.p→b≠A.g→b≠A.r→(∀z,o≠.dK z)→H b=some o→H' b=some o)
  (p:H' A.p=some (.lst (ps'.map V.int))) (g:H' A.g=some (.lst (gs'.map V.int))) (r:H' A.r=some (.lst (rs'.map V.int))):SAt C H' s A ws ds ps' gs' rs':=by
 have nl:∀b o,(∀z,o≠.lst z)→(∀z,o≠.dK z)→H b=some o→H' b=some o:=fun b o z z' e=>k b o (dB e h.p (z _)) (dB e h.g (z _)) (dB e h.r (z _)) z' e;have mm:∀b xs,b∈A.w::A.d::A.rows→H b=some (.lst xs)→H' b=some (.lst xs):=fun b xs z e=>k b _ (fun y=>h.np (y▸z)) (fun y=>h.ng (y▸z)) (fun y=>h.nr (y▸z)) (fun y z=>by cases z) e;obtain⟨dx,e⟩:=h.ob;obtain⟨wr,w1,w2,w3⟩:=h.w;refine⟨⟨dx,nl _ _ (fun z y=>by cases y) (fun z y=>by cases y) e⟩,⟨wr,mm _ _ (by simp) w1,w2,fun i w hw=>?_⟩,p,g,r,mm _ _ (by simp) h.d,h.dl,fun i l hl=>?_,h.np,h.ng,h.nr,h.pg,h.pr,h.gr⟩
 ·obtain⟨r,q1,q2⟩:=w3 i w hw;exact⟨r,q1,nl _ _ (fun z y=>by cases y) (fun z y=>by cases y) q2⟩
 ·obtain⟨a,q1,q2⟩:=h.dr i l hl;refine⟨a,q1,q2.keep fun b xs=>⟨fun z=>?_,nl b _ (fun z y=>by cases y) (fun z y=>by cases y)⟩⟩;subst z;exact mm _ _ (Zw _ (Zw _ (Zg q1)))
theorem SAt.mono{C:Addr}{H H':Hp}{s:Addr}{A:SA}{ws:List Way}{ds:List (List (Nat×Int))}{ps gs rs:List Int}(h:SAt C H s A ws ds ps gs rs)(k:aW H H'):SAt C H' s A ws ds ps gs rs :=
 h.into (fun b o _ _ _ _ e=>k b o e) (k _ _ h.p) (k _ _ h.g) (k _ _ h.r)
theorem SAt.way{C:Addr}{H:Hp}{s:Addr}{A:SA}{ws:List Way}{ds:List (List (Nat×Int))}{ps gs rs:List Int}(h:SAt C H s A ws ds ps gs rs){k:Nat}{w:Way}(hw:ws[k]?=some w):∃xs r,H A.w=some (.lst xs)∧atI xs (k:Int)=some (.ref r)∧H r=some (.tup (wv w)):=by
 obtain⟨wr,w1,w2,w3⟩:=h.w;obtain⟨r,q1,q2⟩:=w3 k w hw;exact⟨_,r,w1,c9 (by rw[Zk,q1];rfl),q2⟩
section
def A7(K:PySem.W.Frag):Sp:=fun vs H Q _=>∃(r pa:Addr) (w:Way) (ps:List Int),vs=[.ref r,.ref pa]∧SqT K H r (wv w)∧H pa=some (.lst (ps.map V.int))∧w.a<ps.length∧w.b<ps.length∧Q (.int (NM.rt ps w)) H
theorem BM(T:Txt K mg t):bQ P w K mg base CX0 1 t.yP t.yC ["way","prices"] (A7 K):=by
 refine T.BZ.F.ok PB (fun vs H Q E h=>?_) (fun cdv A outer s H vs Q E hr h=>?_)
 ·obtain⟨r,pa,w,ps,rfl,_⟩:=h;rfl
 obtain⟨r,pa,w,ps,rfl,hr1,hp,ha,hb,q⟩:=h;refine⟨_,(aK (bC (aX cV (aX iT (aM aU (pv 0) aH (fun _ _=>rfl)) (aM aV (pv 1) (aM aU (pv 0) aH (fun _ _=>rfl)) (fun _ _=>rfl))) (aM aV (pv 1) (aM aU (pv 0) aH (fun _ _=>rfl)) (fun _ _=>rfl))))),?_⟩;refine⟨_,rfl,(aG r _ _ _ rfl (aR rfl hr1 rfl _ rfl ⟨ _,rfl,(aG r _ _ _ rfl ⟨ rfl,hr1,rfl,(aG pa _ _ _ rfl ⟨ rfl,(bB (SqL.of hp) (dF ha rfl) _ _ rfl ⟨ rfl,?_⟩)⟩)⟩)⟩))⟩;exact⟨_,rfl,_,rfl,(aG r _ _ _ rfl ⟨ rfl,hr1,rfl,(aG pa _ _ _ rfl ⟨ rfl,(bB (SqL.of hp) (dF hb rfl) _ _ rfl ⟨ rfl,q⟩)⟩)⟩)⟩
structure SOk(n:Nat)(ws:List Way)(ds:List (List (Nat×Int)))(ps gs rs:List Int):Prop where
 pl:ps.length=n
 gl:gs.length=ws.length
 rl:rs.length=n
 w:∀w∈ws,w.a<n∧w.b<n
 d:GY ws n ds
def HD(C:Addr):Sp:=fun vs H Q _=>∃(s:Addr) (A:SA) (ws:List Way) (ds:List (List (Nat×Int))) (ps gs rs:List Int) (k:Nat) (by_:Int),vs=[.ref s,vn k,.int by_]∧SAt C H s A ws ds ps gs rs∧k<ws.length∧Q (vn (fr (aF ws) (bF ws) k by_)) H
theorem FX(T:Txt K mg t):bQ P w K mg base CX0 1 t.j3 t.jV ["search","number","by"] (HD t.a8):=by
 refine T.mE.F.ok C3 (fun vs H Q E h=>?_) (fun cdv A outer s H vs Q E hr h=>?_)
 ·obtain⟨s,A,ws,ds,ps,gs,rs,k,by_,rfl,_⟩:=h;rfl
 obtain⟨s',A',ws,ds,ps,gs,rs,k,by_,rfl,S,hk,q⟩:=h;refine⟨_,(aK (bC (aM aU (aM aV (eI (pv 0) rfl) (pv 1) (fun _ _=>rfl)) (nR (aZ zZ (pv 2) aH (bD _)) aH aH) (fun _ _=>rfl)))),?_⟩;obtain⟨dx,ob⟩:=S.ob;have hw:ws[k]?=some ws[k]:=Zz hk;obtain⟨xs,r,h1,h2,h3⟩:=S.way hw;refine⟨_,rfl,(aP s' _ dx _ _ (bG rfl ob T.bT T.iE (BX _ _ _ _ _) ⟨ _,rfl,(aG A'.w _ _ _ rfl (aR rfl (SqL.of h1) h2 _ rfl ⟨ _,(bW _ rfl rfl _ rfl ?_)⟩))⟩))⟩;unfold fr at q;rw[vK hw,yO hw]at q;refine eY (fun c=>?_) (fun c=>?_)
 ·rw[if_pos (of_decide_eq_true c)]at q;exact(aG r _ _ _ rfl ⟨ rfl,SqT.of h3,rfl,q⟩)
 ·rw[if_neg (fun z=>c (decide_eq_true z))]at q;exact(aG r _ _ _ rfl ⟨ rfl,SqT.of h3,rfl,q⟩)
def FC(C:Addr):Sp:=fun vs H Q _=>∃(s:Addr) (A:SA) (ws:List Way) (ds:List (List (Nat×Int))) (ps gs rs:List Int) (k:Nat) (by_:Int),vs=[.ref s,vn k,.int by_]∧SAt C H s A ws ds ps gs rs∧k<ws.length∧gs.length=ws.length∧Q (vo (rm ws gs k by_)) H
theorem HU(T:Txt K mg t):bQ P w K mg base CX0 1 t.CC t.B1 ["search","number","by"] (FC t.a8):=by
 refine T.GL.F.ok HI (fun vs H Q E h=>?_) (fun cdv A outer s H vs Q E hr h=>?_)
 ·obtain⟨s,A,ws,ds,ps,gs,rs,k,by_,rfl,_⟩:=h;rfl
 obtain⟨s',A',ws,ds,ps,gs,rs,k,by_,rfl,S,hk,hl,q⟩:=h;have nd:=HI.nd;refine⟨_,(aE (a7 3 nd (aM aV (eI (pv 0) rfl) (pv 1) (fun _ _=>rfl)))
  (aE (cC (aZ fS (pv 2) aH (bD _)) (aK (bC (aX iT (aM aV (eI (pv 0) rfl) (pv 1) (fun _ _=>rfl)) (aM aU (pv 3) aH (fun _ _=>rfl))))) bJ)
  (aE (cC (aZ nV (aM aU (pv 3) aH (fun _ _=>rfl)) eP (bD _)) (aK (bC eP)) bJ)
  (aK (bC (aX iT (aM aU (pv 3) aH (fun _ _=>rfl)) (aM aV (eI (pv 0) rfl) (pv 1) (fun _ _=>rfl)))))))),?_⟩
 obtain⟨dx,ob⟩:=S.ob;have hw:ws[k]?=some ws[k]:=Zz hk;obtain⟨xs,r,h1,h2,h3⟩:=S.way hw;unfold rm at q;rw[F9 hw,BW hw]at q;have e2:atI (wv ws[k]) 3=some (vo ws[k].hi):=rfl;refine⟨_,rfl,(aP s' _ dx _ _ (bG rfl ob T.bT T.iE (BX _ _ _ _ _) ⟨ _,rfl,(aG A'.w _ _ _ rfl ⟨ rfl,SqL.of h1,h2,?_⟩)⟩))⟩;refine(aN _ rfl _ _ rfl ⟨ rfl,_,rfl,eY (fun c=>?_) (fun c=>?_)⟩)
 ·rw[if_pos (of_decide_eq_true c)]at q;exact⟨_,rfl,(aP s' _ dx _ _ (bG rfl ob T.bT T.eJ (sM _ _ _ _ _) ⟨ _,rfl,(aG A'.g _ _ _ rfl (aR rfl (SqL.of S.g) (dF (by lia) rfl) _ rfl (aG r _ _ _ rfl ⟨ rfl,(bB (SqT.of h3) rfl _ _ rfl ⟨ rfl,q⟩)⟩)))⟩))⟩
 ·rw[if_neg (fun z=>c (decide_eq_true z))]at q;refine⟨_,rfl,(aG r _ _ _ rfl ⟨ rfl,SqT.of h3,e2,rfl,?_⟩)⟩;rcases hh:ws[k].hi with _ | h
  ·rw[hh]at q;exact⟨_,rfl,gO q⟩
  ·rw[hh]at q e2;exact⟨_,rfl,dX ⟨_,rfl,(aG r _ _ _ rfl (aR rfl (SqT.of h3) e2 _ rfl (aP s' _ dx _ _ (bG rfl ob T.bT T.eJ (sM _ _ _ _ _) ⟨ _,rfl,(aG A'.g _ _ _ rfl ⟨ rfl,(bB (SqL.of S.g) (dF (by lia) rfl) _ _ rfl ⟨ rfl,q⟩)⟩)⟩))))⟩⟩
end
end K33
namespace K33
open PySem L2 PyProof.Rows NM FL
def kl(e:En):List Int:=[e.d,(e.v:Int),(e.k:Int),e.by_]
abbrev ev(e:En):List V:=(kl e).map V.int
abbrev wr(W:List (Addr×En)):List V:=W.map fun x=>V.ref x.1
def kvR(R:List (Addr×En)):List (Key×V):=R.map fun x=>(Sum.inl (x.2.v:Int),V.ref x.1)
abbrev es(R:List (Addr×En)):List En:=R.map (·.2)
theorem JO{R:List (Addr×En)}{v:Nat}(h:∀x∈R,x.2.v≠v):gC (kvR R) (Sum.inl (v:Int))=none:=by
 induction R with
 |nil=>rfl
 |cons x R ih =>
  show gC ((Sum.inl (x.2.v:Int),V.ref x.1)::kvR R) _=none;rw[eG (fun z=>h x (.head _) (by have:=Sum.inl.inj z;lia))];exact ih fun y hy=>h y (.tail _ hy)
theorem tJ{R:List (Addr×En)}(nd:((es R).map (·.v)).Nodup){x:Addr×En}(hx:x∈R){v:Int}(hv:v=(x.2.v:Int)):gC (kvR R) (Sum.inl v)=some (.ref x.1):=by
 subst hv;induction R with
 |nil=>cases hx
 |cons y R ih =>
  show gC ((Sum.inl (y.2.v:Int),V.ref y.1)::kvR R) _=_;have nd:(y.2.v::(es R).map (·.v)).Nodup:=nd;rw[List.nodup_cons]at nd;rcases Zn.mp hx with rfl | hx
  ·exact eU rfl
  ·rw[eG (fun z=>nd.1 ?_)]
   ·exact ih nd.2 hx
   ·have:y.2.v=x.2.v:=by have:=Sum.inl.inj z;lia
    rw[this];exact Zh.mpr ⟨x.2,Zh.mpr ⟨x,hx,rfl⟩,rfl⟩
theorem LX{R:List (Addr×En)}{v:Nat}(h:(gC (kvR R) (Sum.inl (v:Int))).isSome=true):∃x∈R,x.2.v=v:=by
 apply ZS;intro z;rw[JO fun x hx e=>z ⟨x,hx,e⟩]at h;cases h
theorem DN(R:List (Addr×En)):(kvR R).map (·.1)=((es R).map fun e=>(e.v:Int)).map Sum.inl:=by
 unfold kvR;rw[Yh,Yh,Yh];rfl
section
def Q5:Sp:=fun vs H Q _=>∃(wl ta:Addr) (W:List (Addr×En)) (e:En),vs=[.ref wl,.ref ta]∧H wl=some (.lst (wr W))∧(∀x∈W,H x.1=some (.tup (ev x.2)))∧H ta=some (.tup (ev e))∧Dn (W.map fun x=>kl x.2)∧W.length<1000000 ∧
 ∀W':List (Addr×En),W'.Perm ((ta,e)::W)→Dn (W'.map fun x=>kl x.2)→Q .non (upd H wl (.lst (wr W')))
theorem SJ(T:Txt K mg t):bQ P w K mg base CX0 1 t.yQ t.yE ["waiting","entry"] Q5:=by
 refine T.DY.F.ok zN (fun vs H Q E h=>?_) (fun cdv A outer s H vs Q E hr h=>?_)
 ·obtain⟨wl,ta,W,e,rfl,_⟩:=h;rfl
 obtain⟨wl,ta,W,e,rfl,hW,hT,hta,dn,hl,q⟩:=h;have nd:=zN.nd;refine⟨_,(aE (a7 2 nd aH)
  (aE (a7 3 nd (aT aO rfl T.cP PySem.boot_len (aA (pv 0) aC)))
  (aE (iN PassesOwn.never (aZ fS (pv 2) (pv 3) (bD _)) (aE (a7 4 nd (aX eQ (aX cV (pv 2) (pv 3)) aH))
  (aK (cC (aZ (SF hr.units0) (aM aV (pv 0) (pv 4) (fun _ _=>rfl)) (pv 1) (bD _)) (aK (a7 2 nd (aX cV (pv 4) aH))) (aK (a7 3 nd (pv 4)))))))
  (aK (bN (nS PySem.F.plainAttrs_list PySem.F.slot_list_insert PySem.F.type_list_insert kY (pv 0) (aA (pv 2) (aA (pv 1) aC)))))))),?_⟩
 refine(aN _ rfl wl _ rfl ⟨ .inl (SqL.of hW),?_⟩);have el:(((wr W).length:Nat):Int)=(W.length:Int):=by rw[Zq]
 show jN 3 (V.int (((wr W).length:Nat):Int)) _ _ _;rw[el];have up0:∀(j:Nat) x,j<0→(W.map fun x=>kl x.2)[j]?=some x→SO.lx (kl e) x=true:=fun j x z=>absurd z (Nat.not_lt_zero _);have dn0:∀(j:Nat) x,W.length≤j→(W.map fun x=>kl x.2)[j]?=some x→SO.lx (kl e) x=false:=fun j x z y=>by
  rw[Zr (by rw[Zq];exact z)]at y;cases y
 refine⟨fun m σ H'=>H'=H∧∃(f b:Nat) (fi bi:Int) (o:Option V),m=b-f∧fi=f∧bi=b∧f≤b∧b≤W.length∧(∀(j:Nat) x,j<f→(W.map fun x=>kl x.2)[j]?=some x→SO.lx (kl e) x=true) ∧
  (∀(j:Nat) x,b≤j→(W.map fun x=>kl x.2)[j]?=some x→SO.lx (kl e) x=false)∧σ=[some (.ref wl),some (.ref ta),some (.int fi),some (.int bi),o],⟨_,rfl,(aP 0 W.length _ _ none (bG rfl rfl rfl (Nat.zero_le _) (Nat.le_refl _) ⟨ up0,dn0,rfl⟩))⟩,?_⟩
 rintro m σ H' ⟨rfl,f,b,fi,bi,o,rfl,rfl,rfl,hfb,hb,hup,hdn,rfl⟩;refine⟨_,rfl,(aN _ rfl _ _ rfl ⟨ rfl,_,rfl,eY (fun c=>?_) (fun c=>?_)⟩)⟩
 ·have c':(f:Int)<(b:Int):=of_decide_eq_true c;refine⟨_,fun σ' H'' h=>h,?_⟩;have hm:(f+b) / 2<W.length:=by lia
  have gm:W[(f+b) / 2]?=some W[(f+b) / 2]:=Zz hm;have gk:(W.map fun x=>kl x.2)[(f+b) / 2]?=some (kl W[(f+b) / 2].2):=by rw[Zk,gm];rfl
  have ei:((f:Int)+(b:Int)) / 2=(((f+b) / 2:Nat):Int):=by lia
  refine⟨_,rfl,(aN _ rfl _ _ rfl (cM rfl _ _ rfl rfl ⟨ ⟨by decide,by decide⟩,?_⟩))⟩;refine⟨_,rfl,_,rfl,(aG wl _ _ _ rfl (aR rfl (SqL.of hW) (by rw[ei];exact c9 (by rw[Zk,gm];rfl)) _ rfl (aG _ ta (kl W[(f+b) / 2].2) (kl e) rfl (aR rfl (SqT.of (hT _ (Zp _))) (SqT.of hta) _ rfl ?_))))⟩;refine eY (fun z=>?_) (fun z=>?_)
  ·exact(aN _ rfl _ _ rfl ⟨ rfl,b-((f+b) / 2+1),by omega,rfl,(aP ((f+b) / 2+1) b _ _ _ (bG rfl (by lia) rfl (by lia) hb ⟨ QF dn gk z,hdn,rfl⟩))⟩)
  ·exact(cG _ rfl ((f+b) / 2-f) (by lia) rfl (aP f ((f+b) / 2) _ _ _ (bG rfl rfl ei (by lia) (by lia) ⟨ hup,QG dn gk (by simpa using z),rfl⟩)))
 ·have c':¬(f:Int)<(b:Int):=fun z=>c (decide_eq_true z);have e':f=b:=by lia
  subst e';refine(bW _ rfl (.inl ⟨rfl,_,SqL.of hW⟩) _ rfl ⟨ _,rfl,(aG wl (wr W) f (.ref ta) rfl ⟨ rfl,hW,by rw[Zq];exact hb,by rw[Zq];exact Yt hl (by decide),?_⟩)⟩);have q':=q (W.take f++(ta,e)::W.drop f) (by
   have p1:(W.take f++(ta,e)::W.drop f).Perm ((ta,e)::(W.take f++W.drop f)):=List.perm_middle
   rwa [List.take_append_drop]at p1) (by
   rw[Zt,List.map_cons,List.map_take,List.map_drop];exact R3 dn (by rw[Zq];exact hb) hup hdn)
  have ew:wr (W.take f++(ta,e)::W.drop f)=bM (wr W) f (.ref ta):=by
   unfold bM wr;rw[Zt,List.map_cons,List.map_take,List.map_drop]
  rw[ew]at q';exact q'
theorem KJ{E:List En}{x:En}(nd:((E++[x]).map (·.v)).Nodup)(D:Int)(v:Nat):lift (E++[x]) D v=if v=x.v then D-x.d else lift E D v:=by
 by_cases z:v=x.v
 ·rw[if_pos z,z,kD nd (by simp)]
 ·rw[if_neg z];unfold lift;rw[List.find?_append];have:[x].find? (fun u=>u.v==v)=none:=List.find?_eq_none.mpr fun u hu y=>by
   have:u=x:=by simpa using hu
   subst this;exact z (eq_of_beq y).symm
  rw[this,Option.or_none]
def G8(C:Addr):Sp:=fun vs H Q _=>∃(s d:Addr) (A:SA) (ws:List Way) (ds:List (List (Nat×Int))) (ps gs rs:List Int) (R:List (Addr×En)) (x:Addr×En),vs=[.ref s,.ref d,vn x.2.v]∧SAt C H s A ws ds ps gs rs∧H d=some (.dK (kvR R))∧(∀y∈R,H y.1=some (.tup (ev y.2))∧y.2.v<ps.length)∧((es R).map (·.v)).Nodup∧x∈R ∧
 ∀(H':Hp) (ps':List Int),(∀b o,b≠A.p→b≠d→H b=some o→H' b=some o)→H' A.p=some (.lst (ps'.map V.int))→Rd H' d (.dK (kvR R))→ps'.length=ps.length→(∀v,at0 ps' v=at0 ps v+lift (es R) x.2.d v)→Q .non H'
theorem NF(T:Txt K mg t):bQ P w K mg base CX0 1 t.jY t.jT ["search","reached","last"] (G8 t.a8):=by
 refine T.oM.F.ok mJ (fun vs H Q E h=>?_) (fun cdv A outer s H vs Q E hr h=>?_)
 ·obtain⟨s,d,A,ws,ds,ps,gs,rs,R,x,rfl,_⟩:=h;rfl
 obtain⟨s',d,A',ws,ds,ps,gs,rs,R,x,rfl,S,hd,hR,ndp,hx,q⟩:=h;have nd:=mJ.nd;have hu:=II hr;refine⟨_,(aK (cY PassesOwn.never rfl (M4 (pv 1)) (dU rfl (aY (aQ (i:=3) nd rfl (Or.inl rfl)) (aY (aQ (i:=4) nd rfl (Or.inl rfl)) cH))) (aK (l0 (eI (pv 0) rfl) (pv 3) jM (aX iT (aM aU (vX hu (pv 1) (pv 2) (fun _ _=>rfl)) aH (fun _ _=>rfl)) (aM aU (pv 4) aH (fun _ _=>rfl))) xV set_list)))),?_⟩;refine(aN _ rfl d _ rfl ⟨ hd,fun o=>?_⟩);obtain⟨dx,ob⟩:=S.ob;have npd:A'.p≠d:=dB S.p hd (by intro z;cases z);refine KY (fun i σ H'=>(∀b o,b≠A'.p→b≠d→H b=some o→H' b=some o)∧H' d=some (.frz o (.dK (kvR R)))∧(∃ps':List Int,H' A'.p=some (.lst (ps'.map V.int))∧ps'.length=ps.length∧∀v,at0 ps' v=at0 ps v+lift ((es R).take i) x.2.d v)∧∃o3 o4:Option V,σ=[some (.ref s'),some (.ref d),some (vn x.2.v),o3,o4])
  ⟨fun b o' _ h2 h=>by rw[aL h2];exact h,aB,⟨ps,by rw[aL npd];exact S.p,rfl,fun v=>by rw[List.take_zero];show _=_+(0:Int);lia⟩,_,_,rfl⟩ (fun i σ H' _ h=>h.2.1) ?_ ?_
 ·rintro i p σ H' Tp hp ⟨k1,kd,⟨ps',e1,l1,a1⟩,o3,o4,rfl⟩ hTp;unfold kvR at hp;rw[Zk]at hp;obtain⟨y,hy,rfl⟩:=Xz.mp hp;have my:=Zg hy;have gT:=aI hTp (.tup [kV (Sum.inl (y.2.v:Int)),.ref y.1]);have ny:∀z∈R,z.1≠A'.p∧z.1≠d:=fun z hz=>⟨dB (hR z hz).1 S.p (by intro z;cases z),dB (hR z hz).1 hd (by intro z;cases z)⟩
  have tup:∀z∈R,(upd H' Tp (.tup [kV (Sum.inl (y.2.v:Int)),.ref y.1])) z.1=some (.tup (ev z.2)):=fun z hz=>gT _ _ (k1 _ _ (ny z hz).1 (ny z hz).2 (hR z hz).1);have ob':=gT _ _ (k1 _ _ (dB ob S.p (by intro z;cases z)) (dB ob hd (by intro z;cases z)) ob);have hv:=(hR y my).2;refine(bH Tp _ rfl (SqT.of aB) rfl ⟨ _,(aN _ rfl _ _ rfl ⟨ rfl,?_⟩)⟩);refine⟨_,rfl,(aP s' _ dx _ _ (bG rfl ob' T.bT T.fP (tZ _ _ _ _ _) ⟨ _,rfl,(aG A'.p _ _ _ rfl ⟨ rfl,SqL.of (gT _ _ e1),(by show 0≤(y.2.v:Int);lia),dF (j:=y.2.v) (by lia) rfl,?_⟩)⟩))⟩;refine⟨_,rfl,(aN _ rfl d _ rfl ⟨ (by have:=qY.r (H:=upd H' Tp (.tup [kV (Sum.inl (y.2.v:Int)),.ref y.1])) (a:=d) (kvs:=kvR R) (k:=Sum.inl (x.2.v:Int)) (.inr ⟨o,gT _ _ kd⟩);rw[tJ ndp hx rfl]at this;exact this),(aG x.1 _ _ _ rfl ⟨ rfl,SqT.of (tup x hx),rfl,?_⟩)⟩)⟩;refine⟨_,rfl,(aG y.1 _ _ _ rfl ⟨ rfl,(bB (SqT.of (tup y my)) rfl _ _ rfl (cM rfl _ _ rfl rfl (aG A'.p _ _ y.2.v rfl ⟨ rfl,gT _ _ e1,jL (by rw[Zq];lia) rfl,?_⟩)))⟩)⟩;have e2:=gT _ _ e1;refine⟨fun b o' h1 h2 h=>by rw[aL h1];exact gT _ _ (k1 b o' h1 h2 h),by rw[aL npd.symm];exact gT _ _ kd,⟨ps'.set y.2.v (at0 ps' y.2.v+(x.2.d-y.2.d)),by rw[aB,List.map_set],by rw[List.length_set];exact l1,fun v=>?_⟩,_,_,rfl⟩;have ey:(es R)[i]?=some y.2:=by rw[Zk,hy];rfl
  obtain⟨hi,ei⟩:=Zj.mp ey;have tk:(es R).take (i+1)=(es R).take i++[y.2]:=by rw[List.take_succ,ey];rfl
  have ndt:(((es R).take i++[y.2]).map (·.v)).Nodup:=by
   rw[←tk,List.map_take];exact(List.take_sublist _ _).nodup ndp
  rw[tk,KJ ndt,sV (by lia)];by_cases z:v=y.2.v
  ·subst z;rw[if_pos rfl,if_pos rfl,a1];have:lift ((es R).take i) x.2.d y.2.v=0:=xP (fun u hu e=>by
    rw[Zt,List.nodup_append]at ndt;exact ndt.2.2 u.v (Zh.mpr ⟨u,hu,rfl⟩) y.2.v (by simp) e) _
   lia
  ·rw[if_neg z,if_neg z];exact a1 v
 ·rintro σ H' ⟨k1,kd,⟨ps',e1,l1,a1⟩,o3,o4,rfl⟩;have ek:(kvR R).length=(es R).length:=by unfold kvR;rw[Zq,Zq]
  rw[ek,Yv]at a1;exact q H' ps' k1 e1 (.inr ⟨o,kd⟩) l1 a1
end
end K33
namespace K33
open PySem L2 PyProof.Rows NM FL
theorem sU{xs:List V}{x:V}(h:xs.getLast?=some x):atI xs (-1)=some x:=by
 have hn:xs≠[]:=fun z=>by rw[z]at h;cases h
 have hl:0<xs.length:=List.length_pos_iff.mpr hn;rw[List.getLast?_eq_getElem?]at h;unfold atI ixN;rw[if_neg (by lia),if_pos (by lia)];show xs[((-1:Int)+(xs.length:Int)).toNat]?=_;rw[show((-1:Int)+(xs.length:Int)).toNat=xs.length-1 by lia];exact h
theorem IK(a b:Nat→Nat)(k:Nat){by_:Int}(h:by_=1∨by_ = -1):fr a b k (-by_)=sd a b k by_:=by
 rcases h with rfl | rfl<;>rfl
theorem uQ(x:Int)(q:Nat×Int):∀(bs:List (Nat×Int)) (g:Nat→Int) (j:Nat),e9 g x (bs++[q]) j=e9 g x bs j+if j=q.1 then q.2*x else 0
 |[],g,j=>rfl
 |p::bs,g,j=>uQ x q bs _ j
theorem y4.mono{H H':Hp}{a:Addr}{l:List (Nat×Int)}(h:y4 H a l)(g:aW H H'):y4 H' a l:=h.keep fun b xs=>⟨fun _=>g _ _,g _ _⟩
section
def ME(C:Addr):Sp:=fun vs H Q _=>∃(s d:Addr) (A:SA) (ws:List Way) (ds:List (List (Nat×Int))) (ps gs rs:List Int) (R:List (Addr×En)) (x:Addr×En) (i c:Nat) (bs:List (Nat×Int)),vs=[.ref s,.ref d,vn x.2.v]∧SAt C H s A ws ds ps gs rs∧Rd H d (.dK (kvR R))∧(∀y∈R,H y.1=some (.tup (ev y.2)))∧((es R).map (·.v)).Nodup∧R[i]?=some x∧Back (sd (aF ws) (bF ws)) (es R) i bs c ∧
 (∀q∈bs,q.1<ws.length∧(q.2=1∨q.2 = -1))∧bs.length≤1000∧∀(l:Addr) (H':Hp),H l=none→aW H H'→y4 H' l bs→Q (.ref l) H'
theorem P5(T:Txt K mg t)(j5:bQ P w K mg base CX0 1 t.j3 t.jV ["search","number","by"] (HD t.a8)):bQ P w K mg base CX0 2 t.uD t.uB ["search","reached","last"] (ME t.a8):=by
 refine T.AH.F.ok wJ (fun vs H Q E h=>?_) (fun cdv A outer s H vs Q E hr h=>?_)
 ·obtain⟨s,d,A,ws,ds,ps,gs,rs,R,x,i,c,bs,rfl,_⟩:=h;rfl
 obtain⟨s',d,A',ws,ds,ps,gs,rs,R,x,i,c,bs,rfl,S,hd,hR,ndp,hi,hB,hbs,hbl,q⟩:=h;have nd:=wJ.nd;have hu:=II hr;refine⟨_,(aE (a7 3 nd (bS aC))
  (aE (a7 4 nd (vX hu (pv 1) (pv 2) (fun _ _=>rfl)))
  (aE (iN PassesOwn.never (aZ xD (aM aU (pv 4) aH (fun _ _=>rfl)) aH (bD _)) (aE (bN (kO mAp cD (pv 3) (aA (bX (aA (aM aU (pv 4) aH (fun _ _=>rfl)) (aA (aM aU (pv 4) aH (fun _ _=>rfl)) aC))) aC)))
  (aK (a7 4 nd (vX hu (pv 1) (bR j5 hr T.mE bE (aA (pv 0) (aA (aM aU (pv 4) aH (fun _ _=>rfl)) (aA (mO iS (aM aU (pv 4) aH (fun _ _=>rfl))) aC)))) (fun _ _=>rfl))))))
  (aK (bC (pv 3)))))),?_⟩
 refine⟨(by show 0≤ZW;decide),fun l hl=>?_⟩;have g1:=aI hl (.lst []);have rd:∀{H':Hp},aW H H'→Rd H' d (.dK (kvR R)):=fun {H'} g=>hd.imp (g _ _) fun ⟨o,z⟩=>⟨o,g _ _ z⟩
 have dg:∀{H':Hp}{y:Addr×En}{v:Int},aW H H'→y∈R→v=(y.2.v:Int)→qY H' d (.int v) (some (.ref y.1)):=fun {H' y v} g hy hv=>by
  have:=qY.r (k:=Sum.inl v) (rd g);rw[tJ ndp hy hv]at this;exact this
 have mx:=Zg hi;refine⟨_,rfl,(aN _ rfl d _ rfl ⟨ dg g1 mx rfl,?_⟩)⟩;refine⟨fun m σ H'=>∃(j:Nat) (y:Addr×En) (b1 b2:List (Nat×Int)),m=b2.length∧R[j]?=some y∧Back (sd (aF ws) (bF ws)) (es R) j b2 c∧bs=b1++b2∧aW H H'∧y4 H' l b1∧σ=[some (.ref s'),some (.ref d),some (vn x.2.v),some (.ref l),some (.ref y.1)],
  (aP _ i x ([]) bs (bG rfl hi hB rfl g1 ⟨ ⟨[],aB,rfl,fun j q hq=>by simp at hq⟩,rfl⟩)),?_⟩
 rintro m σ H' ⟨j,y,b1,b2,rfl,hj,hB',rfl,g2,dr,rfl⟩;have my:=Zg hj;have ey:(es R)[j]?=some y.2:=by rw[Zk,hj];rfl
 have ty:=g2 _ _ (hR y my);refine⟨_,rfl,(aG y.1 _ _ _ rfl ⟨ rfl,(aR (SqT.of ty) rfl rfl _ rfl ?_)⟩)⟩;cases hB' with
 |stop g hb =>
  rw[ey]at g;cases g;refine U6 (by rw[hb]) ⟨_,rfl,?_⟩;rw[List.append_nil]at q;exact q l H' hl g2 dr
 |@step _ j' _ e u b2' g hb hj' gu uv hB'' =>
  rw[ey]at g;cases g;obtain⟨y',hy',eu⟩:=Xz.mp (show(R[j']?).map (·.2)=some u by rw[←Zk];exact gu);have my':=Zg hy';obtain⟨hk,h1⟩:=hbs (y.2.k,y.2.by_) (by simp);refine eV (by rw[decide_eq_false (fun z=>hb (V.int.inj z))];rfl) ⟨_,fun σ' H'' h=>h,?_⟩;obtain⟨rs',d1,d2,d3⟩:=dr;refine(bW _ rfl (.inl ⟨rfl,_,SqL.of d1⟩) _ rfl (aG y.1 _ _ _ rfl (aR rfl (SqT.of ty) rfl _ rfl (aG y.1 _ _ _ rfl ⟨ rfl,SqT.of ty,rfl,(by show 2≤ZW;decide),fun Tq hTq=>?_⟩))));have g3:=aI hTq (.tup [vn y.2.k,.int y.2.by_]);have hlen:(rs'.map V.ref).length<ZW:=by
   rw[Zq,d2];rw[Zm,Yq]at hbl;exact Yt (by lia:b1.length<1000) (by decide)
  refine(bV l _ _ rfl rfl ⟨ g3 _ _ d1,hlen,?_⟩);have nlT:Tq≠l:=(aJ d1 hTq).symm;have g4:aW H (upd (upd H' Tq (.tup [vn y.2.k,.int y.2.by_])) l (.lst (rs'.map V.ref++[.ref Tq]))):=fun b o h=>by rw[aL (aJ h hl)];exact g3 _ _ (g2 _ _ h)
  have ntl:∀{r:Addr}{xs:List V},H' r=some (.tup xs)→r≠l:=fun h=>dB h d1 (by intro z;cases z);have ty4:=g4 _ _ (hR y my);refine⟨_,(bO rfl _ rfl _ rfl (aG y.1 _ _ _ rfl (aR rfl (SqT.of ty4) rfl _ rfl (aG y.1 _ _ _ rfl (aR rfl (SqT.of ty4) rfl _ rfl (aP s' A' ws ds ps (aG gs rs y.2.k (-y.2.by_) rfl ⟨ S.mono g4,hk,?_⟩)))))))⟩;refine⟨d,_,rfl,dg g4 my' (by rw[IK _ _ _ h1,←uv,eu]),?_⟩;refine⟨b2'.length,by rw[Yq];lia,(aG j' y' (b1++[(y.2.k,y.2.by_)]) b2' rfl (bG hy' hB'' (by rw[Yb];rfl) g4 ⟨rs'++[Tq],by rw[aB,Zt];rfl,by rw[Zm,Zm,d2];rfl,fun i' q' hq'=>?_⟩ rfl))⟩;rcases Xq i' b1.length with z | z
  ·rw[Zx z]at hq';obtain⟨r,r1,r2⟩:=d3 i' q' hq';exact⟨r,by rw[Zx (by lia)];exact r1,by rw[aL (ntl r2)];exact g3 _ _ r2⟩
  ·rw[Zy z]at hq';have z0:i' - b1.length=0:=by
    have:=(Zj.mp hq').1;simp at this
    lia
   rw[z0]at hq';cases hq';exact⟨Tq,by rw[Zy (by lia),d2,z0];rfl,by rw[aL nlT];exact aB⟩
def MC(C:Addr):Sp:=fun vs H Q _=>∃(s l:Addr) (A:SA) (ws:List Way) (ds:List (List (Nat×Int))) (ps gs rs:List Int) (bs:List (Nat×Int)) (ql:Nat×Int) (last:Nat),vs=[.ref s,.ref l,vn last]∧SAt C H s A ws ds ps gs rs∧y4 H l bs∧l≠A.g∧l≠A.r∧bs.getLast?=some ql∧bs.length≤1000 ∧
 (∀q∈bs,q.1<ws.length∧(q.2=1∨q.2 = -1))∧gs.length=ws.length∧sd (aF ws) (bF ws) ql.1 ql.2<rs.length∧last<rs.length ∧
 ∀(x:Int) (H':Hp) (gs' rs':List Int),x≤at0 rs (sd (aF ws) (bF ws) ql.1 ql.2)→x≤- at0 rs last→(∀q∈bs,∀r,rm ws gs q.1 q.2=some r→x≤r)→(x=at0 rs (sd (aF ws) (bF ws) ql.1 ql.2)∨x = - at0 rs last∨∃q∈bs,rm ws gs q.1 q.2=some x) →
  (∀b o,b≠A.g→b≠A.r→H b=some o→H' b=some o)→H' A.g=some (.lst (gs'.map V.int))→gs'.length=gs.length→(∀k,at0 gs' k=e9 (at0 gs) x bs k)→H' A.r=some (.lst (rs'.map V.int))→rs'.length=rs.length →
  (∀v,at0 rs' v=at0 rs v-(if sd (aF ws) (bF ws) ql.1 ql.2=v then x else 0)+(if last=v then x else 0))→Q .non H'
theorem P3(T:Txt K mg t)(j5:bQ P w K mg base CX0 1 t.j3 t.jV ["search","number","by"] (HD t.a8))(GV:bQ P w K mg base CX0 1 t.CC t.B1 ["search","number","by"] (FC t.a8)):bQ P w K mg base CX0 2 t.GU t.GR ["search","path","last"] (MC t.a8):=by
 refine T.N6.F.ok HJ (fun vs H Q E h=>?_) (fun cdv A outer s H vs Q E hr h=>?_)
 ·obtain⟨s,l,A,ws,ds,ps,gs,rs,bs,ql,last,rfl,_⟩:=h;rfl
 obtain⟨s',l,A',ws,ds,ps,gs,rs,bs,ql,last,rfl,S,dr,nlg,nlr,hql,hbl,hbs,hgl,hc,hla,q⟩:=h;have nd:=HJ.nd;have nd_most:(["most"]:List Str).Nodup:=by decide
 have nd_number_by_search:(["number","by","search"]:List Str).Nodup:=by decide
 refine⟨_,(aE (a7 3 nd (bR j5 hr T.mE bE (aA (pv 0) (aA (aM aU (aM aV (pv 1) (mO iS aH) (fun _ _=>rfl)) aH (fun _ _=>rfl)) (aA (mO iS (aM aU (aM aV (pv 1) (mO iS aH) (fun _ _=>rfl)) aH (fun _ _=>rfl))) aC)))))
  (aE (cN (i:=4) nd rfl (Or.inl rfl)  (N':=["number","by","search"]) (js:=[none,none,some 0]) rfl (cK (pv 1)) (fun _ _ _ _ _=>(mD (K:=K) (n:=2) rfl rfl (aY (aQ (i:=0) nd_number_by_search rfl (Or.inl rfl)) (aY (aQ (i:=1) nd_number_by_search rfl (Or.inl rfl)) cH)))) (fun _ _ _ _ _=>dN) (fun _ _ _ _ _=>(bR GV hr T.GL bE (aA (pv 2) (aA (pv 0) (aA (pv 1) aC))))))
  (aE (cN (i:=5) nd rfl (Or.inl rfl)  (N':=["most"]) (js:=[none]) rfl (cK (pv 4)) (fun _ _ _ _ _=>(aQ (i:=0) nd_most rfl (Or.inl rfl))) (fun _ _ _ _ _=>(BL (aZ HS (pv 0) eP (bD _)))) (fun _ _ _ _ _=>(pv 0)))
  (aE (a7 6 nd (aT (K9 rfl) rfl T.LK boot_min (aA (aX tW (bS (aA (aM aV (eI (pv 0) rfl) (pv 3) (fun _ _=>rfl)) (aA (mO iS (aM aV (eI (pv 0) rfl) (pv 2) (fun _ _=>rfl))) aC))) (pv 5)) aC)))
  (aE (cY PassesOwn.never rfl (cK (pv 1)) (dU rfl (aY (aQ (i:=7) nd rfl (Or.inl rfl)) (aY (aQ (i:=8) nd rfl (Or.inl rfl)) cH))) (aK (l0 (eI (pv 0) rfl) (pv 7) jM (aX dW (pv 8) (pv 6)) xV set_list)))
  (aE (l0 (eI (pv 0) rfl) (pv 3) jM (pv 6) NX set_list)
  (aK (l0 (eI (pv 0) rfl) (pv 2) jM (pv 6) xV set_list)))))))),?_⟩
 obtain⟨lr,d1,d2,d3⟩:=id dr;obtain⟨dx,ob⟩:=S.ob;have mq:=List.mem_of_getLast? hql;obtain⟨r0,q1,q2⟩:∃r,(lr.map V.ref).getLast?=some (.ref r)∧H r=some (.tup [vn ql.1,.int ql.2]):=by
  rw[List.getLast?_eq_getElem?]at hql;obtain⟨r,e1,e2⟩:=d3 _ _ hql;refine⟨r,?_,e2⟩;rw[List.getLast?_eq_getElem?,Zq,Zk,d2,e1];rfl
 obtain⟨hk0,h10⟩:=hbs ql mq;refine⟨_,(bO rfl _ rfl _ rfl (aG l _ _ _ rfl ⟨ rfl,SqL.of d1,sU q1,(aG r0 _ _ _ rfl (aR rfl (SqT.of q2) rfl _ rfl ⟨ _,rfl,(aG l _ _ _ rfl ⟨ rfl,SqL.of d1,sU q1,(aG r0 _ _ _ rfl (aR rfl (SqT.of q2) rfl _ rfl (aP s' A' ws ds ps (aG gs rs ql.1 (-ql.2) rfl ⟨ S,hk0,?_⟩))))⟩)⟩))⟩))⟩;rw[IK _ _ _ h10];generalize hC:sd (aF ws) (bF ws) ql.1 ql.2=c at hc q;refine(cG _ rfl l rfl ⟨_,SqL.of d1⟩ (fun D hD=>?_));have at_:∀{i:Nat},i<bs.length→∃r,(lr.map V.ref)[i]?=some (.ref r)∧H r=some (.tup [vn (bs.getD i (0,0)).1,.int (bs.getD i (0,0)).2])∧bs.getD i (0,0)∈bs:=fun {i} hi=>by
  obtain⟨r,e1,e2⟩:=d3 i bs[i] (Zz hi);have e3:bs.getD i (0,0)=bs[i]:=by simp[List.getD,hi]
  rw[e3];exact⟨r,by rw[Zk,e1];rfl,e2,Zp hi⟩
 refine fG bs.length (fun i=>vo (rm ws gs (bs.getD i (0,0)).1 (bs.getD i (0,0)).2)) hD (by lia) (fun i H' hi g=>by obtain⟨r,e1,_⟩:=at_ hi;exact⟨_,_,SqL.of (g _ _ d1),e1⟩) (fun H' g=>⟨_,SqL.of (g _ _ d1),by rw[Zq];lia⟩) ?_ ?_
 ·rintro i H' x H'' k hi g ⟨rfl,hx⟩ hk;obtain⟨r,e1,e2,e3⟩:=at_ hi;have ex:=hx _ (SqL.of (g _ _ d1));rw[e1]at ex;cases ex;refine(bH r _ rfl (SqT.of (g _ _ e2)) rfl ⟨ _,(aN _ rfl _ _ rfl ⟨ rfl,((Fills.refl _).set _ rfl).set _ rfl,?_⟩)⟩);exact⟨_,(bO rfl _ rfl _ rfl (aP s' A' ws ds ps (aG gs rs _ _ rfl ⟨ S.mono g,(hbs _ e3).1,hgl,hk _ (aW.refl _)⟩)))⟩
 intro H1 g1 eD;obtain⟨rl,hrl⟩:∃rl:List (Option Int),rl=(List.range bs.length).map fun i=>rm ws gs (bs.getD i (0,0)).1 (bs.getD i (0,0)).2:=⟨_,rfl⟩
 have erl:(List.range bs.length).map (fun i=>vo (rm ws gs (bs.getD i (0,0)).1 (bs.getD i (0,0)).2))=vos rl:=by rw[hrl];unfold vos;rw[Yh];rfl
 rw[erl]at eD;have lrl:rl.length=bs.length:=by rw[hrl];simp
 refine(cG _ rfl D rfl ⟨_,SqL.of eD⟩ (fun D2 hD2=>?_));refine sS rl.length (fun i ys H'=>ys=((rl.take i).filterMap id).map V.int∧aW H1 H'∧H' D2=some (.lst ys)) ⟨rfl,aI hD2 _,aB⟩ ?_ ?_
 ·rintro i ys H' hi ⟨rfl,g2,e2⟩;have tk:(rl.take (i+1)).filterMap id=(rl.take i).filterMap id++([ov rl i]).filterMap id:=by
   rw[List.take_succ,List.filterMap_append];congr 1;unfold ov;simp[List.getD,hi]
  refine⟨⟨_,_,SqL.of (g2 _ _ eD),OH hi⟩,?_⟩;rintro x H'' ⟨rfl,hx⟩;have ex:=hx _ (SqL.of (g2 _ _ eD));rw[OH hi]at ex;cases ex;refine⟨(Fills.refl _).set _ rfl,?_⟩;refine(bW _ rfl rfl _ rfl ?_);have hlen:(((rl.take i).filterMap id).map V.int).length<ZW:=by
   rw[Zq];have:=List.length_filterMap_le id (rl.take i);rw[Yw]at this;exact Yt (by lia:((rl.take i).filterMap id).length<1001) (by decide)
  rcases ho:ov rl i with _ | z
  ·refine dX ⟨?_,g2,e2⟩;rw[tk,ho];simp
  ·refine gO (eB _ rfl e2 hlen ?_ ⟨ ?_,aB⟩)
   ·rw[tk,ho];simp;rfl
   ·exact fun b o h=>by rw[aL (aJ h hD2)];exact g2 _ _ h
 rintro ys H2 ⟨rfl,g2,e2⟩;rw[Yv]at e2;refine⟨⟨_,SqL.of (g2 _ _ eD),by unfold vos;rw[Zq];exact Nat.le_refl _⟩,?_⟩;have g02:=g1.trans g2;have ob2:=g02 _ _ ob;have hr2:=g02 _ _ S.r;refine⟨_,rfl,(aP s' _ dx _ _ (bG rfl ob2 T.bT T.cL (fB _ _ _ _ _) ⟨ _,rfl,(aG A'.r _ _ _ rfl ⟨ rfl,SqL.of hr2,dF hc rfl,?_⟩)⟩))⟩;refine⟨_,rfl,(aP s' _ dx _ _ (bG rfl ob2 T.bT T.cL (fB _ _ _ _ _) ⟨ _,rfl,(aG A'.r _ _ _ rfl (aR rfl (SqL.of hr2) (dF hla rfl) _ rfl ⟨ (by show 2≤ZW;decide),fun l2 hl2=>?_⟩))⟩))⟩;have g3:=aI hl2 (.lst [.int (at0 rs c),.int (-at0 rs last)]);have lb:(rl.filterMap id).length≤1000:=by
  have:=List.length_filterMap_le id rl
  lia
 refine⟨_,rfl,(aG l2 D2 _ _ rfl ⟨ rfl,aB,g3 _ _ e2,?_,fun l3 hl3=>?_⟩)⟩
 ·rw[Zq];exact Yr (show 2+(rl.filterMap id).length≤1002 by lia) (by decide)
 have g4:=aI hl3 (.lst ([.int (at0 rs c),.int (-at0 rs last)]++(rl.filterMap id).map V.int));refine(bH l3 (at0 rs c::-at0 rs last::rl.filterMap id) rfl (SqL.of aB) (by simp) (fun x hx hle=>?_));have g04:=g02.trans (g3.trans g4);have mrl:∀r,some r∈rl↔∃q∈bs,rm ws gs q.1 q.2=some r:=fun r=>by
  rw[hrl,Zh];constructor
  ·rintro⟨i,hi,e⟩;obtain⟨_,_,_,e3⟩:=at_ (Zs.mp hi);exact⟨_,e3,e⟩
  ·rintro⟨q',hq',e⟩;obtain⟨i,hi,rfl⟩:=Yy.mp hq';exact⟨i,Zs.mpr hi,by rw[←e];simp[List.getD,hi]⟩
 have mfm:∀r,r∈rl.filterMap id↔∃q∈bs,rm ws gs q.1 q.2=some r:=fun r=>by
  rw[←mrl,List.mem_filterMap];constructor
  ·rintro⟨o,h1,h2⟩;exact h2▸h1
  ·intro h;exact⟨_,h,rfl⟩
 have x1:x≤at0 rs c:=hle _ (by simp);have x2:x≤- at0 rs last:=hle _ (by simp);have x3:∀q∈bs,∀r,rm ws gs q.1 q.2=some r→x≤r:=fun q' hq' r e=>hle _ (by simp only[Zn];exact .inr (.inr ((mfm r).mpr ⟨q',hq',e⟩)));have x4:x=at0 rs c∨x = - at0 rs last∨∃q∈bs,rm ws gs q.1 q.2=some x:=by
  simp only[Zn]at hx;exact hx.imp id fun z=>z.imp id fun z=>(mfm x).mp z
 generalize upd (upd H2 l2 (.lst [.int (at0 rs c),.int (-at0 rs last)])) l3 (.lst ([.int (at0 rs c),.int (-at0 rs last)]++(rl.filterMap id).map V.int))=H4 at g04;refine(cG _ rfl l rfl ⟨_,SqL.of (g04 _ _ d1)⟩ (fA (xs:=lr.map V.ref) (fun i σ H'=>(∀b o,b≠A'.g→H b=some o→H' b=some o)∧(∃gs':List Int,H' A'.g=some (.lst (gs'.map V.int))∧gs'.length=gs.length∧∀k,at0 gs' k=e9 (at0 gs) x (bs.take i) k) ∧
  ∃o7 o8:Option V,σ=[some (.ref s'),some (.ref l),some (vn last),some (vn c),some (.ref D),some (.ref D2),some (.int x),o7,o8]) ⟨fun b o _ h=>g04 _ _ h,⟨gs,g04 _ _ S.g,rfl,fun k=>rfl⟩,_,_,rfl⟩ (fun i σ H' _ h=>SqL.of (h.1 _ _ nlg d1)) ?_ ?_))
 ·rintro i y σ H' hy ⟨k1,⟨gs',e1,l1,a1⟩,o7,o8,rfl⟩;have hi:i<bs.length:=by
   have:=(Zj.mp hy).1;rw[Zq,d2]at this;exact this
  obtain⟨r,f1,f2,f3⟩:=at_ hi;rw[f1]at hy;cases hy;have f4:=k1 _ _ (dB f2 S.g (by intro z;cases z)) f2;obtain⟨b1,b2⟩:=hbs _ f3;have ob':=k1 _ _ (dB ob S.g (by intro z;cases z)) ob;refine(bH r _ rfl (SqT.of f4) rfl ⟨ _,(aN _ rfl _ _ rfl ⟨ rfl,?_⟩)⟩);refine⟨_,rfl,(aP s' _ dx _ _ (bG rfl ob' T.bT T.eJ (sM _ _ _ _ _) ⟨ _,rfl,(aG A'.g _ _ _ rfl ⟨ rfl,SqL.of e1,(by show 0≤((bs.getD i (0,0)).1:Int);lia),dF (j:=(bs.getD i (0,0)).1) (by lia) rfl,?_⟩)⟩))⟩;refine⟨_,rfl,(aN _ rfl _ _ rfl (bB rfl (.inl (by rcases b2 with z | z<;>rw[z]<;>exact⟨by decide,by decide⟩)) _ _ rfl ⟨ rfl,(aG A'.g _ _ ((bs.getD i (0,0)).1) rfl ⟨ rfl,e1,jL (by rw[Zq];lia) rfl,?_⟩)⟩))⟩;refine⟨fun b o h1 h=>by rw[aL h1];exact k1 b o h1 h,⟨gs'.set (bs.getD i (0,0)).1 (at0 gs' (bs.getD i (0,0)).1+(bs.getD i (0,0)).2*x),by rw[aB,List.map_set],by rw[List.length_set];exact l1,fun k=>?_⟩,_,_,rfl⟩;have tk:bs.take (i+1)=bs.take i++[bs.getD i (0,0)]:=by
   rw[List.take_succ];congr 1;simp[List.getD,hi]
  rw[tk,uQ,sV (by lia)];by_cases z:k=(bs.getD i (0,0)).1
  ·rw[if_pos z,if_pos z,←z,a1]
  ·rw[if_neg z,if_neg z,a1];lia
 rintro σ H5 ⟨k1,⟨gs',e5,l5,a5⟩,o7,o8,rfl⟩;rw[Zq,d2,Yv]at a5;have ob5:=k1 _ _ (dB ob S.g (by intro z;cases z)) ob;have r5:=k1 _ _ S.gr.symm S.r;refine⟨_,rfl,(aP s' _ dx _ _ (bG rfl ob5 T.bT T.cL (fB _ _ _ _ _) ⟨ _,rfl,(aG A'.r _ _ _ rfl ⟨ rfl,(aR (SqL.of r5) (by show 0≤(c:Int);lia) (dF (j:=c) hc rfl) _ rfl ⟨ _,_,rfl,rfl,(aG A'.r _ _ c rfl ⟨ rfl,r5,jL (by rw[Zq];lia) rfl,?_⟩)⟩)⟩)⟩))⟩;rw[show(rs.map V.int).set c (V.int (at0 rs c-x))=(rs.set c (at0 rs c-x)).map V.int by rw[List.map_set]];have ob6:(upd H5 A'.r (.lst ((rs.set c (at0 rs c-x)).map V.int))) s'=_:=(aL (dB ob5 r5 (by intro z;cases z))).trans ob5;refine⟨_,rfl,(aP s' _ dx _ _ (bG rfl ob6 T.bT T.cL (fB _ _ _ _ _) ⟨ _,rfl,(aG A'.r _ _ _ rfl ⟨ rfl,(aR (SqL.of aB) (by show 0≤(last:Int);lia) (dF (j:=last) (by rw[List.length_set];exact hla) rfl) _ rfl ⟨ _,_,rfl,rfl,(aG A'.r _ _ last rfl ⟨ rfl,aB,jL (by rw[Zq,List.length_set];lia) rfl,?_⟩)⟩)⟩)⟩))⟩;refine q x _ gs' (step rs ⟨c,last,0,none,0⟩ x) x1 x2 x3 x4 (fun b o h1 h2 h=>by rw[aL h2,aL h2];exact k1 b o h1 h) ?_ l5 a5 ?_ (CN _ _ _) fun v=>EO (w:=⟨c,last,0,none,0⟩) hc hla v
 ·rw[aL S.gr,aL S.gr];exact e5
 ·rw[aB];unfold NM.step;simp only[List.map_set]
end
end K33
namespace K33
open PySem L2 PyProof.Rows NM FL
structure LS(H0 H:Hp)(wl na rd:Addr)(W R:List (Addr×En))(nr:Nat→Option Int)(c:Nat):Prop where
 g:aW H0 H
 w:H wl=some (.lst (wr W))
 wt:∀x∈W,H x.1=some (.tup (ev x.2))
 dn:Dn (W.map fun x=>kl x.2)
 r:H rd=some (.dK (kvR R))
 rt:∀x∈R,H x.1=some (.tup (ev x.2))
 q:∃kvs,H na=some (.dK kvs)∧(∀v:Nat,gC kvs (Sum.inl (v:Int))=(nr v).map V.int)∧kvs.length≤c
 wb:W.length≤64+c
 nwl:H0 wl=none
 nna:H0 na=none
 nrd:H0 rd=none
 ne:na≠rd
section
variable{H0 H H':Hp}{wl na rd:Addr}{W R:List (Addr×En)}{nr:Nat→Option Int}{c:Nat}
theorem LS.mono(h:LS H0 H wl na rd W R nr c)(k:aW H H'):LS H0 H' wl na rd W R nr c:=by
 obtain⟨kvs,q1,q2⟩:=h.q;exact⟨h.g.trans k,k _ _ h.w,fun x hx=>k _ _ (h.wt x hx),h.dn,k _ _ h.r,fun x hx=>k _ _ (h.rt x hx),⟨kvs,k _ _ q1,q2⟩,h.wb,h.nwl,h.nna,h.nrd,h.ne⟩
theorem LS.more(h:LS H0 H wl na rd W R nr c){c':Nat}(k:c≤c'):LS H0 H wl na rd W R nr c':=by
 obtain⟨kvs,q1,q2,q3⟩:=h.q;have:=h.wb;exact⟨h.g,h.w,h.wt,h.dn,h.r,h.rt,⟨kvs,q1,q2,by lia⟩,by lia,h.nwl,h.nna,h.nrd,h.ne⟩
theorem LS.setw(h:LS H0 H wl na rd W R nr c){W':List (Addr×En)}(wt:∀x∈W',H x.1=some (.tup (ev x.2)))(dn:Dn (W'.map fun x=>kl x.2))(wb:W'.length≤64+c):LS H0 (upd H wl (.lst (wr W'))) wl na rd W' R nr c:=by
 obtain⟨kvs,q1,q2⟩:=h.q;have k:∀b o,(∀z,o≠.lst z)→H b=some o→upd H wl (.lst (wr W')) b=some o:=fun b o z e=>by rw[aL (dB e h.w (fun y=>z _ y))];exact e
 exact⟨fun b o e=>by rw[aL (aJ e h.nwl)];exact h.g _ _ e,aB,fun x hx=>k _ _ (fun z y=>by cases y) (wt x hx),dn,k _ _ (fun z y=>by cases y) h.r,fun x hx=>k _ _ (fun z y=>by cases y) (h.rt x hx),⟨kvs,k _ _ (fun z y=>by cases y) q1,q2⟩,wb,h.nwl,h.nna,h.nrd,h.ne⟩
theorem LS.setr(h:LS H0 H wl na rd W R nr c){x:Addr×En}(hx:H x.1=some (.tup (ev x.2))):LS H0 (upd H rd (.dK (kvR (R++[x])))) wl na rd W (R++[x]) nr c:=by
 obtain⟨kvs,q1,q2⟩:=h.q;have k:∀b o,(∀z,o≠.dK z)→H b=some o→upd H rd (.dK (kvR (R++[x]))) b=some o:=fun b o z e=>by rw[aL (dB e h.r (fun y=>z _ y))];exact e
 exact⟨fun b o e=>by rw[aL (aJ e h.nrd)];exact h.g _ _ e,k _ _ (fun z y=>by cases y) h.w,fun x hx=>k _ _ (fun z y=>by cases y) (h.wt x hx),h.dn,aB,fun y hy=>k _ _ (fun z y=>by cases y) ((Zf.mp hy).elim (h.rt y) fun z=>by
  have:y=x:=by simpa using z
  rw[this];exact hx),⟨kvs,by rw[aL h.ne];exact q1,q2⟩,h.wb,h.nwl,h.nna,h.nrd,h.ne⟩
theorem LS.setq(h:LS H0 H wl na rd W R nr c){kvs:List (Key×V)}(e:H na=some (.dK kvs))(f:Nat)(x:Int):LS H0 (upd H na (.dK (putK kvs (Sum.inl (f:Int)) (.int x)))) wl na rd W R (fun v=>if v=f then some x else nr v) (c+1):=by
 obtain⟨kvs',q1,q2,q3⟩:=h.q;rw[e]at q1;cases q1;have k:∀b o,(∀z,o≠.dK z)→H b=some o→upd H na (.dK (putK kvs (Sum.inl (f:Int)) (.int x))) b=some o:=fun b o z e'=>by rw[aL (dB e' e (fun y=>z _ y))];exact e'
 have:=h.wb;refine⟨fun b o e'=>by rw[aL (aJ e' h.nna)];exact h.g _ _ e',k _ _ (fun z y=>by cases y) h.w,fun x hx=>k _ _ (fun z y=>by cases y) (h.wt x hx),h.dn,by rw[aL h.ne.symm];exact h.r,fun x hx=>k _ _ (fun z y=>by cases y) (h.rt x hx),⟨_,aB,fun v=>?_,Yr (nZ _ _ _) (by lia)⟩,by lia,h.nwl,h.nna,h.nrd,h.ne⟩;rw[LW];by_cases z:v=f
 ·subst z;rw[if_pos rfl,if_pos rfl];rfl
 ·rw[if_neg (fun y=>z (by have:=Sum.inl.inj y;lia)),if_neg z];exact q2 v
end
def GQ(B:List (Addr×En))(a:Addr):En:=match B.find? fun x=>x.1==a with
 |some x=>x.2
 |none=>⟨0,0,0,0⟩
theorem IU{B:List (Addr×En)}{a:Addr}(h:a∈B.map (·.1)):(a,GQ B a)∈B:=by
 unfold GQ;cases e:B.find? (fun x=>x.1==a) with
 |none =>
  obtain⟨x,hx,rfl⟩:=Zh.mp h;exact absurd (by simp) (List.find?_eq_none.mp e x hx)
 |some x =>
  have h1:=List.find?_some e;have h2:=List.mem_of_find?_eq_some e;have h3:x.1=a:=eq_of_beq h1;subst h3;exact h2
theorem TF{e u:En}(h:ev e=ev u):kl e=kl u:=by
 have:∀(a b:List Int),a.map V.int=b.map V.int→a=b:=by
  intro a;induction a with
  |nil=>intro b h;cases b with
   |nil=>rfl
   |cons _ _=>cases h
  |cons x a ih=>intro b h;cases b with
   |nil=>cases h
   |cons y b =>
    rw[List.map_cons,List.map_cons]at h;obtain⟨h1,h2⟩:=List.cons.inj h;rw[V.int.inj h1,ih b h2]
 exact this _ _ h
section
def G7(C:Addr):Sp:=fun vs H Q _=>∃(s:Addr) (A:SA) (ws:List Way) (ds:List (List (Nat×Int))) (ps gs rs:List Int) (n:Nat),vs=[.ref s]∧SAt C H s A ws ds ps gs rs∧SOk n ws ds ps gs rs∧n<64∧ws.length≤1000∧iR ws.length (aF ws) (bF ws) (loF ws) (hiF ws) (coF ws) (at0 gs) (at0 ps) ∧
 ∀(d:Addr) (H':Hp) (R:List (Addr×En)),H d=none→aW H H'→H' d=some (.dK (kvR R))→(∀y∈R,H' y.1=some (.tup (ev y.2)))→Out (at0 rs) (sd (aF ws) (bF ws)) (fr (aF ws) (bF ws)) (ln (aF ws) (bF ws) (coF ws) (at0 ps)) (opn ws.length (loF ws) (hiF ws) (at0 gs)) n (es R)→Q (.ref d) H'
theorem ND(T:Txt K mg t)(yY:bQ P w K mg base CX0 1 t.yP t.yC ["way","prices"] (A7 K))(j5:bQ P w K mg base CX0 1 t.j3 t.jV ["search","number","by"] (HD t.a8))(GV:bQ P w K mg base CX0 1 t.CC t.B1 ["search","number","by"] (FC t.a8))
  (ON:bQ P w K mg base CX0 1 t.yQ t.yE ["waiting","entry"] Q5):bQ P w K mg base CX0 2 t.CF t.B3 ["search"] (G7 t.a8):=by
 refine T.IQ.F.ok CV (fun vs H Q E h=>?_) (fun cdv A outer s H vs Q E hr h=>?_)
 ·obtain⟨s,A,ws,ds,ps,gs,rs,n,rfl,_⟩:=h;rfl
 obtain⟨s',A',ws,ds,ps,gs,rs,n,rfl,S,O,hn,hm,sr,q⟩:=h;have nd:=CV.nd;have hu:=II hr;have nd_knot_rest:(["knot","rest"]:List Str).Nodup:=by decide
 refine⟨_,(aE (cN (i:=1) nd rfl (Or.inl rfl)  (N':=["knot","rest"]) (js:=[none,none]) rfl (fN rfl T.dA (aA (eI (pv 0) rfl) aC)) (fun _ _ _ _ _=>(mD (K:=K) (n:=2) rfl rfl (aY (aQ (i:=0) nd_knot_rest rfl (Or.inl rfl)) (aY (aQ (i:=1) nd_knot_rest rfl (Or.inl rfl)) cH)))) (fun _ _ _ _ _=>(BL (aZ zZ (pv 1) aH (bD _)))) (fun _ _ _ _ _=>(bX (aA aH (aA (pv 0) (aA aH (aA aH aC)))))))
  (aE (a7 2 nd (J7 zC rfl T.qZ boot_sorted (aA (pv 1) aC) (PV pT R9)))
  (aE (a7 3 nd xC)
  (aE (a7 4 nd xC)
  (aE (iN PassesOwn.never (cQ (pv 2) (fun _=>rfl)) (aE (a7 5 nd (FT PySem.F.plainAttrs_list PySem.F.slot_list_pop PySem.F.type_list_pop F3 (pv 2)))
  (aE (a7 6 nd (aM aU (pv 5) aH (fun _ _=>rfl)))
  (aK (cC (R4 (zY hu (pv 6) (pv 4))) (aE (BK hu (pv 4) (pv 6) (pv 5) rfl)
  (aE (cC (aZ fS (aM aV (eI (pv 0) rfl) (pv 6) (fun _ _=>rfl)) aH (bD _)) (aK (bC (pv 4))) bJ)
  (aK (cY PassesOwn.never rfl (cK (aM aV (eI (pv 0) rfl) (pv 6) (fun _ _=>rfl))) (dU rfl (aY (aQ (i:=7) nd rfl (Or.inl rfl)) (aY (aQ (i:=8) nd rfl (Or.inl rfl)) cH))) (aE (a7 9 nd (aX cV (aM aU (pv 5) aH (fun _ _=>rfl)) (aX dW (pv 8) (bR yY hr T.BZ bE (aA (aM aV (eI (pv 0) rfl) (pv 7) (fun _ _=>rfl)) (aA (eI (pv 0) rfl) aC))))))
  (aE (a7 10 nd (bR j5 hr T.mE bE (aA (pv 0) (aA (pv 7) (aA (pv 8) aC)))))
  (aE (a7 11 nd (UX (SD (zY hu (pv 10) (pv 3))) (FS (iY fS (pv 9) (vX hu (pv 3) (pv 10) (fun _ _=>rfl)) (bD _)))))
  (aK (cC (PW.pt (gS (cQ (pv 11) (fun _=>rfl)) (gG (aZ xD (bR GV hr T.GL bE (aA (pv 0) (aA (pv 7) (aA (pv 8) aC)))) aH (bD _))))) (aE (BK hu (pv 3) (pv 10) (pv 9) rfl)
  (aK (bN (bR ON hr T.DY bE (aA (pv 2) (aA (bX (aA (pv 9) (aA (pv 10) (aA (pv 7) (aA (pv 8) aC))))) aC)))))) bJ))))))))) bJ)))))
  (aK (bC (pv 4)))))))),?_⟩
 obtain⟨dx,ob⟩:=S.ob;have hrl:=O.rl;refine⟨_,rfl,(aP s' _ dx _ _ (bG rfl ob T.bT T.cL (fB _ _ _ _ _) ⟨ A'.r,rfl,⟨_,SqL.of S.r⟩,fun D hD=>?_⟩))⟩;refine sS n (fun i ys H'=>∃B:List (Addr×En),ys=wr B∧(∀x∈B,H' x.1=some (.tup (ev x.2))∧A4 (at0 rs) x.2∧x.2.v<n)∧(∀v,v<i→0<at0 rs v→∃x∈B,x.2.v=v)∧aW H H'∧H' D=some (.lst ys)∧B.length≤i)
  (eB ([]) rfl (fun x hx=>(by cases hx)) (fun v hv=>absurd hv (Nat.not_lt_zero _)) (aI hD _) ⟨ aB,Nat.le_refl _⟩) ?_ ?_
 ·rintro i ys H' hi ⟨B,rfl,hB,hv,g1,eD,bl⟩;refine⟨⟨_,_,SqL.of (g1 _ _ S.r),gM (by lia)⟩,?_⟩;rintro x H'' ⟨Tp,x',rfl,hTp,rfl,hx⟩;have ex:=hx _ (SqL.of (g1 _ _ S.r));rw[gM (by lia)]at ex;cases ex;have g2:=aI hTp (.tup [.int (i:Int),.int (at0 rs i)]);refine(bH Tp _ rfl (SqT.of aB) rfl ⟨ _,(aN _ rfl _ _ rfl ⟨ rfl,((Fills.refl _).set _ rfl).set _ rfl,?_⟩)⟩);refine(aN _ rfl _ _ rfl ⟨ rfl,_,rfl,eY (fun c=>?_) (fun c=>?_)⟩)
  ·have c':0<at0 rs i:=of_decide_eq_true c;refine⟨_,rfl,(by show 4≤ZW;decide),fun T2 hT2=>?_⟩;have g3:=g2.trans (aI hT2 (.tup [.int 0,.int (i:Int),.int 0,.int 0]));refine(E5 (g3 _ _ eD) (by rw[Zq];exact Ys bl (Yt (by lia:i<64) (by decide))) (B++[(T2,⟨0,i,0,0⟩)]) (by unfold wr;rw[Zt];rfl) (fun x hx=>?_) ⟨ fun v hv' hp=>?_,fun b o h=>by rw[aL (aJ h hD)];exact g3 _ _ (g1 _ _ h),aB,by rw[Zm];exact Nat.succ_le_succ bl⟩)
   ·rcases Zf.mp hx with hx | hx
    ·obtain⟨h1,h2⟩:=hB x hx;exact⟨by rw[aL (dB (g3 _ _ h1) (g3 _ _ eD) (by intro z;cases z))];exact g3 _ _ h1,h2⟩
    ·have:x=(T2,⟨0,i,0,0⟩):=by simpa using hx
     subst this;refine⟨?_,⟨rfl,rfl,c'⟩,hi⟩;rw[aL (aJ (g2 _ _ eD) hT2).symm];exact aB
   ·by_cases z:v=i
    ·subst z;exact⟨_,List.mem_append_right _ (.head _),rfl⟩
    ·obtain⟨x,h1,h2⟩:=hv v (by lia) hp;exact⟨x,List.mem_append_left _ h1,h2⟩
  ·have c':¬0<at0 rs i:=fun z=>c (decide_eq_true z);refine(eB B rfl (fun x hx=>⟨g2 _ _ (hB x hx).1,(hB x hx).2⟩) (fun v hv' hp=>?_) (g1.trans g2) ⟨ g2 _ _ eD,by lia⟩);by_cases z:v=i
   ·subst z;exact absurd hp c'
   ·exact hv v (by lia) hp
 rintro ys H1 ⟨B,rfl,hB,hv,g1,eD,bl⟩;refine⟨⟨_,SqL.of (g1 _ _ S.r),by rw[Zq];lia⟩,?_⟩;refine⟨_,(cU rfl D (B.map (·.1)) (fun a=>kl (GQ B a)) rfl ⟨ rfl,(by unfold wr at eD;rw[Yh];exact SqL.of eD),fun a ha=>⟨by unfold kl;simp,SqT.of (hB _ (IU ha)).1⟩,by rw[Zq];lia,fun wl ps' hwl hp hs=>?_⟩)⟩;have inB:∀a∈ps',(a,GQ B a)∈B:=fun a ha=>IU (hp.mem_iff.mp ha);intro na hna rd hrd;obtain⟨W0,hW0⟩:∃W0:List (Addr×En),W0=ps'.map fun a=>(a,GQ B a):=⟨_,rfl⟩
 have ew:ps'.map V.ref=wr W0:=by rw[hW0];unfold wr;rw[Yh];rfl
 have mW:∀x∈W0,x∈B:=fun x hx=>by
  rw[hW0]at hx;obtain⟨a,ha,rfl⟩:=Zh.mp hx;exact inB a ha
 have h1wl:H wl=none:=g1.free hwl;have k1:=aI hwl (.lst (ps'.map V.ref));have k2:=aI hna (.dK []);have k3:=aI hrd (.dK []);have gg:=g1.trans (k1.trans (k2.trans k3));have nne:na≠rd:=fun z=>by rw[z,aB]at hrd;cases hrd
 have ls:LS H (upd (upd (upd H1 wl (.lst (ps'.map V.ref))) na (.dK [])) rd (.dK [])) wl na rd W0 [] (fun _=>none) 0:=by
  refine⟨gg,?_,fun x hx=>(k1.trans (k2.trans k3)) _ _ (hB x (mW x hx)).1,?_,aB,fun x hx=>(by cases hx),⟨[],k3 _ _ aB,fun v=>rfl,Nat.le_refl _⟩,?_,h1wl,(g1.trans k1).free hna,(g1.trans (k1.trans k2)).free hrd,nne⟩
  ·rw[←ew];exact(k2.trans k3) _ _ aB
  ·unfold Dn;rw[hW0,Yh,List.pairwise_map];exact hs
  ·rw[hW0,Zq,hp.length_eq,Zq];lia
 have rch0:Rch (at0 rs) (sd (aF ws) (bF ws)) (fr (aF ws) (bF ws)) (ln (aF ws) (bF ws) (coF ws) (at0 ps)) (opn ws.length (loF ws) (hiF ws) (at0 gs)) n (fun _ _=>False) (es []) (es W0) (fun _=>none):=by
  refine Rch.start (fun e he=>?_) (fun v hv' hp'=>?_)
  ·obtain⟨x,hx,rfl⟩:=Zh.mp he;exact(hB x (mW x hx)).2
  ·obtain⟨x,h1,h2⟩:=hv v hv' hp';have mx:x.1∈ps':=hp.mem_iff.mpr (Zh.mpr ⟨x,h1,rfl⟩);refine⟨GQ B x.1,Zh.mpr ⟨(x.1,GQ B x.1),by rw[hW0];exact Zh.mpr ⟨_,mx,rfl⟩,rfl⟩,?_⟩;have t1:=(hB _ (inB x.1 mx)).1;rw[(hB x h1).1]at t1;have t2:=TF (HO.tup.inj (Option.some.inj t1));unfold kl at t2;simp only[List.cons.injEq]at t2;have:=t2.2.1
   lia
 clear hv hB bl eD inB mW hp hs ew;generalize upd (upd (upd H1 wl (.lst (ps'.map V.ref))) na (.dK [])) rd (.dK [])=H2 at ls;clear k3 hrd k2 hna k1 hwl gg;refine⟨fun m σ H'=>∃(W R:List (Addr×En)) (nr:Nat→Option Int),m=(n-R.length)*(2*ws.length+1)+W.length∧LS H H' wl na rd W R nr (R.length*(2*ws.length)) ∧
  Rch (at0 rs) (sd (aF ws) (bF ws)) (fr (aF ws) (bF ws)) (ln (aF ws) (bF ws) (coF ws) (at0 ps)) (opn ws.length (loF ws) (hiF ws) (at0 gs)) n (fun k b=>∃u∈R,∃l,ds[u.2.v]?=some l∧(k,b)∈l) (es R) (es W) nr∧(∀u∈R,0≤at0 rs u.2.v) ∧
  ∃o5 o6 o7 o8 o9 o10 o11:Option V,σ=[some (.ref s'),some (.ref D),some (.ref wl),some (.ref na),some (.ref rd),o5,o6,o7,o8,o9,o10,o11],
  (aG _ W0 ([]) _ rfl ⟨ (by show LS _ _ _ _ _ _ _ _ (0*_);rw[Nat.zero_mul];exact ls),rch0.pass (k:=0) (by_:=0) (fun z=>absurd z.2 (by rintro(⟨z,_⟩ | ⟨z,_⟩)<;>cases z)) (fun k b z=>by obtain⟨u,hu',_⟩:=z;cases hu'),fun u hu'=>(by cases hu'),(aP _ _ _ _ _ ⟨ _,_,rfl⟩)⟩),?_⟩
 clear ls rch0 hW0;rintro m σ H' ⟨W,R,nr,rfl,L,rc,nn,o5,o6,o7,o8,o9,o10,o11,rfl⟩;have all:∀k b,opn ws.length (loF ws) (hiF ws) (at0 gs) k b→(∃u∈es R,u.v=sd (aF ws) (bF ws) k b)→∃u∈R,∃l,ds[u.2.v]?=some l∧(k,b)∈l:=fun k b o z=>by
  obtain⟨u,hu',uv⟩:=z;obtain⟨x,hx,rfl⟩:=Zh.mp hu';have hvn:x.2.v<ds.length:=by rw[O.d.len];exact rc.lt _ (List.mem_append_left _ hu')
  refine⟨x,hx,ds[x.2.v],Zz hvn,O.d.has o.1 (iZ o) ?_⟩;rw[←uv];exact Zz hvn
 refine⟨_,rfl,_,.inl ⟨_,SqL.of L.w,rfl⟩,?_⟩;rcases List.eq_nil_or_concat W with hW | ⟨W',x,hW⟩
 ·
  subst hW;refine dX ⟨_,rfl,q rd H' R L.nrd L.g L.r L.rt (.inr ⟨nr,_,rc,all,fun u hu'=>?_⟩)⟩;obtain⟨y,hy,rfl⟩:=Zh.mp hu';exact nn y hy
 rw[List.concat_eq_append]at hW;subst hW;refine eV (by unfold wr;simp) ⟨_,fun σ' H'' h=>h,?_⟩;have hlast:(wr (W'++[x]))[(wr (W'++[x])).length-1]?=some (.ref x.1):=by unfold wr;simp
 have hdrop:(wr (W'++[x])).dropLast=wr W':=by unfold wr;simp
 have mx:x∈W'++[x]:=by simp
 refine⟨_,rfl,(cU (.inl ⟨rfl,_,SqL.of L.w⟩) wl _ _ rfl ⟨ rfl,L.w,hlast,?_⟩)⟩;rw[hdrop];have hwb:=L.wb;rw[Zm,ZQ]at hwb;have dn':Dn (W'.map fun x=>kl x.2):=by
  have:=L.dn;unfold Dn at this;rw[Zt]at this;exact(List.pairwise_append.mp this).1
 have L1:=L.setw (W':=W') (fun y hy=>L.wt y (List.mem_append_left _ hy)) dn' (by lia);have tx:(upd H' wl (.lst (wr W'))) x.1=some (.tup (ev x.2)):=by rw[aL (dB (L.wt x mx) L.w (by intro z;cases z))];exact L.wt x mx
 generalize upd H' wl (.lst (wr W'))=H3 at L1 tx;have pW:(es (W'++[x])).Perm (x.2::es W'):=by
  unfold es;rw[Zt];exact List.perm_append_comm
 have hvn:x.2.v<n:=rc.lt _ (List.mem_append_right _ (Zh.mpr ⟨x,mx,rfl⟩));refine⟨_,rfl,(aG x.1 _ _ _ rfl ⟨ rfl,SqT.of tx,rfl,?_⟩)⟩;refine⟨_,rfl,(aN _ rfl rd _ rfl ⟨ qY.k (k:=Sum.inl (x.2.v:Int)) L1.r,_,rfl,?_⟩)⟩;cases hin:(gC (kvR R) (Sum.inl (x.2.v:Int))).isSome with
 |true =>
  obtain⟨y,hy,ey⟩:=LX hin;have rc':=rc.drop pW ⟨y.2,Zh.mpr ⟨y,hy,rfl⟩,ey⟩;refine dX ⟨_,(cU ?_ W' R nr rfl ⟨ L1,rc',nn,(aP _ _ _ _ _ ⟨ _,_,rfl⟩)⟩)⟩;rw[Zm,ZQ];lia
 |false =>
  have hno:gC (kvR R) (Sum.inl (x.2.v:Int))=none:=Option.isNone_iff_eq_none.mp (by rw[←Option.not_isSome,hin];rfl);have hne:∀u∈es R,u.v≠x.2.v:=fun u hu' e=>by
   obtain⟨y,hy,rfl⟩:=Zh.mp hu';have:=tJ rc.nd hy (v:=(x.2.v:Int)) (by lia);rw[hno]at this;cases this
  have least:∀y∈es W',x.2.d≤y.d:=fun y hy=>by
   obtain⟨z,hz,rfl⟩:=Zh.mp hy;have d0:=L.dn;rw[Zt]at d0;exact GC (w:=W'.map fun x=>kl x.2) (d:=x.2.d) (r:=[(x.2.v:Int),(x.2.k:Int),x.2.by_]) (d':=z.2.d) (r':=[(z.2.v:Int),(z.2.k:Int),z.2.by_]) d0 (Zh.mpr ⟨z,hz,rfl⟩)
  have rc':=rc.take pW least hne;have ees:es R++[x.2]=es (R++[x]):=by unfold es;rw[Zt];rfl
  have few:=rc'.few;rw[Zm,ZQ,Zq]at few;have ekv:putK (kvR R) (Sum.inl (x.2.v:Int)) (V.ref x.1)=kvR (R++[x]):=by rw[MY _ hno];unfold kvR;rw[Zt];rfl
  refine gO ⟨_,(bO rfl _ rfl _ rfl ⟨ rd,_,rfl,LI.k (k:=Sum.inl (x.2.v:Int)) L1.r (by unfold kvR;rw[Zq];exact Yt (by lia:R.length<64) (by decide)),?_⟩)⟩;rw[ekv];have L2':=L1.setr tx;have tx2:(upd H3 rd (.dK (kvR (R++[x])))) x.1=some (.tup (ev x.2)):=by rw[aL (dB tx L1.r (by intro z;cases z))];exact tx
  generalize upd H3 rd (.dK (kvR (R++[x])))=H4 at L2' tx2;have S4:=S.mono L2'.g;obtain⟨dx4,ob4⟩:=S4.ob;refine⟨_,rfl,(aP s' _ dx4 _ _ (bG rfl ob4 T.bT T.cL (fB _ _ _ _ _) ⟨ _,rfl,(aG A'.r _ _ _ rfl ⟨ rfl,(bB (SqL.of S4.r) (dF (j:=x.2.v) (by lia) rfl) _ _ rfl ⟨ rfl,_,rfl,eY (fun c=>?_) (fun c=>?_)⟩)⟩)⟩))⟩
  ·
   have c':at0 rs x.2.v<0:=of_decide_eq_true c;refine⟨_,rfl,q rd H4 (R++[x]) L2'.nrd L2'.g L2'.r L2'.rt (.inl (aP (es R) x.2 (es W') nr _ ⟨ ees.symm,?_,all,c'⟩))⟩;rw[←ees];exact rc'
  have c':¬at0 rs x.2.v<0:=fun z=>c (decide_eq_true z);rw[ees]at rc';have hds:x.2.v<ds.length:=by rw[O.d.len];exact hvn
  have hrow:=Zz hds;obtain⟨ra,ra1,lr,d1,d2,d3⟩:=S4.dr x.2.v _ hrow;generalize hrw:ds[x.2.v]=row at hrow d2 d3;have hfew:=O.d.few _ _ hrow;have top:∀y∈es (R++[x]),y.d≤x.2.d:=fun y hy=>by
   have u:=rc'.up;rw[←ees]at u hy;rcases Zf.mp hy with hy | hy
   ·exact(List.pairwise_append.mp u).2.2 y hy x.2 (.head _)
   ·have:y=x.2:=by simpa using hy
    rw[this];exact Int.le_refl _
  have mxe:x.2∈es (R++[x]):=Zh.mpr ⟨x,by simp,rfl⟩;refine⟨_,rfl,(aP s' _ dx4 _ _ (bG rfl ob4 T.bT T.nX (N4 _ _ _ _ _) ⟨ _,rfl,(aG A'.d _ _ _ rfl (aR rfl (SqL.of S4.d) (c9 (by rw[Zk,ra1];rfl)) ra rfl ⟨ ⟨_,SqL.of d1⟩,?_⟩))⟩))⟩;refine fA (xs:=lr.map V.ref) (fun i σ H5=>∃(Wi:List (Addr×En)) (nri:Nat→Option Int),aW H4 H4∧LS H H5 wl na rd Wi (R++[x]) nri (R.length*(2*ws.length)+i)∧Wi.length≤W'.length+i∧H5 ra=some (.lst (lr.map V.ref))∧(∀(j:Nat) q',row[j]?=some q'→∃r,lr[j]?=some r∧H5 r=some (.tup [vn q'.1,.int q'.2])) ∧
   Rch (at0 rs) (sd (aF ws) (bF ws)) (fr (aF ws) (bF ws)) (ln (aF ws) (bF ws) (coF ws) (at0 ps)) (opn ws.length (loF ws) (hiF ws) (at0 gs)) n (fun k b=>(∃u∈R,∃l,ds[u.2.v]?=some l∧(k,b)∈l)∨(k,b)∈row.take i) (es (R++[x])) (es Wi) nri ∧
   ∃o7 o8 o9 o10 o11:Option V,σ=[some (.ref s'),some (.ref D),some (.ref wl),some (.ref na),some (.ref rd),some (.ref x.1),some (vn x.2.v),o7,o8,o9,o10,o11])
   (bH W' nr (aW.refl _) L2' (Nat.le_refl _) ⟨ d1,d3,rc'.pass (k:=0) (by_:=0) (fun z=>absurd z.2 (by rintro(⟨z,_⟩ | ⟨z,_⟩)<;>cases z)) (fun k b z=>by
    rcases z with z | z
    ·exact .inl z
    ·rw[List.take_zero]at z;cases z),(aP _ _ _ _ _ rfl)⟩) (fun i σ H5 _ h=>by obtain⟨_,_,_,_,_,h,_⟩:=h;exact SqL.of h) ?_ ?_
  ·rintro i y σ H5 hy ⟨Wi,nri,_,Li,wi,e5,f5,rci,o7,o8,o9,o10,o11,rfl⟩;have hi:i<row.length:=by
    have:=(Zj.mp hy).1;rw[Zq,d2]at this;exact this
   have hq:=Zz hi;generalize hqq:row[i]=qd at hq;obtain⟨k,b⟩:=qd;obtain⟨r,f1,f2⟩:=f5 i _ hq;rw[Zk,f1]at hy;cases hy;obtain⟨hk,h1,hsd⟩:=O.d.src hrow (Zg hq);have hw:ws[k]?=some ws[k]:=Zz hk;have S5:=S.mono Li.g;obtain⟨dx5,ob5⟩:=S5.ob;obtain⟨wx,wr5,w1,w2,w3⟩:=S5.way hw;have hab:=O.w _ (Zp hk);have tx5:H5 x.1=some (.tup (ev x.2)):=Li.rt x (by simp);have pls:=O.pl;have hdst:fr (aF ws) (bF ws) k b<n:=by
    unfold fr;rw[vK hw,yO hw];split
    ·exact hab.2
    ·exact hab.1
   have elen:ln (aF ws) (bF ws) (coF ws) (at0 ps) k b=b*NM.rt ps ws[k]:=by unfold ln;rw[MT hw]
   refine(bH r _ rfl (SqT.of f2) rfl ⟨ _,(aN _ rfl _ _ rfl ⟨ rfl,?_⟩)⟩);refine⟨_,rfl,(aG x.1 _ _ _ rfl (aR rfl (SqT.of tx5) rfl _ rfl ⟨ _,rfl,(aP s' _ dx5 _ _ (bG rfl ob5 T.bT T.iE (BX _ _ _ _ _) ⟨ _,rfl,(aG A'.w _ _ _ rfl (aR rfl (SqL.of w1) w2 _ rfl (aP s' _ dx5 _ _ (bG rfl ob5 T.bT T.fP (tZ _ _ _ _ _) (aG wr5 A'.p (ws[k]) ps rfl ⟨ SqT.of w3,S5.p,(bB (by lia) (by lia) _ _ rfl (bB rfl (.inl (show(-(2 ^ 64):Int)<b∧b<2 ^ 64 by rcases h1 with z | z<;>rw[z]<;>exact⟨by decide,by decide⟩)) _ _ rfl ⟨ rfl,?_⟩))⟩)))))⟩))⟩))⟩;refine⟨_,(bO rfl _ rfl _ rfl (aP s' A' ws ds ps (aG gs rs k b rfl ⟨ S5,hk,?_⟩)))⟩;have hdist:x.2.d+b*NM.rt ps ws[k]=x.2.d+ln (aF ws) (bF ws) (coF ws) (at0 ps) k b:=by rw[elen]
   obtain⟨kvs,q1,q2,q3⟩:=id Li.q;have tk:row.take (i+1)=row.take i++[(k,b)]:=by rw[List.take_succ,hq];rfl
   have sub:∀k' b',((∃u∈R,∃l,ds[u.2.v]?=some l∧(k',b')∈l)∨(k',b')∈row.take (i+1))→((∃u∈R,∃l,ds[u.2.v]?=some l∧(k',b')∈l)∨(k',b')∈row.take i)∨(k'=k∧b'=b):=fun k' b' z=>by
    rcases z with z | z
    ·exact .inl (.inl z)
    ·rw[tk]at z;rcases Zf.mp z with z | z
     ·exact .inl (.inr z)
     ·have:(k',b')=(k,b):=by simpa using z
      cases this;exact .inr ⟨rfl,rfl⟩
   dsimp only[jN];refine via (fun σ' H6=>H6=H5∧∃nb:Bool,(nb=true→∀z,nri (fr (aF ws) (bF ws) k b)=some z→x.2.d+b*NM.rt ps ws[k]≤z)∧(nb=false→∃z,nri (fr (aF ws) (bF ws) k b)=some z∧z≤x.2.d+b*NM.rt ps ws[k]) ∧
    σ'=[some (.ref s'),some (.ref D),some (.ref wl),some (.ref na),some (.ref rd),some (.ref x.1),some (vn x.2.v),some (vn k),some (.int b),some (.int (x.2.d+b*NM.rt ps ws[k])),some (vn (fr (aF ws) (bF ws) k b)),some (.bl nb)]) (fun hr'=>?_) ?_
   ·refine⟨_,rfl,(aN _ rfl na _ rfl ⟨ qY.k (k:=Sum.inl ((fr (aF ws) (bF ws) k b:Nat):Int)) q1,_,rfl,?_⟩)⟩;rw[q2];cases hz:nri (fr (aF ws) (bF ws) k b) with
    |none=>exact gO (hr' _ _ ⟨rfl,true,fun _ z hz'=>(by rw[hz]at hz';cases hz'),fun z=>(by cases z),rfl⟩)
    |some z =>
     have dg:=qY.k (k:=Sum.inl ((fr (aF ws) (bF ws) k b:Nat):Int)) q1;rw[q2,hz]at dg;refine dX ⟨_,(bO rfl _ rfl _ rfl ⟨ na,_,(bB rfl dg _ _ rfl ⟨ rfl,hr' _ _ ⟨rfl,_,fun c z' hz'=>?_,fun c=>⟨z,hz,?_⟩,rfl⟩⟩)⟩)⟩
     ·rw[hz]at hz';cases hz';exact Int.le_of_lt (of_decide_eq_true c)
     ·exact Int.not_lt.mp (of_decide_eq_false c)
   rintro σ' H6 ⟨rfl,nb,better,near,rfl⟩;have pass:(opn ws.length (loF ws) (hiF ws) (at0 gs) k b→nb=false)→∃(Wi':List (Addr×En)) (nri':Nat→Option Int),aW H4 H4∧LS H H6 wl na rd Wi' (R++[x]) nri' (R.length*(2*ws.length)+(i+1))∧Wi'.length≤W'.length+(i+1)∧H6 ra=some (.lst (lr.map V.ref))∧(∀(j:Nat) q',row[j]?=some q'→∃r,lr[j]?=some r∧H6 r=some (.tup [vn q'.1,.int q'.2])) ∧
     Rch (at0 rs) (sd (aF ws) (bF ws)) (fr (aF ws) (bF ws)) (ln (aF ws) (bF ws) (coF ws) (at0 ps)) (opn ws.length (loF ws) (hiF ws) (at0 gs)) n (fun k b=>(∃u∈R,∃l,ds[u.2.v]?=some l∧(k,b)∈l)∨(k,b)∈row.take (i+1)) (es (R++[x])) (es Wi') nri':=fun hop=>by
    refine(bH Wi nri (aW.refl _) (Li.more (by lia)) (by lia) ⟨ e5,f5,rci.pass (k:=k) (by_:=b) (fun o=>?_) sub⟩);obtain⟨z,z1,z2⟩:=near (hop o);exact(cG z z1 x.2 mxe hsd.symm (by rw[←hdist];exact z2))
   refine⟨_,rfl,nb,rfl,?_⟩;cases nb with
   |false =>
    obtain⟨Wi',nri',p⟩:=pass fun _=>rfl;exact dX (dX (bH Wi' nri' p.1 p.2.1 p.2.2.1 ⟨ p.2.2.2.1,p.2.2.2.2.1,p.2.2.2.2.2,(aP _ _ _ _ _ rfl)⟩))
   |true =>
    refine gO ⟨_,(bO rfl _ rfl _ rfl (aP s' A' ws ds ps (aG gs rs k b rfl ⟨ S5,hk,O.gl,?_⟩)))⟩;refine⟨(by cases rm ws gs k b<;>rfl),_,rfl,?_⟩;by_cases ho:rm ws gs k b=some 0
    ·rw[ho];obtain⟨Wi',nri',p⟩:=pass fun o=>absurd ho ((MW hk h1).mp o);exact dX (bH Wi' nri' p.1 p.2.1 p.2.2.1 ⟨ p.2.2.2.1,p.2.2.2.2.1,p.2.2.2.2.2,(aP _ _ _ _ _ rfl)⟩)
    ·have ho':¬vo (rm ws gs k b)=V.int 0:=fun z=>ho (by
      cases e:rm ws gs k b with
      |none=>rw[e]at z;cases z
      |some y=>rw[e]at z;rw[V.int.inj z])
     have op:=(MW hk h1).mpr ho;have cb:R.length*(2*ws.length)+(i+1)≤64*2000:=by
      have:R.length*(2*ws.length)≤63*2000:=Nat.mul_le_mul (by lia) (by lia)
      lia
     refine eV (by rw[decide_eq_false ho'];rfl) ⟨_,(bO rfl _ rfl _ rfl ⟨ na,_,rfl,LI.k (k:=Sum.inl ((fr (aF ws) (bF ws) k b:Nat):Int)) q1 (Ys q3 (Yt (by omega:R.length*(2*ws.length)+i<200000) (by decide))),?_⟩)⟩;have L7:=Li.setq q1 (fr (aF ws) (bF ws) k b) (x.2.d+b*NM.rt ps ws[k]);have nra:ra≠na:=dB e5 q1 (by intro z;cases z);have e7:(upd H6 na (.dK (putK kvs (Sum.inl ((fr (aF ws) (bF ws) k b:Nat):Int)) (.int (x.2.d+b*NM.rt ps ws[k]))))) ra=some (.lst (lr.map V.ref)):=by rw[aL nra];exact e5
     have f7:∀(j:Nat) q',row[j]?=some q'→∃r,lr[j]?=some r∧(upd H6 na (.dK (putK kvs (Sum.inl ((fr (aF ws) (bF ws) k b:Nat):Int)) (.int (x.2.d+b*NM.rt ps ws[k]))))) r=some (.tup [vn q'.1,.int q'.2]):=fun j q' hq'=>by
      obtain⟨r',z1,z2⟩:=f5 j q' hq';exact⟨r',z1,by rw[aL (dB z2 q1 (by intro z;cases z))];exact z2⟩
     generalize upd H6 na (.dK (putK kvs (Sum.inl ((fr (aF ws) (bF ws) k b:Nat):Int)) (.int (x.2.d+b*NM.rt ps ws[k]))))=H7 at L7 e7 f7;refine⟨_,(bO rfl _ rfl _ rfl (cG _ rfl _ rfl (by show 4≤ZW;decide) (fun Te hTe=>?_)))⟩;have k8:=aI hTe (.tup [.int (x.2.d+b*NM.rt ps ws[k]),vn (fr (aF ws) (bF ws) k b),vn k,.int b]);have L8:=L7.mono k8;have wb8:=L8.wb;refine(aG wl Te Wi ⟨x.2.d+b*NM.rt ps ws[k],fr (aF ws) (bF ws) k b,k,b⟩ rfl (bG L8.w L8.wt aB L8.dn (by lia) (fun W8 p8 dn8=>?_)));have nral:ra≠wl:=fun z=>by
      have h0:H ra=some (.lst (lr.map V.ref)):=by
       obtain⟨ra',y1,y2⟩:=S.dr x.2.v _ (by rw[←hrw]at hrow;exact hrow);obtain⟨lr',y3,_⟩:=y2;rw[ra1]at y1;cases y1;exact y3.trans ((L2'.g _ _ y3).symm.trans d1)
      rw[z,L8.nwl]at h0;cases h0
     have L9:=L8.setw (W':=W8) (fun y hy=>by
      rcases Zn.mp (p8.mem_iff.mp hy) with rfl | hy
      ·exact aB
      ·exact L8.wt y hy) dn8 (by rw[p8.length_eq,Yq];have:=Li.wb;lia)
     refine(bH W8 _ (aW.refl _) L9 (by rw[p8.length_eq,Yq];lia) ⟨ by rw[aL nral];exact k8 _ _ e7,fun j q' hq'=>?_,?_,(aP _ _ _ _ _ rfl)⟩)
     ·obtain⟨r',z1,z2⟩:=f7 j q' hq';exact⟨r',z1,by rw[aL (dB (k8 _ _ z2) L8.w (by intro z;cases z))];exact k8 _ _ z2⟩
     ·rw[hdist]at p8 ⊢;refine rci.put (k:=k) (by_:=b) (u:=x.2) op (by rcases h1 with z | z<;>rw[z]<;>decide) mxe hsd.symm top (sr.nn op) hdst (fun z hz=>by rw[←hdist];exact better rfl z hz) ?_ sub;exact p8.map (·.2)
  ·rintro σ H5 ⟨Wi,nri,_,Li,wi,e5,f5,rci,o7,o8,o9,o10,o11,rfl⟩;rw[Zq,d2,Yv]at rci;rw[Zq,d2]at Li wi;have er:(R++[x]).length=R.length+1:=by simp
   refine⟨_,(cU ?_ Wi (R++[x]) nri rfl ⟨ Li.more (by rw[er,Nat.succ_mul R.length (2*ws.length)];lia),rci.pass (k:=0) (by_:=0) (fun z=>absurd z.2 (by rintro(⟨z,_⟩ | ⟨z,_⟩)<;>cases z)) (fun k b z=>?_),fun u hu'=>?_,(aP _ _ _ _ _ ⟨ _,_,rfl⟩)⟩)⟩
   ·rw[er,Zm,ZQ];have e1:n-R.length=(n-(R.length+1))+1:=by lia
    rw[e1,Nat.succ_mul (n-(R.length+1)) (2*ws.length+1)]
    lia
   ·obtain⟨u,hu',l,h1,h2⟩:=z;rcases Zf.mp hu' with hu' | hu'
    ·exact .inl (.inl ⟨u,hu',l,h1,h2⟩)
    ·have:u=x:=by simpa using hu'
     subst this;rw[hrow]at h1;cases h1;exact .inl (.inr h2)
   ·rcases Zf.mp hu' with hu' | hu'
    ·exact nn u hu'
    ·have:u=x:=by simpa using hu'
     subst this
     lia
end
end K33
namespace K33
open PySem L2 PyProof.Rows NM FL
def oY(H:Hp)(rows:List Addr)(ds:List (List (Nat×Int))):Prop:=rows.length=ds.length∧∀(v:Nat) l,ds[v]?=some l→∃a,rows[v]?=some a∧y4 H a l
theorem oY.mono{H H':Hp}{rows:List Addr}{ds:List (List (Nat×Int))}(h:oY H rows ds)(g:aW H H'):oY H' rows ds :=
 ⟨h.1,fun v l hl=>let⟨a,h1,h2⟩:=h.2 v l hl;⟨a,h1,h2.mono g⟩⟩
theorem oY.put{H:Hp}{rows lr:List Addr}{ds:List (List (Nat×Int))}{l:List (Nat×Int)}{v k:Nat}{b:Int}{a Tq:Addr}(h:oY H rows ds)(nd:rows.Nodup)(hv:ds[v]?=some l)(ha:rows[v]?=some a)(d1:H a=some (.lst (lr.map V.ref)))(d2:lr.length=l.length)
  (d3:∀(j:Nat) q,l[j]?=some q→∃r,lr[j]?=some r∧H r=some (.tup [vn q.1,.int q.2])) (hT:H Tq=none):oY (upd (upd H Tq (.tup [vn k,.int b])) a (.lst (lr.map V.ref++[.ref Tq]))) rows (ds.set v (l++[(k,b)])):=by
 have g:=aI hT (.tup [vn k,.int b]);have nT:Tq≠a:=(aJ d1 hT).symm;have tp:∀{r:Addr}{xs:List V},H r=some (.tup xs)→(upd (upd H Tq (.tup [vn k,.int b])) a (.lst (lr.map V.ref++[.ref Tq]))) r=some (.tup xs):=fun e=>by rw[aL (dB e d1 (by intro z;cases z))];exact g _ _ e
 refine⟨by rw[List.length_set];exact h.1,fun v' l' hl'=>?_⟩;by_cases z:v=v'
 ·subst z;rw[List.getElem?_set_self (Zj.mp hv).1]at hl';cases hl';refine⟨a,ha,lr++[Tq],by rw[aB,Zt];rfl,by rw[Zm,Zm,d2];rfl,fun j q hq=>?_⟩;rcases Xq j l.length with y | y
  ·rw[Zx y]at hq;obtain⟨r,r1,r2⟩:=d3 j q hq;exact⟨r,by rw[Zx (by lia)];exact r1,tp r2⟩
  ·rw[Zy y]at hq;have z0:j-l.length=0:=by
    have:=(Zj.mp hq).1;simp at this
    lia
   rw[z0]at hq;cases hq;exact⟨Tq,by rw[Zy (by lia),d2,z0];rfl,by rw[aL nT];exact aB⟩
 ·rw[List.getElem?_set_ne z]at hl';obtain⟨a',h1,h2⟩:=h.2 v' l' hl';have na:a'≠a:=fun y=>by
   subst y;obtain⟨p1,p2⟩:=Zj.mp h1;obtain⟨p3,p4⟩:=Zj.mp ha;exact z ((List.getElem_inj nd).mp (p4.trans p2.symm))
  exact⟨a',h1,h2.keep fun c xs=>⟨fun y e=>by subst y;rw[aL na];exact g _ _ e,tp⟩⟩
structure DrI(ws:List Way)(n i:Nat)(ds:List (List (Nat×Int))):Prop where
 len:ds.length=n
 mem:∀(v:Nat) (l:List (Nat×Int)),ds[v]?=some l→∀(k:Nat) (by_:Int),(k,by_)∈l↔k<i∧((by_=1∧aF ws k=v)∨(by_ = -1∧bF ws k=v))
 few:∀(v:Nat) (l:List (Nat×Int)),ds[v]?=some l→l.length≤2*i
theorem DrI.step{ws:List Way}{n i:Nat}{ds:List (List (Nat×Int))}(h:DrI ws n i ds){la lb:List (Nat×Int)}(h1:ds[aF ws i]?=some la)(h2:(ds.set (aF ws i) (la++[(i,1)]))[bF ws i]?=some lb) :
  DrI ws n (i+1) ((ds.set (aF ws i) (la++[(i,1)])).set (bF ws i) (lb++[(i,-1)])):=by
 have ha:=(Zj.mp h1).1;have hb:=(Zj.mp h2).1;rw[List.length_set]at hb;have mid:∀(v:Nat) l,(ds.set (aF ws i) (la++[(i,1)]))[v]?=some l→(∀(k:Nat) (by_:Int),(k,by_)∈l↔(k<i∧((by_=1∧aF ws k=v)∨(by_ = -1∧bF ws k=v)))∨(k=i∧by_=1∧aF ws i=v))∧l.length≤2*i+1:=fun v l hl=>by
  by_cases z:aF ws i=v
  ·subst z;rw[List.getElem?_set_self ha]at hl;cases hl;refine⟨fun k b=>?_,by have:=h.few _ _ h1;rw[Zm];simp;lia⟩;rw[Zf,h.mem _ _ h1];simp
  ·rw[List.getElem?_set_ne z]at hl;refine⟨fun k b=>?_,by have:=h.few _ _ hl;lia⟩;rw[h.mem _ _ hl];simp[z]
 refine⟨by rw[List.length_set,List.length_set];exact h.len,fun v l hl k b=>?_,fun v l hl=>?_⟩
 ·by_cases z:bF ws i=v
  ·subst z;rw[List.getElem?_set_self (by rw[List.length_set];exact hb)]at hl;cases hl;rw[Zf,(mid _ _ h2).1];constructor
   ·rintro((⟨y1,y2⟩ | ⟨rfl,rfl,y⟩) | y)
    ·exact⟨by lia,y2⟩
    ·exact⟨by lia,.inl ⟨rfl,y⟩⟩
    ·have:(k,b)=(i,-1):=by simpa using y
     cases this;exact⟨by lia,.inr ⟨rfl,rfl⟩⟩
   ·rintro⟨y1,y2⟩;by_cases e:k=i
    ·subst e;rcases y2 with⟨rfl,y⟩ | ⟨rfl,y⟩
     ·exact .inl (.inr ⟨rfl,rfl,y⟩)
     ·exact .inr (by simp)
    ·exact .inl (.inl ⟨by lia,y2⟩)
  ·rw[List.getElem?_set_ne z]at hl;rw[(mid _ _ hl).1];constructor
   ·rintro(⟨y1,y2⟩ | ⟨rfl,rfl,y⟩)
    ·exact⟨by lia,y2⟩
    ·exact⟨by lia,.inl ⟨rfl,y⟩⟩
   ·rintro⟨y1,y2⟩;by_cases e:k=i
    ·subst e;rcases y2 with⟨rfl,y⟩ | ⟨rfl,y⟩
     ·exact .inr ⟨rfl,rfl,y⟩
     ·exact absurd y z
    ·exact .inl ⟨by lia,y2⟩
 ·by_cases z:bF ws i=v
  ·subst z;rw[List.getElem?_set_self (by rw[List.length_set];exact hb)]at hl;cases hl;have:=(mid _ _ h2).2;rw[Zm];simp
   lia
  ·rw[List.getElem?_set_ne z]at hl;have:=(mid _ _ hl).2
   lia
section
def HE:Sp:=fun vs H Q _=>∃(p na wa:Addr) (ns:List Int) (ws:List Way),vs=[.ref p]∧lU H p na wa ns ws∧(∀w∈ws,w.a<ns.length∧w.b<ns.length)∧ns.length≤1000∧ws.length≤1000 ∧
 ∀(da:Addr) (rows:List Addr) (ds:List (List (Nat×Int))) (H':Hp),H da=none→(∀a∈rows,H a=none)→aW H H'→H' da=some (.lst (rows.map V.ref))→oY H' rows ds→GY ws ns.length ds→Q (.ref da) H'
theorem NL(T:Txt K mg t):bQ P w K mg base CX0 1 t.qW t.qU ["net"] HE:=by
 refine T.x8.F.ok uO (fun vs H Q E h=>?_) (fun cdv A outer s H vs Q E hr h=>?_)
 ·obtain⟨p,na,wa,ns,ws,rfl,_⟩:=h;rfl
 obtain⟨p,na,wa,ns,ws,rfl,hN,hab,hn,hm,q⟩:=h;have nd:=uO.nd;have nd_knot:(["knot"]:List Str).Nodup:=by decide
 refine⟨_,(aE (cN (i:=1) nd rfl (Or.inl rfl)  (N':=["knot"]) (js:=[none]) rfl (cK (aM aU (pv 0) aH (fun _ _=>rfl))) (fun _ _ _ _ _=>(aQ (i:=0) nd_knot rfl (Or.inl rfl))) (fun _ _ _ _ _=>dN) (fun _ _ _ _ _=>(bS aC)))
  (aE (cY PassesOwn.never rfl (fN rfl T.dA (aA (aM aU (pv 0) aH (fun _ _=>rfl)) aC)) (dU rfl (aY (aQ (i:=2) nd rfl (Or.inl rfl)) (aY (aQ (i:=3) nd rfl (Or.inl rfl)) cH))) (aE (bN (kO mAp cD (aM aV (pv 1) (aM aU (pv 3) aH (fun _ _=>rfl)) (fun _ _=>rfl)) (aA (bX (aA (pv 2) (aA aH aC))) aC)))
  (aK (bN (kO mAp cD (aM aV (pv 1) (aM aU (pv 3) aH (fun _ _=>rfl)) (fun _ _=>rfl)) (aA (bX (aA (pv 2) (aA (mO iS aH) aC))) aC))))))
  (aK (bC (pv 1))))),?_⟩
 obtain⟨wrs,e1,e2,e3⟩:=hN.w;refine⟨_,rfl,(aG p _ _ _ rfl (aR rfl (SqT.of hN.tp) rfl na rfl ⟨ ⟨_,SqL.of hN.n⟩,fun D hD=>?_⟩))⟩;refine comp_map ns.length (fun i ys H'=>∃rows:List Addr,ys=rows.map V.ref∧rows.length=i∧rows.Nodup∧(∀a∈rows,a≠D∧H a=none∧H' a=some (.lst []))∧aW H H'∧H' D=some (.lst ys))
  (eB ([]) rfl rfl List.nodup_nil (fun a ha=>(by cases ha)) ⟨ aI hD _,aB⟩) ?_ ?_
 ·rintro i ys H' hi ⟨rows,rfl,hl,hnd,hrw,g1,eD⟩;refine⟨⟨_,_,SqL.of (g1 _ _ hN.n),gM hi⟩,?_⟩;rintro x H'' ⟨rfl,hx⟩;refine⟨(Fills.refl _).set _ rfl,(by show 0≤ZW;decide),fun a ha=>?_⟩;have g2:=aI ha (.lst []);have naD:a≠D:=(aJ eD ha).symm;refine(E5 (g2 _ _ eD) (by rw[Zq,hl];exact Yt (by lia:i<1000) (by decide)) (rows++[a]) (by rw[Zt];rfl) (by rw[Zm,hl];rfl) ⟨ ?_,fun b hb=>?_,fun b o h=>by rw[aL (aJ h hD)];exact g2 _ _ (g1 _ _ h),aB⟩)
  ·refine List.nodup_append.mpr ⟨hnd,by simp,fun b hb c hc=>?_⟩;have:c=a:=by simpa using hc
   subst this;intro z;subst z;rw[(hrw _ hb).2.2]at ha;cases ha
  ·rcases Zf.mp hb with hb | hb
   ·obtain⟨r1,r2,r3⟩:=hrw b hb;exact⟨r1,r2,by rw[aL r1];exact g2 _ _ r3⟩
   ·have:b=a:=by simpa using hb
    subst this;exact⟨naD,g1.free ha,by rw[aL naD];exact aB⟩
 rintro ys H1 ⟨rows,rfl,hl,hnd,hrw,g1,eD⟩;refine⟨⟨_,SqL.of (g1 _ _ hN.n),by rw[Zq];exact Nat.le_refl _⟩,?_⟩;refine⟨_,rfl,(aG p _ _ _ rfl (aR rfl (SqT.of (g1 _ _ hN.tp)) rfl wa rfl ⟨ ⟨_,SqL.of (g1 _ _ e1)⟩,?_⟩))⟩;refine gI (xs:=wrs.map V.ref) (fun i σ H'=>aW H H'∧H' D=some (.lst (rows.map V.ref))∧(∃ds,oY H' rows ds∧DrI ws ns.length i ds)∧∃o2 o3:Option V,σ=[some (.ref p),some (.ref D),o2,o3])
  ⟨g1,eD,⟨List.replicate ns.length [],⟨by rw[hl,List.length_replicate],fun v l hv=>?_⟩,?_⟩,_,_,rfl⟩ (fun i σ H' _ h=>SqL.of (h.1 _ _ e1)) ?_ ?_
 ·obtain⟨hv1,hv2⟩:=Zj.mp hv;rw[List.getElem_replicate]at hv2;rw[List.length_replicate]at hv1;subst hv2;exact(cG (rows[v]) (Zz (by lia)) ([]) ((hrw _ (Zp _)).2.2) rfl (fun j q' hq=>by simp at hq))
 ·refine⟨by simp,fun v l hv k b=>?_,fun v l hv=>?_⟩
  ·obtain⟨hv1,hv2⟩:=Zj.mp hv;rw[List.getElem_replicate]at hv2;subst hv2;simp
  ·obtain⟨hv1,hv2⟩:=Zj.mp hv;rw[List.getElem_replicate]at hv2;subst hv2;simp
 ·rintro i y σ H' Tp hy ⟨g2,eD2,⟨ds,ra,di⟩,o2,o3,rfl⟩ hTp;obtain⟨r,hr1,rfl⟩:=vU hy;obtain⟨w',hw,er⟩:=E6 e2 e3 hr1;have hi:i<ws.length:=(Zj.mp hw).1;have ab:=hab w' (Zg hw);have g3:=aI hTp (.tup [vn i,.ref r]);have g23:=g2.trans g3;have ra3:=ra.mono g3;have eD3:=g3 _ _ eD2;have er3:=g23 _ _ er;have tT:(upd H' Tp (.tup [vn i,.ref r])) Tp=some (.tup [vn i,.ref r]):=aB;generalize upd H' Tp (.tup [vn i,.ref r])=H3 at g23 ra3 eD3 er3 tT;obtain⟨la,hla⟩:∃la,ds[w'.a]?=some la:=⟨_,Zz (by rw[di.len];exact ab.1)⟩
  obtain⟨a,a1,lr,d1,d2,d3⟩:=ra3.2 _ _ hla;have f1:=di.few _ _ hla;refine(bH Tp _ rfl (SqT.of tT) rfl ⟨ _,(aN _ rfl _ _ rfl ⟨ rfl,?_⟩)⟩);refine⟨_,rfl,_,rfl,(aG r _ _ _ rfl ⟨ rfl,SqT.of er3,rfl,(aG D _ _ (.ref a) rfl ⟨ rfl,(aR (SqL.of eD3) (c9 (by rw[Zk,a1];rfl)) (.inl ⟨rfl,_,SqL.of d1⟩) _ rfl ⟨ (by show 2≤ZW;decide),fun T1 hT1=>?_⟩)⟩)⟩)⟩;have k1:=aI hT1 (.tup [vn i,.int 1]);refine(bV a _ _ rfl rfl ⟨ k1 _ _ d1,by rw[Zq,d2];exact Yt (by lia:la.length<3000) (by decide),?_⟩);have ra4:=ra3.put (k:=i) (b:=1) hnd hla a1 d1 d2 d3 hT1;have rfree:∀b∈rows,H b=none:=fun b hb=>(hrw b hb).2.1;have g4:aW H (upd (upd H3 T1 (.tup [vn i,.int 1])) a (.lst (lr.map V.ref++[.ref T1]))):=fun b o h=>by rw[aL (aJ h (rfree a (Zg a1)))];exact k1 _ _ (g23 _ _ h)
  have nDa:D≠a:=fun z=>(hrw a (Zg a1)).1 z.symm;have eD4:(upd (upd H3 T1 (.tup [vn i,.int 1])) a (.lst (lr.map V.ref++[.ref T1]))) D=some (.lst (rows.map V.ref)):=by rw[aL nDa];exact k1 _ _ eD3
  generalize upd (upd H3 T1 (.tup [vn i,.int 1])) a (.lst (lr.map V.ref++[.ref T1]))=H4 at ra4 g4 eD4;obtain⟨lb,hlb⟩:∃lb,(ds.set w'.a (la++[(i,1)]))[w'.b]?=some lb:=⟨_,Zz (by rw[List.length_set,di.len];exact ab.2)⟩
  obtain⟨a',a1',lr',d1',d2',d3'⟩:=ra4.2 _ _ hlb;have e5:=di.step (la:=la) (lb:=lb) (by rw[vK hw];exact hla) (by rw[vK hw,yO hw];exact hlb);rw[vK hw,yO hw]at e5;have f2:=e5.few w'.b _ (List.getElem?_set_self (by rw[List.length_set,di.len];exact ab.2));rw[Zm]at f2;refine⟨_,rfl,_,rfl,(aG r _ _ _ rfl ⟨ rfl,SqT.of (g4 _ _ er),rfl,(aG D _ _ (.ref a') rfl ⟨ rfl,(aR (SqL.of eD4) (c9 (by rw[Zk,a1'];rfl)) (.inl ⟨rfl,_,SqL.of d1'⟩) _ rfl ⟨ _,rfl,(by show 2≤ZW;decide),fun T2 hT2=>?_⟩)⟩)⟩)⟩;have k2:=aI hT2 (.tup [vn i,.int (-1)]);refine(bV a' _ _ rfl rfl ⟨ k2 _ _ d1',by rw[Zq,d2'];exact Yt (by lia:lb.length<3000) (by decide),?_⟩);have ra5:=ra4.put (k:=i) (b:=-1) hnd hlb a1' d1' d2' d3' hT2;refine⟨fun b o h=>by rw[aL (aJ h (rfree a' (Zg a1')))];exact k2 _ _ (g4 _ _ h),?_,⟨_,ra5,e5⟩,_,_,rfl⟩;rw[aL (fun z=>(hrw a' (Zg a1')).1 z.symm)];exact k2 _ _ eD4
 ·rintro σ H' ⟨g2,eD2,⟨ds,ra,di⟩,o2,o3,rfl⟩;rw[Zq,e2]at di;exact⟨_,rfl,q D rows ds H' hD (fun a ha=>(hrw a ha).2.1) g2 eD2 ra ⟨di.len,di.mem,di.few⟩⟩
def G5:Sp:=fun vs H Q _=>∃(p na wa ga:Addr) (ns:List Int) (ws:List Way) (gs:List Int),vs=[.ref p,.ref ga]∧lU H p na wa ns ws∧(∀w∈ws,w.a<ns.length∧w.b<ns.length)∧H ga=some (.lst (gs.map V.int))∧gs.length=ws.length∧∀(r:Addr) (H':Hp),H r=none→aW H H'→H' r=some (.lst ((left ws gs ns).map V.int))→Q (.ref r) H'
theorem NC(T:Txt K mg t):bQ P w K mg base CX0 1 t.CD t.B2 ["net","going"] G5:=by
 refine T.IP.F.ok CU (fun vs H Q E h=>?_) (fun cdv A outer s H vs Q E hr h=>?_)
 ·obtain⟨p,na,wa,ga,ns,ws,gs,rfl,_⟩:=h;rfl
 obtain⟨p,na,wa,ga,ns,ws,gs,rfl,hN,hO,hG,hlen,q⟩:=h;have nd:=CU.nd;obtain⟨rs,e1,e2,e3⟩:=hN.w;refine⟨_,(aE (a7 2 nd (dG fH rfl T.lV boot_list (aA (aM aU (pv 0) aH (fun _ _=>rfl)) aC)))
  (aE (cY PassesOwn.never rfl (FR rfl T.LJ (aA (aM aU (pv 0) aH (fun _ _=>rfl)) (aA (pv 1) aC))) (dU rfl (aY (aQ (i:=3) nd rfl (Or.inl rfl)) (aY (aQ (i:=4) nd rfl (Or.inl rfl)) cH))) (aE (l0 (pv 2) (aM aU (pv 3) aH (fun _ _=>rfl)) jM (pv 4) NX set_list)
  (aK (l0 (pv 2) (aM aU (pv 3) aH (fun _ _=>rfl)) jM (pv 4) xV set_list))))
  (aK (bC (pv 2))))),?_⟩
 refine⟨_,rfl,(aG p _ _ _ rfl ⟨ rfl,(bB (SqT.of hN.tp) rfl na _ rfl ⟨ .inl (SqL.of hN.n),fun la hla=>?_⟩)⟩)⟩;have g1:=aI hla (.lst (ns.map V.int));refine⟨_,rfl,(aG p _ _ _ rfl (aR rfl (SqT.of (g1 _ _ hN.tp)) rfl _ rfl (aG wa ga _ _ rfl ⟨ g1 _ _ e1,g1 _ _ hG,?_⟩)))⟩;refine IL (fun i σ H'=>aW H H'∧H' la=some (.lst ((left (ws.take i) (gs.take i) ns).map V.int))∧∃o3 o4:Option V,σ=[some (.ref p),some (.ref ga),some (.ref la),o3,o4])
  (by rw[Zq,Zq,e2,hlen]) ⟨g1,aB,_,_,rfl⟩ (fun i σ H' _ h=>⟨h.1 _ _ e1,h.1 _ _ hG⟩) ?_ ?_
 ·rintro i x y σ H1 Tp hx hy ⟨g2,el,o3,o4,rfl⟩ hTp;obtain⟨r,hr1,rfl⟩:=vU hx;obtain⟨hi,rfl⟩:=vZ hy;obtain⟨w,hw,er⟩:=E6 e2 e3 hr1;obtain⟨ha,hb⟩:=hO w (Zg hw);have hgi:gs[i]?=some (at0 gs i):=by unfold at0;simp[List.getD,hi]
  have g3:=g2.trans (aI hTp (.tup [.ref r,.int (at0 gs i)]));have el3:=aI hTp (.tup [.ref r,.int (at0 gs i)]) _ _ el;have ll:(left (ws.take i) (gs.take i) ns).length=ns.length:=sE _ _ _;generalize hL:left (ws.take i) (gs.take i) ns=L at el3 ll;refine(bH Tp _ rfl (SqT.of aB) rfl ⟨ _,(aN _ rfl _ _ rfl ⟨ rfl,?_⟩)⟩);refine⟨_,rfl,_,rfl,(aG r _ _ _ rfl ⟨ rfl,SqT.of (g3 _ _ er),rfl,(aG la _ _ _ rfl ⟨ rfl,(aR (SqL.of el3) (by lia) (dF (j:=w.a) (by lia) rfl) _ rfl ⟨ _,_,rfl,rfl,(aG la _ _ w.a rfl ⟨ rfl,el3,jL (by rw[Zq];lia) rfl,?_⟩)⟩)⟩)⟩)⟩;rw[show(L.map V.int).set w.a (V.int (at0 L w.a-at0 gs i))=(L.set w.a (at0 L w.a-at0 gs i)).map V.int by rw[List.map_set]];have g4:aW H (upd (upd H1 Tp (.tup [.ref r,.int (at0 gs i)])) la (.lst ((L.set w.a (at0 L w.a-at0 gs i)).map V.int))):=fun b o h=>by rw[aL (aJ h hla)];exact g3 _ _ h
  refine⟨_,rfl,_,rfl,(aG r _ _ _ rfl ⟨ rfl,SqT.of (g4 _ _ er),rfl,(aG la _ _ _ rfl ⟨ rfl,(aR (SqL.of aB) (by lia) (dF (j:=w.b) (by simp;lia) rfl) _ rfl ⟨ _,_,rfl,rfl,(aG la _ _ w.b rfl ⟨ rfl,aB,jL (by simp;lia) rfl,?_⟩)⟩)⟩)⟩)⟩;refine⟨?_,?_,_,_,rfl⟩
  ·exact fun b o h=>by rw[aL (aJ h hla)];exact g4 _ _ h
  ·rw[aB,AD hw hgi,hL];unfold NM.step;simp only[List.map_set]
 ·rintro σ H1 ⟨g2,el,o3,o4,rfl⟩;rw[Zq,e2,Yv,←hlen,Yv]at el;exact⟨_,rfl,q la H1 hla g2 el⟩
def g0(ps:List Int)(w:Way):Int:=if NM.rt ps w<0 then w.hi.getD 0 else w.lo
def MH(C:Addr):Sp:=fun vs H Q _=>∃(x dx p pa na wa:Addr) (ns:List Int) (ws:List Way) (ps:List Int),vs=[.ref x,.ref p,.ref pa]∧H x=some (.ins C dx [])∧lU H p na wa ns ws∧H pa=some (.lst (ps.map V.int))∧ps.length=ns.length∧(∀w∈ws,w.a<ns.length∧w.b<ns.length)∧ns.length≤1000∧ws.length≤1000∧(∀w∈ws,NM.rt ps w<0→∃h,w.hi=some h) ∧
 ∀(H':Hp) (A:SA) (ds:List (List (Nat×Int))),(∀b o,b≠x→H b=some o→H' b=some o)→SAt C H' x A ws ds ps (ws.map (g0 ps)) (left ws (ws.map (g0 ps)) ns)→GY ws ns.length ds→H A.p=none→H A.g=none→H A.r=none→Q .non H'
theorem P9(T:Txt K mg t)(yY:bQ P w K mg base CX0 1 t.yP t.yC ["way","prices"] (A7 K))(QW:bQ P w K mg base CX0 1 t.CD t.B2 ["net","going"] G5)(GW:bQ P w K mg base CX0 1 t.qW t.qU ["net"] HE) :
  bQ P w K mg base CX0 2 t.iJ t.iI ["self","net","prices"] (MH t.a8):=by
 refine T.zI.ok m9 (fun vs H Q E h=>?_) (fun cdv A outer s H vs Q E hr h=>?_)
 ·obtain⟨x,dx,p,pa,na,wa,ns,ws,ps,rfl,_⟩:=h;rfl
 obtain⟨x,dx,p,pa,na,wa,ns,ws,ps,rfl,hx,hN,hP,pl,hab,hn,hm,hhi,q⟩:=h;have nd:=m9.nd;have nd_way_prices:(["way","prices"]:List Str).Nodup:=by decide
 refine⟨_,(aE (wZ (pv 0) (aM aU (pv 1) aH (fun _ _=>rfl)) rfl)
  (aE (wZ (pv 0) (dG fH rfl T.lV boot_list (aA (pv 2) aC)) rfl)
  (aE (wZ (pv 0) (fO (N':=["way","prices"]) (js:=[none,some 2]) rfl (cK (aM aU (pv 1) aH (fun _ _=>rfl))) (fun _ _ _ _ _=>(aQ (i:=0) nd_way_prices rfl (Or.inl rfl))) (fun _ _ _ _ _=>dN) (fun _ _ _ _ _=>(nR (aZ fS (bR yY hr T.BZ bE (aA (pv 0) (aA (pv 1) aC))) aH (bD _)) (aM (BS (K:=K) rfl) (pv 0) aH (fun _ _=>rfl)) (aM (BS (K:=K) rfl) (pv 0) aH (fun _ _=>rfl))))) rfl)
  (aE (wZ (pv 0) (bR QW hr T.IP bE (aA (pv 1) (aA (eI (pv 0) rfl) aC))) rfl)
  (aK (wZ (pv 0) (bR GW hr T.x8 bE (aA (pv 1) aC)) rfl)))))),?_⟩
 obtain⟨wrs,e1,e2,e3⟩:=hN.w;refine⟨_,rfl,(aG p _ _ _ rfl (aR rfl (SqT.of hN.tp) rfl _ rfl (aG x _ dx ([]) rfl ⟨ hx,T.bT,T.iE,(by show 0<1000;decide),?_⟩)))⟩;have K1:∀b o,b≠x→H b=some o→(upd H x (.ins t.a8 dx (cB "ways" (.ref wa) []))) b=some o:=fun b o z h=>by rw[aL z];exact h
 have X1:(upd H x (.ins t.a8 dx (cB "ways" (.ref wa) []))) x=some (.ins t.a8 dx (cB "ways" (.ref wa) [])):=aB;have F1:∀b,(upd H x (.ins t.a8 dx (cB "ways" (.ref wa) []))) b=none→H b=none:=fun b z=>by
  by_cases y:b=x
  ·subst y;rw[aB]at z;cases z
  ·rw[aL y]at z;exact z
 generalize upd H x (.ins t.a8 dx (cB "ways" (.ref wa) []))=H1 at K1 X1 F1;have nk:∀{b:Addr}{o:HO},H b=some o→(∀C' d f,o≠.ins C' d f)→b≠x:=fun e z=>dB e hx (fun y=>z _ _ _ y);have wk:∀{H':Hp},(∀b o,b≠x→H b=some o→H' b=some o)→lU H' p na wa ns ws:=fun k=>⟨k _ _ (nk hN.tp (fun _ _ _ y=>by cases y)) hN.tp,k _ _ (nk hN.n (fun _ _ _ y=>by cases y)) hN.n,wrs,k _ _ (nk e1 (fun _ _ _ y=>by cases y)) e1,e2,fun i w hw=>by
  obtain⟨r,r1,r2⟩:=e3 i w hw;exact⟨r,r1,k _ _ (nk r2 (fun _ _ _ y=>by cases y)) r2⟩⟩
 have hP1:=K1 _ _ (nk hP (fun _ _ _ y=>by cases y)) hP;refine(aN _ rfl pa _ rfl ⟨ .inl (SqL.of hP1),fun l1 hl1=>?_⟩);have s1:=aI hl1 (.lst (ps.map V.int));refine⟨_,rfl,(aG x _ dx _ rfl ⟨ s1 _ _ X1,T.bT,T.fP,(by show 1<1000;decide),?_⟩)⟩;have nx1:l1≠x:=(aJ X1 hl1).symm;have K2:∀b o,b≠x→H1 b=some o→(upd (upd H1 l1 (.lst (ps.map V.int))) x (.ins t.a8 dx (cB "prices" (.ref l1) (cB "ways" (.ref wa) [])))) b=some o:=fun b o z h=>by rw[aL z];exact s1 _ _ h
 have X2:(upd (upd H1 l1 (.lst (ps.map V.int))) x (.ins t.a8 dx (cB "prices" (.ref l1) (cB "ways" (.ref wa) [])))) x=some (.ins t.a8 dx (cB "prices" (.ref l1) (cB "ways" (.ref wa) []))):=aB;have P2:(upd (upd H1 l1 (.lst (ps.map V.int))) x (.ins t.a8 dx (cB "prices" (.ref l1) (cB "ways" (.ref wa) [])))) l1=some (.lst (ps.map V.int)):=by rw[aL nx1];exact aB
 have F2:∀b,(upd (upd H1 l1 (.lst (ps.map V.int))) x (.ins t.a8 dx (cB "prices" (.ref l1) (cB "ways" (.ref wa) [])))) b=none→H1 b=none:=fun b z=>by
  by_cases y:b=x
  ·subst y;rw[aB]at z;cases z
  ·rw[aL y]at z;exact s1.free z
 generalize upd (upd H1 l1 (.lst (ps.map V.int))) x (.ins t.a8 dx (cB "prices" (.ref l1) (cB "ways" (.ref wa) [])))=H2 at K2 X2 P2 F2;have K02:∀b o,b≠x→H b=some o→H2 b=some o:=fun b o z h=>K2 b o z (K1 b o z h);have N2:=wk K02;obtain⟨wrs2,e12,e22,e32⟩:=N2.w;have hP2:=K02 _ _ (nk hP (fun _ _ _ y=>by cases y)) hP;refine⟨_,rfl,(aG p _ _ _ rfl (aR rfl (SqT.of N2.tp) rfl wa rfl ⟨ ⟨_,SqL.of e12⟩,fun l2 hl2=>?_⟩))⟩;have lr:∀{i:Nat}(hi:i<ws.length),∃r,(wrs2.map V.ref)[i]?=some (.ref r)∧H2 r=some (.tup (wv ws[i])):=fun {i} hi=>by
  obtain⟨r,q1,q2⟩:=e32 i ws[i] (Zz hi);exact⟨r,by rw[Zk,q1];rfl,q2⟩
 refine fG ws.length (fun i=>.int (at0 (ws.map (g0 ps)) i)) hl2 (by lia) (fun i H' hi g=>by obtain⟨r,r1,_⟩:=lr hi;exact⟨_,_,SqL.of (g _ _ e12),r1⟩) (fun H' g=>⟨_,SqL.of (g _ _ e12),by rw[Zq];lia⟩) ?_ ?_
 ·rintro i H' y H'' k hi g ⟨rfl,hy⟩ hk;obtain⟨r,r1,r2⟩:=lr hi;have ey:=hy _ (SqL.of (g _ _ e12));rw[r1]at ey;cases ey;have hw:=Zp hi;have ag:at0 (ws.map (g0 ps)) i=g0 ps ws[i]:=by unfold at0;simp[List.getD,hi]
  rw[ag]at hk;refine⟨(Fills.refl _).set _ rfl,?_⟩;refine⟨_,rfl,_,rfl,(aG r pa (ws[i]) ps rfl ⟨ SqT.of (g _ _ r2),g _ _ hP2,(bB (by rw[pl];exact(hab _ hw).1) (by rw[pl];exact(hab _ hw).2) _ _ rfl ⟨ rfl,_,rfl,eY (fun c=>?_) (fun c=>?_)⟩)⟩)⟩
  ·have c':NM.rt ps ws[i]<0:=of_decide_eq_true c;obtain⟨h,eh⟩:=hhi _ hw c';have eg:g0 ps ws[i]=h:=by unfold g0;rw[if_pos c',eh];rfl
   rw[eg]at hk;have e4:atI (wv ws[i]) 3=some (.int h):=by show some (vo ws[i].hi)=_;rw[eh];rfl
   exact⟨_,rfl,(aG r _ _ _ rfl ⟨ rfl,SqT.of (g _ _ r2),e4,hk _ (aW.refl _)⟩)⟩
  ·have c':¬NM.rt ps ws[i]<0:=fun z=>c (decide_eq_true z);have eg:g0 ps ws[i]=ws[i].lo:=by unfold g0;rw[if_neg c']
   rw[eg]at hk;exact⟨_,rfl,(aG r _ _ _ rfl ⟨ rfl,SqT.of (g _ _ r2),rfl,hk _ (aW.refl _)⟩)⟩
 intro H3 g3 e3';have eg:(List.range ws.length).map (fun i=>V.int (at0 (ws.map (g0 ps)) i))=(ws.map (g0 ps)).map V.int:=by
  apply Yn;intro i;by_cases hi:i<ws.length
  ·rw[Zk,Yk hi,Zk,Zk,Zz hi];unfold at0;simp[List.getD,hi]
  ·rw[Zr (by simp;lia),Zr (by simp;lia)]
 rw[eg]at e3';refine⟨_,rfl,(aG x _ dx _ rfl ⟨ g3 _ _ X2,T.bT,T.eJ,(by show 2<1000;decide),?_⟩)⟩;have nx2:l2≠x:=(aJ X2 hl2).symm;have K4:∀b o,b≠x→H2 b=some o→(upd H3 x (.ins t.a8 dx (cB "going" (.ref l2) (cB "prices" (.ref l1) (cB "ways" (.ref wa) []))))) b=some o:=fun b o z h=>by rw[aL z];exact g3 _ _ h
 have X4:(upd H3 x (.ins t.a8 dx (cB "going" (.ref l2) (cB "prices" (.ref l1) (cB "ways" (.ref wa) []))))) x=some (.ins t.a8 dx (cB "going" (.ref l2) (cB "prices" (.ref l1) (cB "ways" (.ref wa) [])))):=aB;have G4:(upd H3 x (.ins t.a8 dx (cB "going" (.ref l2) (cB "prices" (.ref l1) (cB "ways" (.ref wa) []))))) l2=some (.lst ((ws.map (g0 ps)).map V.int)):=by rw[aL nx2];exact e3'
 have F4:∀b,(upd H3 x (.ins t.a8 dx (cB "going" (.ref l2) (cB "prices" (.ref l1) (cB "ways" (.ref wa) []))))) b=none→H2 b=none:=fun b z=>by
  by_cases y:b=x
  ·subst y;rw[aB]at z;cases z
  ·rw[aL y]at z;exact g3.free z
 generalize upd H3 x (.ins t.a8 dx (cB "going" (.ref l2) (cB "prices" (.ref l1) (cB "ways" (.ref wa) []))))=H4 at K4 X4 G4 F4;have K04:∀b o,b≠x→H b=some o→H4 b=some o:=fun b o z h=>K4 b o z (K02 b o z h);have P4:=K4 _ _ nx1 P2;have lg:(cB "going" (.ref l2) (cB "prices" (.ref l1) (cB "ways" (.ref wa) [])):List (Str×V)).lookup ("going" : Str)=some (.ref l2):=by rw[bZ,if_pos rfl]
 refine⟨_,rfl,_,rfl,(aP x _ dx _ _ (bG rfl X4 T.bT T.eJ lg (aP p na wa l2 ns (bH ws (ws.map (g0 ps)) rfl (wk K04) hab ⟨ G4,by rw[Zq],fun l3 H5 hl3 g5 R5=>?_⟩))))⟩;refine⟨_,rfl,(aG x _ dx _ rfl ⟨ g5 _ _ X4,T.bT,T.cL,(by show 3<1000;decide),?_⟩)⟩;have nx3:l3≠x:=(aJ X4 hl3).symm;have K6:∀b o,b≠x→H4 b=some o→(upd H5 x (.ins t.a8 dx (cB "resting" (.ref l3) (cB "going" (.ref l2) (cB "prices" (.ref l1) (cB "ways" (.ref wa) [])))))) b=some o:=fun b o z h=>by rw[aL z];exact g5 _ _ h
 have X6:(upd H5 x (.ins t.a8 dx (cB "resting" (.ref l3) (cB "going" (.ref l2) (cB "prices" (.ref l1) (cB "ways" (.ref wa) [])))))) x=some (.ins t.a8 dx (cB "resting" (.ref l3) (cB "going" (.ref l2) (cB "prices" (.ref l1) (cB "ways" (.ref wa) []))))):=aB;have R6:(upd H5 x (.ins t.a8 dx (cB "resting" (.ref l3) (cB "going" (.ref l2) (cB "prices" (.ref l1) (cB "ways" (.ref wa) [])))))) l3=some (.lst ((left ws (ws.map (g0 ps)) ns).map V.int)):=by rw[aL nx3];exact R5
 have F6:∀b,(upd H5 x (.ins t.a8 dx (cB "resting" (.ref l3) (cB "going" (.ref l2) (cB "prices" (.ref l1) (cB "ways" (.ref wa) [])))))) b=none→H4 b=none:=fun b z=>by
  by_cases y:b=x
  ·subst y;rw[aB]at z;cases z
  ·rw[aL y]at z;exact g5.free z
 generalize upd H5 x (.ins t.a8 dx (cB "resting" (.ref l3) (cB "going" (.ref l2) (cB "prices" (.ref l1) (cB "ways" (.ref wa) [])))))=H6 at K6 X6 R6 F6;have K06:∀b o,b≠x→H b=some o→H6 b=some o:=fun b o z h=>K6 b o z (K04 b o z h);have P6:=K6 _ _ nx1 P4;have G6:=K6 _ _ nx2 G4;refine⟨_,rfl,(aP p na wa ns ws (bG rfl (wk K06) hab hn hm (fun da rows ds H7 hda hrows g7 D7 ra dk=>?_)))⟩;refine⟨_,rfl,(aG x _ dx _ rfl ⟨ g7 _ _ X6,T.bT,T.nX,(by show 4<1000;decide),?_⟩)⟩;have nxd:da≠x:=(aJ X6 hda).symm;have K8:∀b o,b≠x→H7 b=some o→(upd H7 x (.ins t.a8 dx (sL wa l1 l2 l3 da))) b=some o:=fun b o z h=>by rw[aL z];exact h
 have wk8:=wk (H':=upd H7 x (.ins t.a8 dx (sL wa l1 l2 l3 da))) fun b o z h=>K8 _ _ z (g7 _ _ (K06 b o z h));have fr1:H l1=none:=F1 _ hl1;have fr2:H l2=none:=F1 _ (F2 _ hl2);have fr3:H l3=none:=F1 _ (F2 _ (F4 _ hl3));have no:∀{l:Addr}{o:HO},H6 l=some o→H l=none→l∉wa::da::rows:=fun {l o} h6 h0 z=>by
  rcases Zn.mp z with rfl | z
  ·rw[e1]at h0;cases h0
  ·rcases Zn.mp z with rfl | z
   ·rw[hda]at h6;cases h6
   ·rw[hrows _ z]at h6;cases h6
 refine q (upd H7 x (.ins t.a8 dx (sL wa l1 l2 l3 da))) ⟨wa,l1,l2,l3,da,rows⟩ ds (fun b o z h=>K8 _ _ z (g7 _ _ (K06 b o z h))) ⟨⟨dx,aB⟩,wk8.w,K8 _ _ nx1 (g7 _ _ P6),K8 _ _ nx2 (g7 _ _ G6),K8 _ _ nx3 (g7 _ _ R6),K8 _ _ nxd D7,ra.1,fun i l hl=>?_,no P6 fr1,no G6 fr2,no R6 fr3,?_,?_,?_⟩ dk fr1 fr2 fr3
 ·obtain⟨a,a1,a2⟩:=ra.2 i l hl;exact⟨a,a1,a2.keep fun b xs=>⟨fun y e=>K8 _ _ (dB e (g7 _ _ X6) (by intro z;cases z)) e,fun e=>K8 _ _ (dB e (g7 _ _ X6) (by intro z;cases z)) e⟩⟩
 ·intro z;have z:l1=l2:=z;rw[←z,P2]at hl2;cases hl2
 ·intro z;have z:l1=l3:=z;rw[←z,P4]at hl3;cases hl3
 ·intro z;have z:l2=l3:=z;rw[←z,G4]at hl3;cases hl3
end
end K33
namespace K33
open PySem L2 PyProof.Rows NM
theorem sJ(x:Int)(ns:List Int):inV (.int x) (ns.map V.int)=decide (x∈ns):=by
 unfold inV;rw[Xx,List.any_eq_true,decide_eq_true_iff];constructor
 ·rintro⟨y,hy,h⟩;obtain⟨z,hz,rfl⟩:=Zh.mp hy;have:z=x:=by simpa[eqV] using h
  exact this▸hz
 ·intro h;exact⟨.int x,Zh.mpr ⟨x,h,rfl⟩,by simp[eqV]⟩
theorem AG(ns:List Int):(ns.map V.int).all oK=true:=by
 rw[List.all_eq_true];intro y hy;obtain⟨n,_,rfl⟩:=Zh.mp hy;rfl
end K33
namespace NM
open L2 (at0)
end NM
namespace K33
open PySem L2 PyProof.Rows NM
end K33
namespace FL
open NM L2
theorem O7(ns:List Int):sm ns.length (at0 ns)=ns.sum:=by
 unfold sm;congr 1;apply Yn;intro i;by_cases h:i<ns.length
 ·rw[Zk,Yk h,Zz h];unfold at0;simp[List.getD,h]
 ·rw[Zr (by simp;lia),Zr (by lia)]
theorem RY{m n:Nat}{a b:Nat→Nat}{need g:Nat→Int}(ha:∀k,k<m→a k<n)(hb:∀k,k<m→b k<n):sm n (rs m a b need g)=sm n need:=by
 have e:∀c:Nat→Nat,(∀k,k<m→c k<n)→sm n (fun v=>sm m (fun k=>if c k=v then g k else 0))=sm m g:=fun c hc=>by
  have:=HH (n:=n) (fun _=>1) c g m hc;rw[gF (g:=fun v=>sm m (fun k=>if c k=v then g k else 0)) fun v _=>Int.one_mul _,gF (m:=m) (g:=g) fun k _=>Int.one_mul _]at this;exact this
 have e1:sm n (rs m a b need g)=sm n need-sm n (fun v=>sm m (fun k=>if a k=v then g k else 0))+sm n (fun v=>sm m (fun k=>if b k=v then g k else 0)):=by
  rw[←RV,←MO];rfl
 rw[e1,e a ha,e b hb]
 lia
theorem Back.len{src:Nat→Int→Nat}{R:List En}{i c:Nat}{bs:List (Nat×Int)}(h:Back src R i bs c):bs.length≤i:=by
 induction h with
 |stop _ _=>exact Nat.zero_le _
 |step _ _ hj _ _ _ ih=>rw[Yq];lia
theorem Back.last{src:Nat→Int→Nat}{R:List En}{i c:Nat}{bs:List (Nat×Int)}(h:Back src R i bs c):bs=[]∨∃q,bs.getLast?=some q∧src q.1 q.2=c:=by
 induction h with
 |stop _ _=>exact .inl rfl
 |@step i j c e u ps g hb hj gu uv p ih =>
  refine .inr ?_;rcases ih with rfl | ⟨q,h1,h2⟩
  ·refine⟨(e.k,e.by_),rfl,?_⟩;cases p with
   |stop g' hb' =>
    rw[gu]at g';cases g';exact uv.symm
  ·refine⟨q,?_,h2⟩;cases ps with
   |nil=>cases h1
   |cons y ps=>rw[List.getLast?_cons_cons];exact h1
end FL
namespace K33
open PySem L2 PyProof.Rows NM FL
theorem UF{ws:List Way}{ps:List Int}(hb:∀w∈ws,∀h,w.hi=some h→w.lo≤h)(hhi:∀w∈ws,NM.rt ps w<0→∃h,w.hi=some h):iR ws.length (aF ws) (bF ws) (loF ws) (hiF ws) (coF ws) (at0 (ws.map (g0 ps))) (at0 ps):=by
 have at_:∀{k:Nat}(hk:k<ws.length),at0 (ws.map (g0 ps)) k=g0 ps ws[k]∧ws[k]?=some ws[k]:=fun {k} hk=>⟨by unfold at0;simp[List.getD,hk],Zz hk⟩
 refine⟨fun k hk=>?_,fun k hk h hh=>?_,fun k hk c=>?_,fun k hk c=>?_⟩
 ·obtain⟨e1,e2⟩:=at_ hk;rw[e1,F9 e2];unfold g0;split
  ·rename_i c
   obtain⟨h,eh⟩:=hhi _ (Zp hk) c;rw[eh];exact hb _ (Zp hk) h eh
  ·exact Int.le_refl _
 ·obtain⟨e1,e2⟩:=at_ hk;rw[BW e2]at hh;rw[e1];unfold g0;split
  ·rw[hh];exact Int.le_refl _
  ·exact hb _ (Zp hk) h hh
 ·obtain⟨e1,e2⟩:=at_ hk;rw[MT e2]at c;rw[e1,F9 e2];unfold g0;rw[if_neg (by lia)]
 ·obtain⟨e1,e2⟩:=at_ hk;rw[MT e2]at c;rw[e1,BW e2];unfold g0;obtain⟨h,eh⟩:=hhi _ (Zp hk) c;rw[if_pos c,eh];rfl
section
def CO:Sp:=fun vs H Q _=>∃(p pa na wa:Addr) (ns:List Int) (ws:List Way) (ps:List Int),vs=[.ref p,.ref pa]∧lU H p na wa ns ws∧EY ns ws∧ns.length<60∧H pa=some (.lst (ps.map V.int))∧ps.length=ns.length∧(∀w∈ws,NM.rt ps w<0→∃h,w.hi=some h) ∧
 (∀(r l1 l2 l3:Addr) (lot:List Int) (H':Hp),aW H H'→H' r=some (.tup [.ref l1,.ref l2,.ref l3])→H' l3=some (.lst (lot.map V.int))→lot≠[]→Q (.ref r) H') ∧
 (∀(r ga pb l3:Addr) (gs:List Int) (H':Hp),aW H H'→H' r=some (.tup [.ref ga,.ref pb,.ref l3])→H' ga=some (.lst (gs.map V.int))→H' l3=some (.lst [])→gs.length=ws.length→Q (.ref r) H')
theorem KC(T:Txt K mg t)(zH:bQ P w K mg base CX0 2 t.iJ t.iI ["self","net","prices"] (MH t.a8))(QX:bQ P w K mg base CX0 2 t.CF t.B3 ["search"] (G7 t.a8))(yZ:bQ P w K mg base CX0 1 t.jY t.jT ["search","reached","last"] (G8 t.a8))
  (LH:bQ P w K mg base CX0 2 t.uD t.uB ["search","reached","last"] (ME t.a8)) (TV:bQ P w K mg base CX0 2 t.GU t.GR ["search","path","last"] (MC t.a8)):bQ P w K mg base CX0 4 t.yW t.yK ["net","prices"] CO:=by
 refine T.x6.F.ok zR (fun vs H Q E h=>?_) (fun cdv A outer s H vs Q E hr h=>?_)
 ·obtain⟨p,pa,na,wa,ns,ws,ps,rfl,_⟩:=h;rfl
 obtain⟨p,pa,na,wa,ns,ws,ps,rfl,hN,hO,h60,hP,pl,hhi,qlot,qbest⟩:=h;have nd:=zR.nd;refine⟨_,(aE (a7 2 nd (PX T.KH zH (hr.mono (by decide)) rfl T.NT T.zE .nil bE (aA (pv 0) (aA (pv 1) aC))))
  (aE (iN PassesOwn.never (cQ (aT (LC rfl) rfl T.T3 boot_any (aA (eI (pv 2) rfl) aC)) (fun _=>rfl)) (aE (a7 3 nd (bR QX hr T.IQ bE (aA (pv 2) aC)))
  (aE (a7 4 nd (aM oH (dG (GS rfl) rfl T.lV boot_list (aA (pv 3) aC)) (mO iS aH) (fun _ _=>rfl)))
  (aE (cC (aZ M9 (aM aV (eI (pv 2) rfl) (pv 4) (fun _ _=>rfl)) aH (bD _)) (aK (bC (bX (aA (bS aC) (aA (bS aC) (aA (aT (B8 rfl) rfl T.qZ boot_sorted (aA (pv 3) aC)) aC)))))) bJ)
  (aE (bN (bR yZ hr T.oM bE (aA (pv 2) (aA (pv 3) (aA (pv 4) aC)))))
  (aK (bN (bR TV hr T.N6 bE (aA (pv 2) (aA (bR LH hr T.AH bE (aA (pv 2) (aA (pv 3) (aA (pv 4) aC)))) (aA (pv 4) aC)))))))))))
  (aK (bC (bX (aA (eI (pv 2) rfl) (aA (eI (pv 2) rfl) (aA (bS aC) aC)))))))),?_⟩
 have hab:∀w∈ws,w.a<ns.length∧w.b<ns.length:=fun w hw=>⟨(hO.w w hw).a,(hO.w w hw).b⟩
 have haF:∀k,k<ws.length→aF ws k<ns.length:=fun k hk=>by rw[vK (Zz hk)];exact(hab _ (Zp hk)).1
 have hbF:∀k,k<ws.length→bF ws k<ns.length:=fun k hk=>by rw[yO (Zz hk)];exact(hab _ (Zp hk)).2
 refine⟨_,rfl,_,rfl,fun x dx nx ndx nex=>?_⟩;have s0:aW H (upd (upd H dx (.own x)) x (.ins t.a8 dx [])):=fun b o e=>by rw[aL (aJ e nx),aL (aJ e ndx)];exact e
 refine(aP x dx p pa na (aG wa ns ws ps rfl (bG aB (hN.mono s0) (s0 _ _ hP) pl hab ⟨ hO.n2,hO.w2,hhi,fun H1 A1 ds k1 S1 dk f1 f2 f3=>⟨rfl,?_⟩⟩)));have g1:aW H H1:=fun b o e=>k1 _ _ (aJ e nx) (s0 _ _ e);have gl0:(ws.map (g0 ps)).length=ws.length:=by rw[Zq]
 refine⟨fun m σ H'=>∃(ps gs rs:List Int),m=(sm ns.length (fun v=>max (at0 rs v) 0)).toNat∧aW H H'∧SAt t.a8 H' x A1 ws ds ps gs rs∧SOk ns.length ws ds ps gs rs∧iR ws.length (aF ws) (bF ws) (loF ws) (hiF ws) (coF ws) (at0 gs) (at0 ps) ∧
  (∀v,v<ns.length→at0 rs v=FL.rs ws.length (aF ws) (bF ws) (at0 ns) (at0 gs) v)∧∃o3 o4:Option V,σ=[some (.ref p),some (.ref pa),some (.ref x),o3,o4],
  (aG _ ps _ _ rfl (bG g1 S1 ⟨pl,gl0,sE _ _ _,hab,dk⟩ (UF (fun w hw h hh=>((hO.w w hw).hi h hh).1) hhi) (fun v _=>QH gl0 hab v) ⟨ _,_,rfl⟩)),?_⟩
 have fp:=s0.free f1;have fg:=s0.free f2;have fr':=s0.free f3;clear S1 k1 g1 gl0 hhi pl hP ps;rintro m σ H' ⟨ps,gs,rs,rfl,g,S,O,sr,hrs,o3,o4,rfl⟩;obtain⟨dx1,ob⟩:=S.ob;have hz:sm ns.length (at0 rs)=0:=by
  rw[gF hrs,RY haF hbF,O7,hO.z]
 refine⟨_,rfl,(aP x _ dx1 _ _ (bG rfl ob T.bT T.cL (fB _ _ _ _ _) ⟨ A1.r,(bW rs rfl (SqL.of S.r) _ rfl ?_)⟩))⟩;have hany:rs.any (· != 0)=true↔∃v,v<ns.length∧at0 rs v≠0:=by
  rw[List.any_eq_true];constructor
  ·rintro⟨y,hy,hne⟩;obtain⟨i,hi,rfl⟩:=Yy.mp hy;refine⟨i,by rw[←O.rl];exact hi,?_⟩;unfold at0;simpa[List.getD,hi] using hne
  ·rintro⟨v,hv,hne⟩;exact⟨at0 rs v,sW (by rw[O.rl];exact hv),by simpa using hne⟩
 refine eY (fun c=>?_) (fun c=>?_)
 ·obtain⟨v0,hv0,hne⟩:=hany.mp c;obtain⟨v1,hv1,hp1⟩:=MK hz hv0 hne;refine⟨_,fun σ' H'' h=>h,?_⟩;refine⟨_,rfl,(aP x A1 ws ds ps (bV gs rs ns.length rfl S ⟨ O,by lia,hO.w2,sr,fun d H2 R hd g2 d2 t2 out=>?_⟩))⟩;have out':=out.congr (rest':=FL.rs ws.length (aF ws) (bF ws) (at0 ns) (at0 gs)) hrs;have S2:=S.mono g2;have g02:=g.trans g2;have hlast:∃(R':List (Addr×En)) (y:Addr×En),R=R'++[y]:=by
   rcases List.eq_nil_or_concat R with z | ⟨R',y,z⟩
   ·exfalso;subst z;rcases out with⟨R',e,W,nr,pr,z,_⟩ | ⟨nr,pr,h,_⟩
    ·cases R'<;>cases z
    ·obtain⟨u,hu,_⟩:=h.have_pos hv1 hp1;cases hu
   ·exact⟨R',y,by rw[z,List.concat_eq_append]⟩
  obtain⟨R',y,rfl⟩:=hlast;have rdl:∀{H3:Hp},aW H2 H3→Rd H3 d (.dK (kvR (R'++[y]))):=fun g3=>.inl (g3 _ _ d2);have hyv:y.2.v<ns.length:=by
   rcases out with⟨_,_,_,_,_,_,h,_⟩ | ⟨_,_,h,_⟩
   ·exact h.lt _ (List.mem_append_left _ (by unfold es;simp))
   ·exact h.lt _ (List.mem_append_left _ (by unfold es;simp))
  have ndv:((es (R'++[y])).map (·.v)).Nodup:=by
   rcases out with⟨_,_,_,_,_,_,h,_⟩ | ⟨_,_,h,_⟩
   ·exact h.nd
   ·exact h.nd
  refine⟨_,(cU rfl d _ _ rfl ⟨ .inl d2,DN _,fun l hl=>?_⟩)⟩;have g3:=aI hl (.lst (((es (R'++[y])).map fun e=>(e.v:Int)).map V.int));refine⟨_,rfl,.inl (aG l _ _ (vn y.2.v) rfl ⟨ rfl,SqL.of aB,sU (by unfold es;simp),?_⟩)⟩;have S3:=S2.mono g3;have g03:=g02.trans g3;have d3:=g3 _ _ d2;have t3:∀z∈R'++[y],(upd H2 l (.lst (((es (R'++[y])).map fun e=>(e.v:Int)).map V.int))) z.1=some (.tup (ev z.2)):=fun z hz=>g3 _ _ (t2 z hz);have fd:H d=none:=g.free hd;have fdn:d≠A1.p∧d≠A1.g∧d≠A1.r:=⟨fun z=>(by rw[z,S.p]at hd;cases hd),fun z=>(by rw[z,S.g]at hd;cases hd),fun z=>(by rw[z,S.r]at hd;cases hd)⟩
  clear d2 t2 S2 g02 rdl hl g3;generalize upd H2 l (.lst (((es (R'++[y])).map fun e=>(e.v:Int)).map V.int))=H3 at S3 g03 d3 t3;obtain⟨dx3,ob3⟩:=S3.ob;refine⟨_,rfl,(aP x _ dx3 _ _ (bG rfl ob3 T.bT T.cL (fB _ _ _ _ _) ⟨ _,rfl,(aG A1.r _ _ _ rfl ⟨ rfl,(bB (SqL.of S3.r) (dF (j:=y.2.v) (by rw[O.rl];exact hyv) rfl) _ _ rfl ⟨ rfl,_,rfl,?_⟩)⟩)⟩))⟩;have ees:es (R'++[y])=es R'++[y.2]:=by unfold es;rw[Zt];rfl
  rcases out' with⟨E',e,W,nr,pr,hE,rc,all,neg⟩ | ⟨nr,pr,rc,all,nn⟩
  ·
   rw[ees]at hE;obtain⟨rfl,hE2⟩:=List.append_inj' hE rfl;have hE3:y.2=e:=by simpa using hE2
   subst hE3;rw[ees]at rc;have negy:at0 rs y.2.v<0:=by rw[hrs _ hyv];exact neg
   refine eZ (decide_eq_false (by lia)) ?_;obtain⟨bs,cb,hB,hcn,hcp⟩:=Back.there rc ((es R').length+1) (es R').length (Nat.lt_succ_self _) (by rw[Zm];exact Nat.lt_succ_self _);have hbo:=fun q hq=>(hB.open_ rc q hq).1;have hbs:∀q∈bs,q.1<ws.length∧(q.2=1∨q.2 = -1):=fun q hq=>⟨(hbo q hq).1,iZ (hbo q hq)⟩
   have hbl:bs.length≤1000:=by
    have h1:=hB.len;have h2:=rc.few;rw[Zm]at h2
    lia
   have hgt:(es R'++[y.2])[(es R').length]?=some y.2:=by rw[Zy (Nat.le_refl _),Nat.sub_self];rfl
   obtain⟨ql,hql,hqc⟩:∃q,bs.getLast?=some q∧sd (aF ws) (bF ws) q.1 q.2=cb:=by
    rcases hB.last with z | z
    ·exfalso;subst z;cases hB with
     |stop gg _ =>
      rw[hgt]at gg;cases gg
      lia
    ·exact z
   have hcp':0<at0 rs cb:=by rw[hrs _ hcn];exact hcp
   refine⟨_,(bO rfl _ rfl _ rfl (aP x d A1 ws ds (aP ps gs rs (R'++[y]) y (bG rfl S3 d3 (fun z hz=>⟨t3 z hz,?_⟩) ndv ⟨ by simp,fun H4 ps' k4 p4 rd4 l4 a4=>?_⟩))))⟩
   ·rw[O.pl];refine rc.lt z.2 (List.mem_append_left _ ?_);rw[←ees];exact Zh.mpr ⟨z,hz,rfl⟩
   have S4:SAt t.a8 H4 x A1 ws ds ps' gs rs:=S3.into (fun b o h1 _ _ hk h=>k4 _ _ h1 (dB h d3 (hk _)) h) p4 (k4 _ _ S3.pg.symm fdn.2.1.symm S3.g) (k4 _ _ S3.pr.symm fdn.2.2.symm S3.r);have t4:∀z∈R'++[y],H4 z.1=some (.tup (ev z.2)):=fun z hz=>k4 _ _ (dB (t3 z hz) S3.p (by intro y;cases y)) (dB (t3 z hz) d3 (by intro y;cases y)) (t3 z hz);have g4:aW H H4:=fun b o h=>k4 _ _ (aJ h fp) (aJ h fd) (g03 _ _ h);have hBl:(es R').length=R'.length:=by unfold es;rw[Zq]
   have hB':=hB;rw[←ees,hBl]at hB';refine⟨_,(bO rfl _ rfl _ rfl ⟨ _,rfl,(aP x d A1 ws ds (aP ps' gs rs (R'++[y]) y (bV R'.length cb bs rfl S4 (bG rd4 t4 ndv (by rw[Zy (Nat.le_refl _),Nat.sub_self];rfl) hB' ⟨ hbs,hbl,fun lp H5 hlp g5 dr5=>?_⟩))))⟩)⟩;have S5:=S4.mono g5;have nlg:lp≠A1.g:=fun z=>by rw[z,S4.g]at hlp;cases hlp
   have nlr:lp≠A1.r:=fun z=>by rw[z,S4.r]at hlp;cases hlp
   refine⟨_,rfl,(aP x lp A1 ws ds (aP ps' gs rs bs ql (eB y.2.v rfl S5 dr5 nlg (bG nlr hql hbl hbs O.gl ⟨ by rw[hqc,O.rl];exact hcn,by rw[O.rl];exact hyv,fun xx H6 gs' rs' x1 x2 x3 x4 k6 e6 l6 a6 r6 lr6 b6=>?_⟩))))⟩;rw[hqc]at x1 x4 b6;have hx1:1≤xx:=by
    rcases x4 with z | z | ⟨q,hq,z⟩
    ·lia
    ·lia
    ·have rr:=sr.room (hbo q hq);have hk:=(hbs q hq).1;unfold rm at z;rcases(hbs q hq).2 with e1 | e1
     ·rw[e1,if_neg (by decide)]at z;obtain⟨h,z1,z2⟩:=Xz.mp z;have:=rr.1 e1 h z1
      lia
     ·rw[e1,if_pos (by decide)]at z;have:=rr.2 e1;have:=Option.some.inj z
      lia
   have eg:at0 gs'=e9 (at0 gs) xx bs:=funext a6;have ep:at0 ps'=fun v=>at0 ps v+lift (es R'++[y.2]) y.2.d v:=by
    funext v
    rw[a4,ees]
   obtain⟨sr',hrs'⟩:=sr.step rc all hB hx1 (fun q hq e1 h hh=>x3 q hq _ (by unfold rm;rw[e1,if_neg (by decide),hh];rfl)) (fun q hq e1=>x3 q hq _ (by unfold rm;rw[e1,if_pos (by decide)]));rw[←eg,←ep]at sr';rw[←eg]at hrs';have hrs6:∀v,v<ns.length→at0 rs' v=FL.rs ws.length (aF ws) (bF ws) (at0 ns) (at0 gs') v:=fun v hv=>by rw[b6,hrs',hrs v hv]
   have less:=GB (n:=ns.length) (c:=cb) (l:=y.2.v) (r:=at0 rs) (r':=at0 rs') hcn (fun v _=>b6 v) x1 x2 hx1;have nn6:0≤sm ns.length (fun v=>max (at0 rs' v) 0):=JZ fun k _=>Int.le_max_right _ _;refine⟨_,(cU ?_ ps' gs' rs' rfl (bG (fun b o h=>k6 _ _ (aJ h fg) (aJ h fr') (g5 _ _ (g4 _ _ h))) (S5.into (fun b o _ h2 h3 _ h=>k6 _ _ h2 h3 h) (k6 _ _ S5.pg S5.pr S5.p) e6 r6) ⟨by rw[l4];exact O.pl,by rw[l6];exact O.gl,by rw[lr6];exact O.rl,hab,dk⟩ sr' hrs6 ⟨ _,_,rfl⟩))⟩
   lia
  ·
   have nny:0≤at0 rs y.2.v:=by rw[hrs _ hyv];exact nn _ (by rw[ees];simp)
   refine eV (decide_eq_true nny) ?_;refine⟨(by show 0≤ZW;decide),fun l1 hl1=>?_⟩;have k1:=aI hl1 (.lst []);refine⟨(by show 0≤ZW;decide),fun l2 hl2=>?_⟩;have k2:=aI hl2 (.lst []);have few:=rc.few;refine⟨_,(cU rfl d _ _ rfl ⟨ .inl ((k1.trans k2) _ _ d3),DN _,by rw[Zq];lia,fun l3 lot hl3 hperm hsort=>?_⟩)⟩;have k3:=aI hl3 (.lst (lot.map V.int));refine⟨(by show 3≤ZW;decide),fun r hr'=>?_⟩;have k4:=aI hr' (.tup [.ref l1,.ref l2,.ref l3]);refine qlot r l1 l2 l3 lot _ (g03.trans (k1.trans (k2.trans (k3.trans k4)))) aB (k4 _ _ aB) fun z=>by have:=hperm.length_eq;rw[z]at this;simp at this
 ·
  have hall:∀v,v<ns.length→at0 rs v=0:=fun v hv=>ZS fun z=>c (hany.mpr ⟨v,hv,z⟩);refine⟨_,rfl,(aP x _ dx1 _ _ (bG rfl ob T.bT T.eJ (sM _ _ _ _ _) ⟨ _,rfl,(aP x _ dx1 _ _ (bG rfl ob T.bT T.fP (tZ _ _ _ _ _) ⟨ (by show 0≤ZW;decide),fun l3 hl3=>?_⟩))⟩))⟩;have k3:=aI hl3 (.lst []);refine⟨(by show 3≤ZW;decide),fun r hr'=>?_⟩;have k4:=aI hr' (.tup [.ref A1.g,.ref A1.p,.ref l3]);exact qbest r A1.g A1.p l3 gs _ (g.trans (k3.trans k4)) aB ((k3.trans k4) _ _ S.g) (k4 _ _ aB) O.gl
end
end K33
namespace K33
open PySem L2 PyProof.Rows NM FL
def fre(ws:List Way)(i:Nat):List Nat:=(List.range i).filter fun k=>(hiF ws k).isNone
theorem DU(ws:List Way)(i:Nat):fre ws (i+1)=fre ws i++(if (hiF ws i).isNone=true then [i] else []):=by
 unfold fre;rw[List.range_succ,List.filter_append];congr 1;by_cases z:(hiF ws i).isNone=true
 ·rw[if_pos z,List.filter_cons_of_pos (p:=fun k=>(hiF ws k).isNone) z];rfl
 ·rw[if_neg z,List.filter_cons_of_neg (p:=fun k=>(hiF ws k).isNone) z];rfl
theorem QN{ws:List Way}{k:Nat}:k∈fre ws ws.length↔k<ws.length∧hiF ws k=none:=by
 unfold fre;rw[Yz,Zs,Option.isNone_iff_eq_none]
theorem IJ(ws:List Way)(i:Nat):(fre ws i).length≤i:=by
 have:=List.length_filter_le (fun k=>(hiF ws k).isNone) (List.range i);rw[Yj]at this;exact this
def RL:Sp:=fun _ _ _ _=>False
theorem RA{CX:CXT}{k:Nat}{f:Addr}{fd:FuncData}{ps:List Str}:bQ P w K mg base CX k f fd ps RL:=⟨fun _ _ _ _ h=>h.elim,fun _ _ _ _ _ _ _ _ _ _ _ _ _ h=>h.elim⟩
def G9:Sp:=fun vs H Q _=>∃(p na wa f pr:Addr) (o:V) (ns:List Int) (ws:List Way) (free:List Nat) (ps:List Int),vs=[.ref p,.ref f,.ref pr,o]∧lU H p na wa ns ws∧(∀w∈ws,w.a<ns.length∧w.b<ns.length)∧H f=some (.lst (vns free))∧(∀k∈free,k<ws.length) ∧
 H pr=some (.lst (ps.map V.int))∧ps.length=ns.length∧(∀w∈ws,0≤NM.rt ps w)∧Q .non H
theorem NJ(T:Txt K mg t)(yY:bQ P w K mg base CX0 1 t.yP t.yC ["way","prices"] (A7 K)):bQ P w K mg base CX0 2 t.jZ t.jU ["net","free","prices","onward"] G9:=by
 refine T.oO.F.ok mK (fun vs H Q E h=>?_) (fun cdv A outer s H vs Q E hr h=>?_)
 ·obtain⟨p,na,wa,f,pr,o,ns,ws,free,ps,rfl,_⟩:=h;rfl
 obtain⟨p,na,wa,f,pr,o,ns,ws,free,ps,rfl,hN,hab,hf,hfr,hP,pl,hz,q⟩:=h;have nd:=mK.nd;have hu:=II hr;refine⟨_,(aE (a7 4 nd eP)
  (aE (cY PassesOwn.never rfl (cK (pv 1)) (aQ (i:=5) nd rfl (Or.inl rfl)) (aE (a7 6 nd (aM aV (aM aU (pv 0) aH (fun _ _=>rfl)) (pv 5) (fun _ _=>rfl)))
  (aE (a7 7 nd (bR yY hr T.BZ bE (aA (pv 6) (aA (pv 2) aC))))
  (aK (cC (aZ fS (pv 7) aH (bD _)) (aE (l0 (pv 2) (aM aU (pv 6) aH (fun _ _=>rfl)) jM (pv 7) xV set_list)
  (aE (BK hu (pv 3) (aM aU (pv 6) aH (fun _ _=>rfl)) (pv 5) rfl)
  (aK (a7 4 nd (aM aU (pv 6) aH (fun _ _=>rfl)))))) bJ)))))
  (aK (bC (pv 4))))),?_⟩
 obtain⟨rs,e1,e2,e3⟩:=hN.w;refine(cG _ rfl f rfl ⟨_,SqL.of hf⟩ (fA (xs:=vns free) (fun j σ H'=>H=H'∧∃o5 o6 o7:Option V,σ=[some (.ref p),some (.ref f),some (.ref pr),some o,some .non,o5,o6,o7]) ⟨rfl,_,_,_,rfl⟩ (fun j σ H' _ h=>by obtain⟨rfl,_⟩:=h;exact SqL.of hf) ?_ ?_))
 ·rintro j x σ H' hx ⟨rfl,o5,o6,o7,rfl⟩;rw[Zk]at hx;obtain⟨k,hk,rfl⟩:=Xz.mp hx;have hkl:=hfr k (Zg hk);obtain⟨r,r1,r2⟩:=e3 k _ (Zz hkl);have ab:=hab _ (Zp hkl);have hz':=hz _ (Zp hkl);refine⟨_,rfl,(aG p _ _ _ rfl (aR rfl (SqT.of hN.tp) rfl _ rfl (aG wa _ _ _ rfl ⟨ rfl,SqL.of e1,c9 (by rw[Zk,r1];rfl),?_⟩)))⟩;refine⟨_,rfl,_,rfl,(aG r pr (ws[k]) ps rfl ⟨ SqT.of r2,hP,by lia,by lia,?_⟩)⟩;exact(aN _ rfl _ _ rfl ⟨ rfl,_,rfl,eY (fun z=>absurd (of_decide_eq_true z) (Int.not_lt.mpr hz')) (fun _=>⟨rfl,_,_,_,rfl⟩)⟩)
 ·rintro σ H' ⟨rfl,o5,o6,o7,rfl⟩;exact⟨_,rfl,q⟩
def zL:Sp:=fun vs H Q _=>∃(p na wa:Addr) (ns:List Int) (ws:List Way),vs=[.ref p]∧lU H p na wa ns ws∧EY ns ws∧(∀w∈ws,0≤w.c) ∧
 ∀(r pa l:Addr) (H':Hp),aW H H'→H' r=some (.tup [.ref pa,.ref l])→H' pa=some (.lst ((List.replicate ns.length (0:Int)).map V.int))→H' l=some (.lst [])→Q (.ref r) H'
theorem HK{n:Nat}{w:Way}:NM.rt (List.replicate n (0:Int)) w=w.c:=by
 have z:∀k,at0 (List.replicate n (0:Int)) k=0:=fun k=>by
  unfold at0;rw[Zv];by_cases h:k<n
  ·simp[h]
  ·simp[h]
 unfold NM.rt;rw[z,z]
 lia
theorem FW(T:Txt K mg t)(y0:bQ P w K mg base CX0 2 t.jZ t.jU ["net","free","prices","onward"] G9):bQ P w K mg base CX0 3 t.hZ t.hJ ["net"] zL:=by
 have zG:bQ P w K mg base CX0 1 t.p7 t.pX ["net","onward","knot"] RL:=RA;refine T.lH.F.ok j7 (fun vs H Q E h=>?_) (fun cdv A outer s H vs Q E hr h=>?_)
 ·obtain⟨p,na,wa,ns,ws,rfl,_⟩:=h;rfl
 obtain⟨p,na,wa,ns,ws,rfl,hN,hO,hz,qr⟩:=h;have nd:=j7.nd;have nd_number_way:(["number","way"]:List Str).Nodup:=by decide
 have nd_knot:(["knot"]:List Str).Nodup:=by decide
 refine⟨_,(aE (cN (i:=1) nd rfl (Or.inl rfl)  (N':=["knot"]) (js:=[none]) rfl (cK (aM aU (pv 0) aH (fun _ _=>rfl))) (fun _ _ _ _ _=>(aQ (i:=0) nd_knot rfl (Or.inl rfl))) (fun _ _ _ _ _=>dN) (fun _ _ _ _ _=>aH))
  (aE (a7 2 nd xC)
  (aE (cN (i:=3) nd rfl (Or.inl rfl)  (N':=["number","way"]) (js:=[none,none]) rfl (fN rfl T.dA (aA (aM aU (pv 0) aH (fun _ _=>rfl)) aC)) (fun _ _ _ _ _=>(mD (K:=K) (n:=2) rfl rfl (aY (aQ (i:=0) nd_number_way rfl (Or.inl rfl)) (aY (aQ (i:=1) nd_number_way rfl (Or.inl rfl)) cH)))) (fun _ _ _ _ _=>(BL (aZ nV (aM (BS (K:=K) rfl) (pv 1) aH (fun _ _=>rfl)) eP (bD _)))) (fun _ _ _ _ _=>(pv 0)))
  (aE (a7 4 nd eP)
  (aE (cY PassesOwn.never rfl (dI rfl T.eA (aA (aT aO rfl T.cP PySem.boot_len (aA (pv 1) aC)) aC)) (aQ (i:=5) nd rfl (Or.inl rfl)) (aE (a7 4 nd (bR y0 hr T.oO bE (aA (pv 0) (aA (pv 3) (aA (pv 1) (aA (pv 2) aC))))))
  (aK (cC (aZ nV (pv 4) eP (bD _)) (aK (bC (bX (aA (pv 1) (aA (bS aC) aC))))) bJ))))
  (aK (bC (bX (aA (pv 1) (aA (bR zG hr T.zA bE (aA (pv 0) (aA (pv 2) (aA (pv 4) aC)))) aC)))))))))),?_⟩
 have hn:=hO.n;have hn2:=hO.n2;have hw2:=hO.w2;have hab:∀w∈ws,w.a<ns.length∧w.b<ns.length:=fun w hw=>⟨(hO.w w hw).a,(hO.w w hw).b⟩
 refine⟨_,rfl,(aG p _ _ _ rfl (aR rfl (SqT.of hN.tp) rfl na rfl ⟨ ⟨_,SqL.of hN.n⟩,fun pa hpa=>?_⟩))⟩;refine fG ns.length (fun _=>.int 0) hpa (by lia) (fun i H' hi g=>⟨_,_,SqL.of (g _ _ hN.n),gM hi⟩) (fun H' g=>⟨_,SqL.of (g _ _ hN.n),by rw[Zq];exact Nat.le_refl _⟩) ?_ ?_
 ·rintro i H' x H'' k hi g ⟨rfl,hx⟩ hk;exact⟨(Fills.refl _).set _ rfl,hk _ (aW.refl _)⟩
 intro H1 g1 e1;have en:(List.range ns.length).map (fun _=>V.int 0)=(List.replicate ns.length (0:Int)).map V.int:=by
  apply Yn;intro i;by_cases h:i<ns.length
  ·simp[h]
  ·simp[h]
 rw[en]at e1;intro od hod;have g2:=aI hod (.dK []);have N2:=hN.mono (g1.trans g2);obtain⟨rs,w1,w2,w3⟩:=N2.w;refine⟨_,rfl,(aG p _ _ _ rfl (aR rfl (SqT.of N2.tp) rfl wa rfl ⟨ ⟨_,SqL.of w1⟩,fun fa hfa=>?_⟩))⟩;refine sS ws.length (fun i ys H'=>ys=vns (fre ws i)∧aW (upd H1 od (.dK [])) H'∧H' fa=some (.lst ys)) ⟨rfl,aI hfa _,aB⟩ ?_ ?_
 ·rintro i ys H' hi ⟨rfl,g3,e3⟩;have hw:ws[i]?=some ws[i]:=Zz hi;obtain⟨r,r1,r2⟩:=w3 i _ hw;have gi:(rs.map V.ref)[i]?=some (.ref r):=by rw[Zk,r1];rfl
  refine⟨⟨_,_,SqL.of (g3 _ _ w1),gi⟩,?_⟩;rintro x H'' ⟨Tp,x',rfl,hTp,rfl,hx⟩;have ex:=hx _ (SqL.of (g3 _ _ w1));rw[gi]at ex;cases ex;have g4:=aI hTp (.tup [.int (i:Int),.ref r]);have e4:atI (wv ws[i]) 3=some (vo ws[i].hi):=rfl;have lf:=IJ ws i;refine(bH Tp _ rfl (SqT.of aB) rfl ⟨ _,(aN _ rfl _ _ rfl ⟨ rfl,((Fills.refl _).set _ rfl).set _ rfl,?_⟩)⟩);refine⟨_,rfl,(aG r _ _ _ rfl ⟨ rfl,(aR (SqT.of (g4 _ _ (g3 _ _ r2))) e4 rfl _ rfl ?_)⟩)⟩;have eh:=BW hw;rcases hh:ws[i].hi with _ | h
  ·refine gO (eB _ rfl (g4 _ _ e3) ?_ ?_ ⟨ ?_,aB⟩)
   ·rw[Zq];exact Ys lf (Yt (by lia:i<1000) (by decide))
   ·rw[DU,if_pos (by rw[eh,hh];rfl)];unfold vns;rw[Zt];rfl
   ·exact fun b u h=>by rw[aL (aJ h hfa)];exact g4 _ _ (g3 _ _ h)
  ·refine dX ⟨?_,g3.trans g4,g4 _ _ e3⟩;rw[DU,if_neg (by rw[eh,hh];simp),List.append_nil]
 rintro ys H3 ⟨rfl,g3,e3⟩;refine⟨⟨_,SqL.of (g3 _ _ w1),by rw[Zq,w2];exact Nat.le_refl _⟩,?_⟩;have g03:=g1.trans (g2.trans g3);have p3:=(g2.trans g3) _ _ e1;have o3:=g3 _ _ (aB (H:=H1) (a:=od) (o:=.dK []));have N3:=N2.mono g3;have fl:=IJ ws ws.length;have nod:od≠pa:=dB o3 p3 (by intro z;cases z);have hod0:H od=none:=g1.free hod;have npf:pa≠fa:=fun z=>by rw[←z,g2 _ _ e1]at hfa;cases hfa
 have npw:pa≠wa:=fun z=>by
  obtain⟨rs0,z1,_⟩:=hN.w;rw[z,z1]at hpa;cases hpa
 have npn:pa≠na:=fun z=>by rw[z,hN.n]at hpa;cases hpa
 refine(aN _ rfl pa _ rfl (tF (.inl (SqL.of p3)) _ rfl (by simp) (by simp;lia) ?_));have ern:((((List.replicate ns.length (0:Int)).map V.int).length:Nat):Int).toNat=ns.length:=by rw[Zq,List.length_replicate];lia
 refine fX (lo:=0) (n:=((((List.replicate ns.length (0:Int)).map V.int).length:Nat):Int).toNat) (fun i σ H'=>i=0∧H3=H'∧∃o5:Option V,σ=[some (.ref p),some (.ref pa),some (.ref od),some (.ref fa),some .non,o5]) ⟨rfl,rfl,_,rfl⟩ ?_ ?_
 ·rintro i σ H' hi ⟨rfl,rfl,o5,rfl⟩;refine⟨_,(bO rfl _ rfl _ rfl ⟨ _,rfl,(aP p na wa fa pa (aP _ ns ws (fre ws ws.length) _ (bG rfl N3 hab e3 (fun k hk=>(QN.mp hk).1) ⟨ p3,by simp,fun w hw=>by rw[HK];exact hz w hw,?_⟩)))⟩)⟩;refine(bW _ rfl rfl _ rfl (gO ?_));refine⟨_,rfl,(by show 0≤ZW;decide),fun l hl=>⟨(by show 2≤ZW;decide),fun r hr'=>?_⟩⟩;have m1:=aI hl (.lst []);have m2:=aI hr' (.tup [.ref pa,.ref l]);exact qr r pa l _ (g03.trans (m1.trans m2)) aB ((m1.trans m2) _ _ p3) (m2 _ _ aB)
 ·rintro σ H' ⟨z,_⟩;rw[ern]at z
  lia
def wI:Sp:=fun vs H Q _=>∃(p na wa:Addr) (ns:List Int) (ws:List Way),vs=[.ref p]∧lU H p na wa ns ws∧EY ns ws∧(∀w∈ws,0≤w.c)∧ns.length<60 ∧
 (∀(r la:Addr) (H':Hp),aW H H'→H' r=some (.tup [.str "none",.ref la])→Q (.ref r) H') ∧
 (∀(r ga pb:Addr) (gs:List Int) (H':Hp),aW H H'→H' r=some (.tup [.str "best",.ref ga,.ref pb])→H' ga=some (.lst (gs.map V.int))→gs.length=ws.length→Q (.ref r) H')
theorem DF(T:Txt K mg t)(E3:bQ P w K mg base CX0 1 t.oW t.oS ["net"] HF)(uH:bQ P w K mg base CX0 3 t.hZ t.hJ ["net"] zL)(E2:bQ P w K mg base CX0 4 t.yW t.yK ["net","prices"] CO):bQ P w K mg base CX0 5 t.qX t.qV ["net"] wI:=by
 have vP:bQ P w K mg base CX0 1 t.mR t.mQ ["net"] RL:=RA;refine T.x9.F.ok uP (fun vs H Q E h=>?_) (fun cdv A outer s H vs Q E hr h=>?_)
 ·obtain⟨p,na,wa,ns,ws,rfl,_⟩:=h;rfl
 obtain⟨p,na,wa,ns,ws,rfl,hN,hO,hz,h60,qlot,qbest⟩:=h;have nd:=uP.nd;have nd_knot:(["knot"]:List Str).Nodup:=by decide
 refine⟨_,(aE (bN (bR E3 hr T.u4 bE (aA (pv 0) aC)))
  (aE (a7 1 nd (bR uH hr T.lH bE (aA (pv 0) aC)))
  (aE (a7 2 nd (aM aU (pv 1) aH (fun _ _=>rfl)))
  (aE (cC (cQ (pv 2) (fun _=>rfl)) (aK (a7 3 nd (bR E2 hr T.x6 bE (aA (bR vP hr T.vN bE (aA (pv 0) aC)) (aA (fO (N':=["knot"]) (js:=[none]) rfl (cK (aM aU (pv 0) aH (fun _ _=>rfl))) (fun _ _ _ _ _=>(aQ (i:=0) nd_knot rfl (Or.inl rfl))) (fun _ _ _ _ _=>dN) (fun _ _ _ _ _=>aH)) aC))))) (aK (a7 3 nd (bR E2 hr T.x6 bE (aA (pv 0) (aA (aM aU (pv 1) aH (fun _ _=>rfl)) aC))))))
  (aE (cC (cQ (aM aU (pv 3) aH (fun _ _=>rfl)) (fun _=>rfl)) (aK (bC (bX (aA dR (aA (aM aU (pv 3) aH (fun _ _=>rfl)) aC))))) bJ)
  (aE (cC (cQ (pv 2) (fun _=>rfl)) (aK (bC (bX (aA dR (aA (aM aU (pv 3) aH (fun _ _=>rfl)) (aA (pv 2) aC)))))) bJ)
  (aK (bC (bX (aA dR (aA (aM aU (pv 3) aH (fun _ _=>rfl)) (aA (aM aU (pv 3) aH (fun _ _=>rfl)) aC)))))))))))),?_⟩
 refine⟨_,rfl,(aP p na wa ns ws ⟨ rfl,hN,hO,?_⟩)⟩;refine⟨_,rfl,(aP p na wa ns ws ⟨ rfl,hN,hO,hz,fun r0 pa l H1 g1 e0 e1 e2=>?_⟩)⟩;refine⟨_,rfl,(aG r0 _ _ _ rfl ⟨ rfl,SqT.of e0,rfl,?_⟩)⟩;refine⟨_,rfl,_,.inl ⟨_,SqL.of e2,rfl⟩,dX ?_⟩;refine⟨_,rfl,_,rfl,(aG r0 _ _ _ rfl ⟨ rfl,SqT.of e0,rfl,(aP p pa na wa ns (bH ws _ rfl (hN.mono g1) hO (bG h60 e1 (by simp) (fun w hw c=>?_) ?_ ?_)))⟩)⟩
 ·rw[HK]at c;exact absurd (hz w hw) (Int.not_le.mpr c)
 ·intro r l1 l2 l3 lot H2 g2 f0 f3 hne;refine⟨_,rfl,(aG r _ _ _ rfl (aR rfl (SqT.of f0) rfl _ (.inl ⟨_,SqL.of f3,rfl⟩) (eV (by cases lot with | nil=>exact absurd rfl hne | cons _ _=>rfl) ?_)))⟩;refine⟨_,rfl,(aG r _ _ _ rfl ⟨ rfl,SqT.of f0,rfl,(by show 2≤ZW;decide),fun r2 hr2=>?_⟩)⟩;have k:=aI hr2 (.tup [.str "none",.ref l3]);exact qlot r2 l3 _ (g1.trans (g2.trans k)) aB
 ·intro r ga pb l3 gs H2 g2 f0 fg f3 G;refine⟨_,rfl,(aG r _ _ _ rfl (aR rfl (SqT.of f0) rfl _ (.inl ⟨_,SqL.of f3,rfl⟩) (dX ?_)))⟩;refine⟨_,rfl,_,.inl ⟨_,SqL.of (g2 _ _ e2),rfl⟩,dX ?_⟩;refine⟨_,rfl,(aG r _ _ _ rfl (aR rfl (SqT.of f0) rfl _ rfl (aG r _ _ _ rfl ⟨ rfl,SqT.of f0,rfl,(by show 3≤ZW;decide),fun r2 hr2=>?_⟩)))⟩;have k:=aI hr2 (.tup [.str "best",.ref ga,.ref pb]);exact qbest r2 ga pb gs _ (g1.trans (g2.trans k)) aB (k _ _ fg) G
end K33
namespace L2
open PySem PyProof.Rows
def TsI(H:Hp)(a:Addr)(ts:AW.Ts):Prop:=∃tr:List Addr,H a=some (.lst (tr.map V.ref))∧tr.length=ts.length∧∀(i:Nat) t,ts[i]?=some t→∃r,tr[i]?=some r∧H r=some (.tup [.int t.1,.int t.2])
def OsI(H:Hp)(a:Addr)(os:AW.Os):Prop:=∃tr:List Addr,H a=some (.lst (tr.map V.ref))∧tr.length=os.length∧∀(i:Nat) l,os[i]?=some l→∃r,tr[i]?=some r∧H r=some (.lst (l.map V.int))
def mH(H:Hp)(w:Addr)(m:Int)(ts:AW.Ts)(os:AW.Os):Prop:=∃tA oA:Addr,H w=some (.tup [.int m,.ref tA,.ref oA])∧TsI H tA ts∧OsI H oA os
theorem TsI.same{H H':Hp}{a:Addr}{ts:AW.Ts}(h:TsI H a ts)(g:aW H H'):TsI H' a ts:=by
 obtain⟨tr,h1,h2,h3⟩:=h;exact⟨tr,g _ _ h1,h2,fun i t e=>let⟨r,q1,q2⟩:=h3 i t e;⟨r,q1,g _ _ q2⟩⟩
theorem OsI.same{H H':Hp}{a:Addr}{os:AW.Os}(h:OsI H a os)(g:aW H H'):OsI H' a os:=by
 obtain⟨tr,h1,h2,h3⟩:=h;exact⟨tr,g _ _ h1,h2,fun i t e=>let⟨r,q1,q2⟩:=h3 i t e;⟨r,q1,g _ _ q2⟩⟩
theorem mH.same{H H':Hp}{w:Addr}{m:Int}{ts:AW.Ts}{os:AW.Os}(h:mH H w m ts os)(g:aW H H'):mH H' w m ts os:=by
 obtain⟨tA,oA,h1,h2,h3⟩:=h;exact⟨tA,oA,g _ _ h1,h2.same g,h3.same g⟩
theorem TsI.nth{H:Hp}{a:Addr}{ts:AW.Ts}{tr:List Addr}(h1:tr.length=ts.length)(h2:∀(i:Nat) t,ts[i]?=some t→∃r,tr[i]?=some r∧H r=some (.tup [.int t.1,.int t.2])){i:Nat}{x:V}(hx:(tr.map V.ref)[i]?=some x) :
  ∃t r,ts[i]?=some t∧x=.ref r∧H r=some (.tup [.int t.1,.int t.2]):=by
 rw[Zk]at hx;cases e:ts[i]? with
 |none =>
  have:tr[i]?=none:=Zr (by rw[h1];exact List.getElem?_eq_none_iff.mp e);rw[this]at hx;cases hx
 |some t =>
  obtain⟨r,q1,q2⟩:=h2 i t e;rw[q1]at hx;cases hx;exact⟨t,r,rfl,rfl,q2⟩
theorem OsI.nth{H:Hp}{os:AW.Os}{tr:List Addr}(h1:tr.length=os.length)(h2:∀(i:Nat) l,os[i]?=some l→∃r,tr[i]?=some r∧H r=some (.lst (l.map V.int))){i:Nat}{x:V}(hx:(tr.map V.ref)[i]?=some x) :
  ∃l r,os[i]?=some l∧x=.ref r∧H r=some (.lst (l.map V.int)):=by
 rw[Zk]at hx;cases e:os[i]? with
 |none =>
  have:tr[i]?=none:=Zr (by rw[h1];exact List.getElem?_eq_none_iff.mp e);rw[this]at hx;cases hx
 |some t =>
  obtain⟨r,q1,q2⟩:=h2 i t e;rw[q1]at hx;cases hx;exact⟨t,r,rfl,rfl,q2⟩
structure gE(H H':Hp)(r:Addr)(rr:List Addr)(ls:List (List V)):Prop where
 at_:H' r=some (.lst (rr.map V.ref))
 len:rr.length=ls.length
 row:∀(i:Nat) l,ls[i]?=some l→∃x,rr[i]?=some x∧H' x=some (.lst l)
 nd:rr.Nodup
 nin:r∉rr
 new:H r=none
 news:∀x∈rr,H x=none
theorem gE.keep{H H' H2:Hp}{r:Addr}{rr:List Addr}{ls:List (List V)}(n:gE H H' r rr ls)(g:aW H' H2):gE H H2 r rr ls :=
 ⟨g _ _ n.at_,n.len,fun i l h=>let⟨x,h1,h2⟩:=n.row i l h;⟨x,h1,g _ _ h2⟩,n.nd,n.nin,n.new,n.news⟩
theorem aW.fresh{H H':Hp}(g:aW H H'){x:Addr}(hx:H x=none)(o:HO):aW H (upd H' x o):=fun b u h=>by rw[aL (aJ h hx)];exact g _ _ h
theorem gE.set{H0 H:Hp}{o x:Addr}{rr:List Addr}{ls:List (List V)}(n:gE H0 H o rr ls){p:Nat}{l:List V}(hx:rr[p]?=some x):gE H0 (upd H x (.lst l)) o rr (ls.set p l) where
 at_:=by rw[aL (show o≠x from fun z=>n.nin (z▸Zg hx))];exact n.at_
 len:=by rw[List.length_set];exact n.len
 row:=fun i m h=>by
  by_cases e:p=i
  ·subst e;have hp:p<ls.length:=n.len▸(Zj.mp hx).1;rw[List.getElem?_set_self hp]at h;cases h;exact⟨x,hx,aB⟩
  ·rw[List.getElem?_set_ne e]at h;obtain⟨y,h1,h2⟩:=n.row i m h;refine⟨y,h1,?_⟩;have ne:y≠x:=by
    rintro rfl;obtain⟨a1,b1⟩:=Zj.mp h1;obtain⟨a2,b2⟩:=Zj.mp hx;exact e ((List.getElem_inj n.nd).mp (b2.trans b1.symm))
   rw[aL ne];exact h2
 nd:=n.nd
 nin:=n.nin
 new:=n.new
 news:=n.news
theorem gE.os{H H':Hp}{r:Addr}{rr:List Addr}{os:AW.Os}(n:gE H H' r rr (os.map fun l=>l.map V.int)):OsI H' r os :=
 ⟨rr,n.at_,by rw[n.len,Zq],fun i l h=>n.row i _ (by rw[Zk,h];rfl)⟩
theorem pO{J:It}{js:List (Option Nat)}{σ:St}{H1:Hp}{R:Hp→Prop}{D:Addr}{g:TG}{te:TE}(n:Nat)(fs:Nat→List V)(hD:H1 D=none)(hn:n≤100000)
  (go:∀i H',i<n→aW H1 H'→J.go i H') (stop:∀H',aW H1 H'→J.stop n H')
  (hs:∀i H' x H'' (k:V→Hp→Prop),i<n→aW H1 H'→J.yld i H' x H''→(∀a H4,H' a=none→aW H' H4→H4 a=some (.lst (fs i))→k (.ref a) H4)→g x (inner js σ) H'' fun σ2 H2=>Fills (inner js σ) σ2∧te σ2 H2 k)
  (hd:∀(rr:List Addr) H',gE H1 H' D rr ((List.range n).map fs)→aW H1 H'→R H') :
  ∃W:Nat→Nat→List V→Hp→Prop,(∃m,W 0 m [] (upd H1 D (.lst []))) ∧
   ∀i m ys H,W i m ys H→(J.stop i H∧R H)∨(J.go i H∧∃N:List V→Hp→Prop,(∀ys' H',N ys' H'→∃m',m' < m∧W (i+1) m' ys' H')∧∀x H',J.yld i H x H'→g x (inner js σ) H' fun σ2 H2=>Fills (inner js σ) σ2∧wG σ2 H2 fun b H3 =>
    if b=true then te σ2 H3 fun y H4=>H4 D=some (.lst ys)∧ys.length<ZW∧N (ys++[y]) (upd H4 D (.lst (ys++[y]))) else N ys H3):=by
 refine comp_map n (fun i ys H'=>∃rr:List Addr,ys=rr.map V.ref∧gE H1 H' D rr ((List.range i).map fs)∧aW H1 H') ⟨[],rfl,⟨aB,rfl,fun i l h=>by simp at h,List.nodup_nil,by simp,hD,by simp⟩,aI hD _⟩ ?_ ?_
 ·rintro i ys H' hi ⟨rr,rfl,w,g1⟩;have hl:rr.length=i:=by rw[w.len];simp
  refine⟨go i H' hi g1,fun x H'' hy=>hs i H' x H'' _ hi g1 hy fun a H4 ha g4 e4=>⟨g4 _ _ w.at_,?_,rr++[a],?_,?_,?_⟩⟩
  ·rw[Zq,hl];exact Yt hi (Yr hn (by decide))
  ·rw[Zt];rfl
  ·have aD:a≠D:=fun z=>by rw[z,w.at_]at ha;cases ha
   have ain:a∉rr:=fun z=>by
    obtain⟨j,hj,e⟩:=Yy.mp z;have hj':j<((List.range i).map fs).length:=w.len▸hj;obtain⟨y,h1,h2⟩:=w.row j _ (Zz hj');rw[Zz hj,e]at h1;cases h1;rw[ha]at h2;cases h2
   refine⟨by rw[Zt];exact aB,by simp[hl],fun j l h=>?_,?_,?_,hD,?_⟩
   ·by_cases hj:j<i
    ·have e:((List.range (i+1)).map fs)[j]?=((List.range i).map fs)[j]?:=by simp[hj,YQ hj]
     rw[e]at h;obtain⟨y,h1,h2⟩:=w.row j l h;have yD:y≠D:=fun z=>w.nin (z▸Zg h1);exact⟨y,by rw[Zx (by lia)];exact h1,by rw[aL yD];exact g4 _ _ h2⟩
    ·have hj2:j=i:=by
      have:=(Zj.mp h).1;simp at this;lia
     subst hj2;have e:l=fs j:=by simpa using h.symm
     subst e;exact⟨a,by rw[←hl,Yx],by rw[aL aD];exact e4⟩
   ·rw[List.nodup_append];refine⟨w.nd,by simp,fun b hb c hc z=>?_⟩;have e:c=a:=by simpa using hc
    subst e;subst z;exact ain hb
   ·intro z;rcases Zf.mp z with z | z
    ·exact w.nin z
    ·exact aD (Zb.mp z).symm
   ·intro y hy;rcases Zf.mp hy with z | z
    ·exact w.news y z
    ·rw[Zb.mp z];exact g1.free ha
  ·exact(g1.trans g4).fresh hD _
 ·rintro ys H' ⟨rr,rfl,w,g1⟩;exact⟨stop H' g1,hd rr H' w g1⟩
theorem gE.item{H0 H:Hp}{o:Addr}{rr:List Addr}{n:Nat}{f:Nat→List V}(w:gE H0 H o rr ((List.range n).map f)){p:Nat}(hp:p<n) :
  ∃x,rr[p]?=some x∧H x=some (.lst (f p))∧H0 x=none∧atI (rr.map V.ref) (p:Int)=some (.ref x):=by
 obtain⟨x,h1,h2⟩:=w.row p (f p) (by simp[hp]);exact⟨x,h1,h2,w.news x (Zg h1),c9 (by rw[Zk,h1];rfl)⟩
theorem set_range{n p:Nat}{f:Nat→List V}{v:List V}:((List.range n).map f).set p v=(List.range n).map fun i=>if i=p then v else f i:=by
 refine Yn fun i=>?_;rw[List.getElem?_set];by_cases e:p=i
 ·subst e;by_cases h:p<n<;>simp[h]
 ·rw[if_neg e];by_cases h:i<n
  ·simp[h,Ne.symm e]
  ·simp[h]
theorem gE.put{H0 H:Hp}{o x:Addr}{rr:List Addr}{n p:Nat}{f:Nat→List V}(w:gE H0 H o rr ((List.range n).map f))(hx:rr[p]?=some x)(l:List V) :
  gE H0 (upd H x (.lst l)) o rr ((List.range n).map fun i=>if i=p then l else f i):=by
 rw[←set_range];exact w.set hx
theorem gE.other{H0 H:Hp}{o x:Addr}{rr:List Addr}{ls:List (List V)}(n:gE H0 H o rr ls)(h1:x≠o)(h2:x∉rr)(u:HO):gE H0 (upd H x u) o rr ls :=
 ⟨by rw[aL (Ne.symm h1)];exact n.at_,n.len,fun i l h=>by
  obtain⟨y,a,b⟩:=n.row i l h;have ne:y≠x:=fun z=>h2 (by rw[←z];exact Zg a);exact⟨y,a,by rw[aL ne];exact b⟩,n.nd,n.nin,n.new,n.news⟩
theorem gE.notIn{H0 H:Hp}{o x:Addr}{rr:List Addr}{ls:List (List V)}(n:gE H0 H o rr ls)(hx:H x=none):x∉rr:=fun z=>by
 obtain⟨i,hi,e⟩:=Yy.mp z;obtain⟨y,a,b⟩:=n.row i _ (Zz (n.len▸hi));rw[Zz hi,e]at a;cases a;rw[hx]at b;cases b
theorem E7{tt r:TS}{D:Ends}{σ:St}{H:Hp}(I:St→Hp→Prop)(ht:∀N:St→Hp→Prop,(∀σ' H',I σ' H'→N σ' H')→tt { D with nx:=N } σ H)(hr:∀σ' H',I σ' H'→r D σ' H'):JS tt r D σ H:=ht _ hr
abbrev vv(os:AW.Os):List (List V):=os.map fun l=>l.map V.int
theorem gE.at'{H0 H:Hp}{o:Addr}{rr:List Addr}{os:AW.Os}(w:gE H0 H o rr (vv os)){p:Nat}(hp:p<os.length) :
  ∃x,rr[p]?=some x∧H x=some (.lst (os[p].map V.int))∧H0 x=none∧atI (rr.map V.ref) (p:Int)=some (.ref x):=by
 obtain⟨x,h1,h2⟩:=w.row p (os[p].map V.int) (by rw[Zk,Zz hp];rfl);exact⟨x,h1,h2,w.news x (Zg h1),c9 (by rw[Zk,h1];rfl)⟩
theorem gE.setI{H0 H:Hp}{o x:Addr}{rr:List Addr}{os:AW.Os}(w:gE H0 H o rr (vv os)){p:Nat}(hx:rr[p]?=some x)(l:List Int):gE H0 (upd H x (.lst (l.map V.int))) o rr (vv (os.set p l)):=by
 have:=w.set (l:=l.map V.int) hx
 rwa [show(vv os).set p (l.map V.int)=vv (os.set p l) from(List.map_set ..).symm]at this
end L2
namespace AW
theorem jO:∀(os:Os) (p:Nat) (l:List Int) (h:p<os.length),(os.set p l).flatten.length+os[p].length=os.flatten.length+l.length
 |[],p,_,h=>absurd h (Nat.not_lt_zero _)
 |o::os,0,l,_=>by simp;lia
 |o::os,p+1,l,h=>by
  have:=jO os p l (by simpa using h);simp only[List.set_cons_succ,List.flatten_cons,Zm,List.getElem_cons_succ]
  lia
def KR(m:Int)(ts:Ts):Bool:=ts.all fun t=>(decide (0≤t.1)&&decide (t.1<m))&&(decide (0≤t.2)&&decide (t.2<m))
theorem DS{m:Int}{ts:Ts}:KR m ts=true↔InW m ts:=by
 unfold KR InW;rw[List.all_eq_true];simp only[Xw,decide_eq_true_eq]
end AW
namespace K33
open PySem L2 PyProof.Rows
theorem ch0{σ:L2.St}{H:Hp}{Q:VK}{i j:Nat}{x m:Int}(h1:σ[i]?=some (some (.int x)))(h2:σ[j]?=some (some (.int m)))(q:Q (.bl (decide (0≤x)&&decide (x<m))) H) :
  wH (rI0 fun i j=>V.bl (decide (i≤j))) (rI0 fun i j=>V.bl (decide (i<j))) (tC (V.int 0)) (OU i) (OU j) σ H Q:=by
 refine⟨_,h1,_,_,rfl,rfl,_,rfl,?_⟩;by_cases c:(0:Int)≤x
 ·rw[if_pos (decide_eq_true c)];rw[decide_eq_true c,Bool.true_and]at q;exact⟨_,h2,_,_,rfl,rfl,q⟩
 ·rw[if_neg (by simpa using c)];rw[decide_eq_false c,Bool.false_and]at q;exact q
def UG:Sp:=fun vs H Q _=>∃(m:Int) (a:Addr) (ts:AW.Ts),vs=[.int m,.ref a]∧TsI H a ts∧ts.length≤1000∧∀H',aW H H'→Q (.bl (AW.KR m ts)) H'
theorem SI(T:Txt K mg t):bQ P w K mg base CX0 1 t.jX t.jS ["many","ties"] UG:=by
 refine T.jQ.F.ok iV (fun vs H Q E h=>?_) (fun cdv A outer s H vs Q E hr h=>?_)
 ·obtain⟨m,a,ts,rfl,_⟩:=h;rfl
 obtain⟨m,a,ts,rfl,⟨tr,e1,e2,e3⟩,hl,q⟩:=h;have nd:=iV.nd;have nd_a_b_many:(["a","b","many"]:List Str).Nodup:=by decide
 refine⟨_,(aK (bC (aT (AR rfl) rfl T.Q0 boot_all (aA (fO (N':=["a","b","many"]) (js:=[none,none,some 0]) rfl (cK (pv 1)) (fun _ _ _ _ _=>(mD (K:=K) (n:=2) rfl rfl (aY (aQ (i:=0) nd_a_b_many rfl (Or.inl rfl)) (aY (aQ (i:=1) nd_a_b_many rfl (Or.inl rfl)) cH)))) (fun _ _ _ _ _=>dN) (fun _ _ _ _ _=>(M5 (DB rZ fS aH (pv 0) (pv 2)) (FS (DB rZ fS aH (pv 1) (pv 2)))))) aC)))),?_⟩;refine(cG _ rfl a rfl ⟨_,SqL.of e1⟩ (fun D hD=>?_))
 let fs:Nat→Bool:=fun k=>(ts[k]?).any fun t=>(decide (0≤t.1)&&decide (t.1<m))&&(decide (0≤t.2)&&decide (t.2<m))
 refine fG ts.length (fun k=>.bl (fs k)) hD (by lia) (fun i H' hi g2=>?_) (fun H' g2=>⟨_,SqL.of (g2 _ _ e1),by rw[Zq];lia⟩) ?_ ?_
 ·obtain⟨r,q1,_⟩:=e3 i ts[i] (Zz hi);exact⟨_,.ref r,SqL.of (g2 _ _ e1),by rw[Zk,q1];rfl⟩
 ·rintro i H' x H'' k hi g2 ⟨rfl,hx⟩ hk;obtain⟨t,r,et,rfl,er⟩:=TsI.nth (a:=a) e2 e3 (hx _ (SqL.of (g2 _ _ e1)));have hf:fs i=((decide (0≤t.1)&&decide (t.1<m))&&(decide (0≤t.2)&&decide (t.2<m))):=by show(ts[i]?).any _=_;rw[et];rfl
  have hk0:=hk H'' (aW.refl _);rw[hf]at hk0;refine(bH r _ rfl (SqT.of (g2 _ _ er)) rfl ?_);refine⟨_,(aN _ rfl _ _ rfl ⟨ rfl,((Fills.refl _).set _ rfl).set _ rfl,?_⟩)⟩;refine ch0 (x:=t.1) (m:=m) rfl rfl ⟨_,rfl,?_⟩;by_cases c:(decide (0≤t.1)&&decide (t.1<m))=true
  ·rw[if_pos c];rw[c,Bool.true_and]at hk0;exact ch0 (x:=t.2) (m:=m) rfl rfl hk0
  ·rw[if_neg c];rw[Bool.eq_false_iff.mpr c,Bool.false_and]at hk0;exact hk0
 ·intro H' g2 hD';rw[show(List.range ts.length).map (fun k=>V.bl (fs k))=((List.range ts.length).map fs).map V.bl by rw[Yh];rfl]at hD';refine⟨D,_,rfl,SqL.of hD',?_⟩;have e:((List.range ts.length).map fs).all id=AW.KR m ts:=by
   unfold AW.KR;rw[Xx,List.all_eq_true,List.all_eq_true];constructor
   ·intro h x hx;obtain⟨i,hi,rfl⟩:=Yy.mp hx;have:=h (fs i) (Zh.mpr ⟨i,Zs.mpr hi,rfl⟩);have e:fs i=_:=(show(ts[i]?).any _=_ from by rw[Zz hi])
    rw[e]at this;exact this
   ·intro h b hb;obtain⟨i,hi,rfl⟩:=Zh.mp hb;have hi:=Zs.mp hi;have e:fs i=_:=(show(ts[i]?).any _=_ from by rw[Zz hi])
    rw[e];exact h _ (Zp hi)
  rw[e];exact q H' g2
def UJ:Sp:=fun vs H Q _=>∃(m:Nat) (a:Addr) (ts:AW.Ts),vs=[vn m,.ref a]∧TsI H a ts∧AW.InW m ts∧m≤1000∧ts.length≤1000 ∧
 ∀(r:Addr) (H':Hp),aW H H'→OsI H' r ((List.range m).map fun p:Nat=>AW.endsAt ts p)→Q (.ref r) H'
theorem SM(T:Txt K mg t):bQ P w K mg base CX0 1 t.lS t.lN ["many","ties"] UJ:=by
 refine T.lK.F.ok j9 (fun vs H Q E h=>?_) (fun cdv A outer s H vs Q E hr h=>?_)
 ·obtain⟨m,a,ts,rfl,_⟩:=h;rfl
 obtain⟨m,a,ts,rfl,⟨tr,e1,e2,e3⟩,hw,hm,hl,q⟩:=h;have nd:=j9.nd;have nd_place:(["place"]:List Str).Nodup:=by decide
 refine⟨_,(aE (cN (i:=2) nd rfl (Or.inl rfl)  (N':=["place"]) (js:=[none]) rfl (dI rfl T.eA (aA (pv 0) aC)) (fun _ _ _ _ _=>(aQ (i:=0) nd_place rfl (Or.inl rfl))) (fun _ _ _ _ _=>dN) (fun _ _ _ _ _=>(bS aC)))
  (aE (cY PassesOwn.never rfl (fN rfl T.dA (aA (pv 1) aC)) (dU rfl (aY (aQ (i:=3) nd rfl (Or.inl rfl)) (aY (aQ (i:=4) nd rfl (Or.inl rfl)) cH))) (aE (bN (kO mAp cD (aM aV (pv 2) (aM aU (pv 4) aH (fun _ _=>rfl)) (fun _ _=>rfl)) (aA (aX dW aH (pv 3)) aC)))
  (aK (bN (kO mAp cD (aM aV (pv 2) (aM aU (pv 4) aH (fun _ _=>rfl)) (fun _ _=>rfl)) (aA (aX cV (aX dW aH (pv 3)) aH) aC))))))
  (aK (bC (pv 2))))),?_⟩
 refine(cG _ rfl (m:Int) rfl (by lia) ⟨ by lia,fun D hD=>?_⟩);refine pO m (fun _=>[]) hD (by lia) (fun i H' hi g2=>?_) (fun H' g2=>?_) ?_ ?_
 ·show i<((m:Int)-0).toNat;lia
 ·show((m:Int)-0).toNat≤m;lia
 ·rintro i H' x H'' k hi g2 hy hk;obtain⟨e,y⟩:=hy;subst e;exact⟨(Fills.refl _).set _ rfl,(by show 0≤ZW;decide),fun l hl'=>hk l _ hl' (aI hl' _) aB⟩
 ·intro rr H1 w1 g1
  let F:Nat→Nat→List V:=fun k p=>(AW.endsAt (ts.take k) p).map V.int
  refine(cG _ rfl a rfl ⟨_,SqL.of (g1 _ _ e1)⟩ (gI (K:=K) (a:=a) (xs:=tr.map V.ref) (fun k σ H'=>(∃v3 v4,σ=[some (vn m),some (.ref a),some (.ref D),v3,v4])∧gE H H' D rr ((List.range m).map (F k))∧aW H H') ⟨⟨_,_,rfl⟩,?_,g1⟩ ?_ ?_ ?_))
  ·have e:F 0=fun _=>[]:=by funext p;show(AW.endsAt (ts.take 0) p).map V.int=[];rw[List.take_zero];rfl
   rw[e];exact w1
  ·rintro i σ H' hi ⟨_,_,g2⟩;exact SqL.of (g2 _ _ e1)
  ·rintro i x σ H' Tp hx ⟨⟨v3,v4,rfl⟩,w2,g2⟩ hTp;obtain⟨⟨u,v⟩,r,et,rfl,er⟩:=TsI.nth (a:=a) e2 e3 hx;obtain⟨⟨u0,u1⟩,v0,v1⟩:=hw _ (Zg et);obtain⟨p1,rfl⟩:=Xv u0;obtain⟨p2,rfl⟩:=Xv v0;have u1:p1<m:=Int.ofNat_lt.mp u1;have v1:p2<m:=Int.ofNat_lt.mp v1;have hi:i<ts.length:=(Zj.mp et).1;have g3:=g2.trans (aI hTp (.tup [vn i,.ref r]));have w3:=w2.keep (aI hTp (.tup [vn i,.ref r]));have small:∀(k p:Nat),(F k p).length<ZW:=fun k p=>by
    show((AW.endsAt (ts.take k) p).map V.int).length<ZW;have h1:(AW.endsAt (ts.take k) p).length≤(AW.all2 (ts.take k)).length:=List.length_filter_le ..;have h2:(AW.all2 (ts.take k)).length≤2000:=by unfold AW.all2;rw[Zq,Yj,Yw];lia
    rw[Zq];exact Ys (Yr h1 h2) (by decide)
   refine(bH Tp _ rfl (SqT.of aB) rfl ⟨ _,(aN _ rfl _ _ rfl ⟨ rfl,?_⟩)⟩);obtain⟨x1,a1,b1,c1,d1⟩:=w3.item u1;refine⟨_,rfl,_,rfl,(aG r _ _ _ rfl ⟨ rfl,SqT.of (g3 _ _ er),rfl,(aG D _ _ _ rfl ⟨ rfl,(aR (SqL.of w3.at_) d1 (.inl ⟨rfl,_,SqL.of b1⟩) _ rfl (bH _ _ rfl rfl (.inl ⟨by decide,by decide⟩) (bV x1 _ _ rfl rfl ⟨ b1,small i p1,?_⟩)))⟩)⟩)⟩;have w4:=w3.put a1 (F i p1++[V.int (2*(i:Int))]);have g4:=g3.fresh c1 (.lst (F i p1++[V.int (2*(i:Int))]));obtain⟨x2,a2,b2,c2,d2⟩:=w4.item v1;refine⟨_,rfl,_,rfl,(aG r _ _ _ rfl ⟨ rfl,SqT.of (g4 _ _ er),rfl,(aG D _ _ _ rfl ⟨ rfl,(aR (SqL.of w4.at_) d2 (.inl ⟨rfl,_,SqL.of b2⟩) _ rfl (bH _ _ rfl rfl (.inl ⟨by decide,by decide⟩) ⟨ _,_,rfl,(cU rfl x2 _ _ rfl (bG rfl b2 ?_ ⟨_,_,rfl⟩ ?_ (g4.fresh c2 _)))⟩))⟩)⟩)⟩
   ·show(if p2=p1 then F i p1++[V.int (2*(i:Int))] else F i p2).length<ZW;have h1:=small i p1;have h2:=small i p2;split
    ·rw[Zm];have h3:(AW.endsAt (ts.take i) p1).length≤(AW.all2 (ts.take i)).length:=List.length_filter_le ..;have h4:(AW.all2 (ts.take i)).length≤2000:=by unfold AW.all2;rw[Zq,Yj,Yw];lia
     have h5:(F i p1).length=(AW.endsAt (ts.take i) p1).length:=Zq ..;exact Ys (show _≤2001 by rw[h5];simp;lia) (by decide)
    ·exact h2
   ·have w5:=w4.put a2 ((if p2=p1 then F i p1++[V.int (2*(i:Int))] else F i p2)++[V.int (2*(i:Int)+1)]);have e:(fun j=>if j=p2 then (if p2=p1 then F i p1++[V.int (2*(i:Int))] else F i p2)++[V.int (2*(i:Int)+1)] else if j=p1 then F i p1++[V.int (2*(i:Int))] else F i j)=F (i+1):=by
     funext j
     have ht:ts.take (i+1)=ts.take i++[((p1:Int),(p2:Int))]:=by rw[List.take_add_one,et];rfl
     have hlt:(ts.take i).length=i:=by rw[Yw];lia
     show _=(AW.endsAt (ts.take (i+1)) j).map V.int;rw[ht,AW.EA,hlt,Zt,Zt];have c1:((p1:Int)=(j:Int))↔(j=p1):=by lia
     have c2:((p2:Int)=(j:Int))↔(j=p2):=by lia
     simp only[c1,c2];by_cases k2:j=p2
     ·subst k2;by_cases k1:j=p1
      ·subst k1;simp[F]
      ·simp[F,k1]
     ·by_cases k1:j=p1
      ·subst k1;simp[F,k2]
      ·simp[F,k1,k2]
    rw[e]at w5;exact w5
  ·rintro σ H' ⟨⟨v3,v4,rfl⟩,w2,g2⟩;refine⟨_,rfl,q D H' g2 ?_⟩;have e:F (tr.map V.ref).length=fun p:Nat=>(AW.endsAt ts p).map V.int:=by funext p;show(AW.endsAt (ts.take _) p).map V.int=_;rw[Zq,e2,Yv]
   rw[e]at w2;refine gE.os (rr:=rr) (H:=H) ?_;rw[Yh];exact w2
def RK:Sp:=fun vs H Q _=>∃(wa:Addr) (m:Nat) (ts:AW.Ts) (os:AW.Os),vs=[.ref wa]∧mH H wa m ts os∧AW.InW m ts∧m≤1000∧ts.length≤1000 ∧
 ∀(b:Bool) (H':Hp),aW H H'→(b=true↔os.length=m∧AW.Fit ts os)→Q (.bl b) H'
theorem P7(T:Txt K mg t):bQ P w K mg base CX0 2 t.sZ t.sR ["web"] RK:=by
 refine T.sO.F.ok pR (fun vs H Q E h=>?_) (fun cdv A outer s H vs Q E hr h=>?_)
 ·obtain⟨wa,m,ts,os,rfl,_⟩:=h;rfl
 obtain⟨wa,m,ts,os,rfl,⟨tA,oA,hw,hT,or,o1,o2,o3⟩,hin,hm,hl,q⟩:=h;have nd:=pR.nd;refine⟨_,(aE (a7 1 nd (aM aU (pv 0) aH (fun _ _=>rfl)))
  (aE (cC (aZ xD (aT aO rfl T.cP PySem.boot_len (aA (pv 1) aC)) (aM aU (pv 0) aH (fun _ _=>rfl)) (bD _)) (aK (bC pT)) bJ)
  (aE (cY PassesOwn.never rfl (FR rfl T.LJ (aA (pv 1) (aA (bR (SM T) hr T.lK bE (aA (aM aU (pv 0) aH (fun _ _=>rfl)) (aA (aM aU (pv 0) aH (fun _ _=>rfl)) aC))) aC))) (dU rfl (aY (aQ (i:=2) nd rfl (Or.inl rfl)) (aY (aQ (i:=3) nd rfl (Or.inl rfl)) cH))) (aK (cC (PW.pt (rT (aZ zZ (aT aO rfl T.cP PySem.boot_len (aA (pv 2) aC)) (cE (v:=.int 4) rfl T.cZ ⟨_,rfl⟩) (bD _)) (nN (aZ (qO hr.units) (aT B7 rfl T.qZ boot_sorted (aA (pv 2) aC)) (pv 3) (bD _))))) (aK (bC pT)) bJ)))
  (aK (bC pT))))),?_⟩
 refine⟨_,rfl,(aG wa _ _ _ rfl ⟨ rfl,SqT.of hw,rfl,?_⟩)⟩;refine(aN _ rfl oA _ rfl ⟨ .inl (SqL.of o1),_,rfl,(aG wa _ _ _ rfl ⟨ rfl,(aR (SqT.of hw) rfl rfl _ rfl (eY (fun c=>?_) (fun c=>?_)))⟩)⟩)
 ·refine q false H (aW.refl _) ⟨fun z=>Bool.noConfusion z,fun z=>?_⟩;rw[Zq,o2,z.1]at c;simp at c
 have hlen:os.length=m:=by
  rw[Zq,o2]at c;apply ZS;intro z;apply c;simp only[Bool.not_eq_true',decide_eq_false_iff_not];intro z2;exact z (Int.ofNat.inj (V.int.inj z2))
 refine⟨_,rfl,_,rfl,(aG wa _ _ _ rfl (aR rfl (SqT.of hw) rfl _ rfl (aG wa _ _ _ rfl ⟨ rfl,SqT.of hw,(cU rfl m tA ts rfl ⟨ hT,hin,hm,hl,fun r H1 g1 hE=>?_⟩)⟩)))⟩;obtain⟨er,r1,r2,r3⟩:=hE;refine(aG oA r _ _ rfl ⟨ g1 _ _ o1,r1,IL (xs:=or.map V.ref) (ys:=er.map V.ref) (fun k σ H'=>(∃v2 v3,σ=[some (.ref wa),some (.ref oA),v2,v3])∧aW H1 H'∧∀(i:Nat) o,i<k→os[i]?=some o→o.length≤4∧o.Perm (AW.endsAt ts i)) ?_ ⟨⟨_,_,rfl⟩,aW.refl _,fun i o hi=>by lia⟩ ?_ ?_ ?_⟩)
 ·rw[Zq,Zq,o2,r2,Zq,Yj,hlen]
 ·rintro i σ H' hi ⟨_,g2,_⟩;exact⟨g2 _ _ (g1 _ _ o1),g2 _ _ r1⟩
 ·rintro i x y σ H' Tp hx hy ⟨⟨v2,v3,rfl⟩,g2,ih⟩ hTp;obtain⟨o,ra,eo,rfl,era⟩:=OsI.nth o2 o3 hx;obtain⟨l,rb,el,rfl,erb⟩:=OsI.nth r2 r3 hy;have hi:i<m:=by rw[←hlen];exact(Zj.mp eo).1
  have el2:l=AW.endsAt ts i:=by
   have:((List.range m).map fun p:Nat=>AW.endsAt ts p)[i]?=some (AW.endsAt ts i):=by simp[hi]
   rw[this]at el;exact(Option.some.inj el).symm
  subst el2;have g3:=g2.trans (aI hTp (.tup [.ref ra,.ref rb]));refine(bH Tp _ rfl (SqT.of aB) rfl ⟨ _,(aN _ rfl _ _ rfl ⟨ rfl,?_⟩)⟩);refine(aN _ rfl ra _ rfl (cM (.inl (SqL.of (g3 _ _ (g1 _ _ era)))) _ _ rfl rfl ⟨ _,rfl,eY (fun c=>gO ?_) (fun c=>?_)⟩))
  ·have c:(4:Int)<((o.map V.int).length:Nat):=of_decide_eq_true c;rw[Zq]at c;refine q false _ (g1.trans g3) ⟨fun z=>Bool.noConfusion z,fun z=>?_⟩;have:=(z.2 i o eo).1
   lia
  have c4:o.length≤4:=by
   rw[Zq]at c;simp only[decide_eq_true_eq]at c
   lia
  refine(aN _ rfl ra o rfl ⟨ SqL.of (g3 _ _ (g1 _ _ era)),by lia,fun ls ns' hls p1 p2=>?_⟩);have g4:=g3.trans (aI hls (.lst (ns'.map V.int)));refine(aN _ rfl _ _ (gL aB) (aR (gL (g4 _ _ erb)) (shaped_ints _) (shaped_ints _) _ rfl ?_));rw[lL];by_cases e:ns'=AW.endsAt ts i
  ·rw[decide_eq_true e];refine dX ⟨⟨_,_,rfl⟩,g4,fun j o' hj ho'=>?_⟩;by_cases hj2:j<i
   ·exact ih j o' hj2 ho'
   ·have:j=i:=by lia
    subst this;rw[eo]at ho';cases ho';exact⟨c4,e▸p1.symm⟩
  ·rw[decide_eq_false e];refine gO (q false _ (g1.trans g4) ⟨fun z=>Bool.noConfusion z,fun z=>?_⟩);exact absurd (AW.JW (p1.trans (z.2 i o eo).2) p2 (AW.JP ts i)) e
 ·rintro σ H' ⟨⟨v2,v3,rfl⟩,g2,ih⟩;refine q true H' (g1.trans g2) ⟨fun _=>⟨hlen,fun i o hio=>ih i o ?_ hio⟩,fun _=>rfl⟩;rw[Zq,o2];exact(Zj.mp hio).1
def RO:Sp:=fun vs H Q _=>∃(m:Nat) (a:Addr) (ts:AW.Ts),vs=[vn m,.ref a]∧TsI H a ts∧AW.InW m ts∧0<m∧m≤1000∧ts.length≤1000 ∧
 ∀(b:Bool) (H':Hp),aW H H'→(b=true↔AW.yX m ts)→Q (.bl b) H'
def OM(H:Hp)(m:Nat)(ts:AW.Ts)(D rA wA:Addr)(rr:List Addr)(R:List Bool)(W:List Int)(H':Hp):Prop :=
 gE H H' D rr ((List.range m).map fun p:Nat=>(AW.nbs ts p).map V.int)∧H' rA=some (.lst (R.map V.bl))∧H' wA=some (.lst (W.map V.int))∧aW H H'
theorem QD(ts:AW.Ts)(p:Int):(AW.nbs ts p).length≤2*ts.length:=by
 induction ts with
 |nil=>exact Nat.le_refl _
 |cons t ts ih =>
  unfold AW.nbs AW.nb at ih ⊢;rw[List.flatMap_cons,Zm,Yq,Zm];have h1:(if t.1=p then [t.2] else []).length≤1:=by split<;>simp
  have h2:(if t.2=p then [t.1] else []).length≤1:=by split<;>simp
  lia
theorem QA(T:Txt K mg t):bQ P w K mg base CX0 1 t.lQ t.lM ["many","ties"] RO:=by
 refine T.lJ.F.ok j8 (fun vs H Q E h=>?_) (fun cdv A outer s H vs Q E hr h=>?_)
 ·obtain⟨m,a,ts,rfl,_⟩:=h;rfl
 obtain⟨m,a,ts,rfl,⟨tr,e1,e2,e3⟩,hw,hm0,hm,hl,q⟩:=h;have nd:=j8.nd;have nd_place:(["place"]:List Str).Nodup:=by decide
 refine⟨_,(aE (cN (i:=2) nd rfl (Or.inl rfl)  (N':=["place"]) (js:=[none]) rfl (dI rfl T.eA (aA (pv 0) aC)) (fun _ _ _ _ _=>(aQ (i:=0) nd_place rfl (Or.inl rfl))) (fun _ _ _ _ _=>dN) (fun _ _ _ _ _=>(bS aC)))
  (aE (cY PassesOwn.never rfl (cK (pv 1)) (dU rfl (aY (aQ (i:=3) nd rfl (Or.inl rfl)) (aY (aQ (i:=4) nd rfl (Or.inl rfl)) cH))) (aE (bN (kO mAp cD (aM aV (pv 2) (pv 3) (fun _ _=>rfl)) (aA (pv 4) aC)))
  (aK (bN (kO mAp cD (aM aV (pv 2) (pv 4) (fun _ _=>rfl)) (aA (pv 3) aC))))))
  (aE (cN (i:=5) nd rfl (Or.inl rfl)  (N':=["place"]) (js:=[none]) rfl (dI rfl T.eA (aA (pv 0) aC)) (fun _ _ _ _ _=>(aQ (i:=0) nd_place rfl (Or.inl rfl))) (fun _ _ _ _ _=>dN) (fun _ _ _ _ _=>(iY fK (pv 0) aH (bD _))))
  (aE (a7 6 nd (bS (aA aH aC)))
  (aE (iN PassesOwn.never (cQ (pv 6) (fun _=>rfl)) (aE (a7 7 nd (FT PySem.F.plainAttrs_list PySem.F.slot_list_pop PySem.F.type_list_pop F3 (pv 6)))
  (aK (cY PassesOwn.never rfl (cK (aM aV (pv 2) (pv 7) (fun _ _=>rfl))) (aQ (i:=8) nd rfl (Or.inl rfl)) (aK (cC (gH (cQ (aM aV (pv 5) (pv 8) (fun _ _=>rfl)) (fun _=>rfl))) (aE (l7 pT (kN (pv 5) (pv 8) set_list))
  (aK (bN (kO mAp cD (pv 6) (aA (pv 8) aC))))) bJ))))))
  (aK (bC (aT (AR rfl) rfl T.Q0 boot_all (aA (pv 5) aC))))))))),?_⟩
 refine(cG _ rfl (m:Int) rfl (by lia) ⟨ by lia,fun D hD=>?_⟩);refine pO m (fun _=>[]) hD (by lia) (fun i H' hi g2=>?_) (fun H' g2=>?_) ?_ ?_
 ·show i<((m:Int)-0).toNat;lia
 ·show((m:Int)-0).toNat≤m;lia
 ·rintro i H' x H'' k hi g2 ⟨e,y⟩ hk;subst e;exact⟨(Fills.refl _).set _ rfl,(by show 0≤ZW;decide),fun l hl'=>hk l _ hl' (aI hl' _) aB⟩
 intro rr H1 w1 g1
 let F:Nat→Nat→List V:=fun k p=>(AW.nbs (ts.take k) p).map V.int
 have small:∀(k p:Nat),(F k p).length≤2000:=fun k p=>by
  show((AW.nbs (ts.take k) p).map V.int).length≤2000;have h1:=QD (ts.take k) p;rw[Yw]at h1;rw[Zq];lia
 refine(cG _ rfl a rfl ⟨_,SqL.of (g1 _ _ e1)⟩ (fA (K:=K) (a:=a) (xs:=tr.map V.ref) (fun k σ H'=>(∃v3 v4,σ=[some (vn m),some (.ref a),some (.ref D),v3,v4,none,none,none,none])∧gE H H' D rr ((List.range m).map (F k))∧aW H H') ⟨⟨_,_,rfl⟩,?_,g1⟩ ?_ ?_ ?_))
 ·have e:F 0=fun _=>[]:=by funext p;show(AW.nbs (ts.take 0) p).map V.int=[];rw[List.take_zero];rfl
  rw[e];exact w1
 ·rintro i σ H' hi ⟨_,_,g2⟩;exact SqL.of (g2 _ _ e1)
 ·rintro i x σ H' hx ⟨⟨v3,v4,rfl⟩,w2,g2⟩;obtain⟨⟨u,v⟩,r,et,rfl,er⟩:=TsI.nth (a:=a) e2 e3 hx;obtain⟨⟨u0,u1⟩,v0,v1⟩:=hw _ (Zg et);obtain⟨p1,rfl⟩:=Xv u0;obtain⟨p2,rfl⟩:=Xv v0;have u1:p1<m:=Int.ofNat_lt.mp u1;have v1:p2<m:=Int.ofNat_lt.mp v1;refine(bH r _ rfl (SqT.of (g2 _ _ er)) rfl ⟨ _,(aN _ rfl _ _ rfl ⟨ rfl,?_⟩)⟩);obtain⟨x1,a1,b1,c1,d1⟩:=w2.item u1;refine⟨_,rfl,_,rfl,(aG D _ _ _ rfl ⟨ rfl,(aR (SqL.of w2.at_) d1 (.inl ⟨rfl,_,SqL.of b1⟩) _ rfl (bV x1 _ _ rfl rfl ⟨ b1,Ys (small i p1) (by decide),?_⟩))⟩)⟩;have w4:=w2.put a1 (F i p1++[V.int (p2:Int)]);have g4:=g2.fresh c1 (.lst (F i p1++[V.int (p2:Int)]));obtain⟨x2,a2,b2,c2,d2⟩:=w4.item v1;refine⟨_,rfl,_,rfl,(aG D _ _ _ rfl ⟨ rfl,(aR (SqL.of w4.at_) d2 (.inl ⟨rfl,_,SqL.of b2⟩) _ rfl (bV x2 _ _ rfl rfl ⟨ b2,?_,⟨_,_,rfl⟩,?_,g4.fresh c2 _⟩))⟩)⟩
  ·show(if p2=p1 then F i p1++[V.int (p2:Int)] else F i p2).length<ZW;have h1:=small i p1;have h2:=small i p2;refine Ys (show _≤2001 from ?_) (by decide);split
   ·rw[Zm];simp;lia
   ·lia
  ·have w5:=w4.put a2 ((if p2=p1 then F i p1++[V.int (p2:Int)] else F i p2)++[V.int (p1:Int)]);have e:(fun j=>if j=p2 then (if p2=p1 then F i p1++[V.int (p2:Int)] else F i p2)++[V.int (p1:Int)] else if j=p1 then F i p1++[V.int (p2:Int)] else F i j)=F (i+1):=by
    funext j
    have ht:ts.take (i+1)=ts.take i++[((p1:Int),(p2:Int))]:=by rw[List.take_add_one,et];rfl
    show _=(AW.nbs (ts.take (i+1)) j).map V.int;rw[ht,AW.NP,Zt];unfold AW.nb;have c1:((p1:Int)=(j:Int))↔(j=p1):=by lia
    have c2:((p2:Int)=(j:Int))↔(j=p2):=by lia
    simp only[c1,c2];by_cases k2:j=p2
    ·subst k2;by_cases k1:j=p1
     ·subst k1;simp[F]
     ·simp[F,k1]
    ·by_cases k1:j=p1
     ·subst k1;simp[F,k2]
     ·simp[F,k1,k2]
   rw[e]at w5;exact w5
 rintro σ H2 ⟨⟨v3,v4,rfl⟩,w2,g2⟩;have eF:F (tr.map V.ref).length=fun p:Nat=>(AW.nbs ts p).map V.int:=by funext p;show(AW.nbs (ts.take _) p).map V.int=_;rw[Zq,e2,Yv]
 rw[eF]at w2;refine(cG _ rfl (m:Int) rfl (by lia) ⟨ by lia,fun rA hrA=>?_⟩);refine fG m (fun p=>.bl (decide ((V.int (0+(p:Int)))=V.int 0))) hrA (by lia) (fun i H' hi g3=>?_) (fun H' g3=>?_) ?_ ?_
 ·show i<((m:Int)-0).toNat;lia
 ·show((m:Int)-0).toNat≤m;lia
 ·rintro i H' x H'' k hi g3 ⟨e,y⟩ hk;subst e;subst y;exact⟨(Fills.refl _).set _ rfl,_,rfl,rfl,hk _ (aW.refl _)⟩
 intro H3 g3 eR;have eR0:(List.range m).map (fun p:Nat=>V.bl (decide ((V.int (0+(p:Int)))=V.int 0)))=((List.range m).map fun p=>decide (p=0)).map V.bl:=by
  rw[Yh];refine Ym fun p _=>?_;show V.bl (decide _)=V.bl (decide (p=0));have hp:(V.int (0+(p:Int))=V.int 0)↔p=0:=⟨fun z=>by have:=V.int.inj z;lia,fun z=>by rw[z];rfl⟩
  simp only[hp]
 rw[eR0]at eR;refine⟨(by show 1≤ZW;decide),fun wA hwA=>?_⟩;have w3:=w2.keep g3;have g23:=g2.trans g3;have rD:rA≠D:=fun z=>by rw[z,w2.at_]at hrA;cases hrA
 have rin:rA∉rr:=w2.notIn hrA;have wD:wA≠D:=fun z=>by rw[z,w3.at_]at hwA;cases hwA
 have win:wA∉rr:=w3.notIn hwA;have wr:wA≠rA:=fun z=>by rw[z,eR]at hwA;cases hwA
 have r0:H rA=none:=g2.free hrA;have w0:H wA=none:=g23.free hwA;refine⟨fun M σ H'=>∃R W v3 v4 v7 v8,(M=2*AW.jP R+W.length∧M≤2001)∧σ=[some (vn m),some (.ref a),some (.ref D),v3,v4,some (.ref rA),some (.ref wA),v7,v8]∧OM H m ts D rA wA rr R W H'∧AW.iR m ts R W,
  (aP _ _ _ _ _ (bH _ _ ⟨rfl,?bnd⟩ rfl ⟨w3.other wD win _,by rw[aL (Ne.symm wr)];exact eR,by exact aB,g23.fresh w0 _⟩ (AW.iR.start hm0))),?_⟩
 case bnd =>
  have h1:AW.jP ((List.range m).map fun p=>decide (p=0))≤m:=by
   unfold AW.jP;exact Yr (List.length_filter_le ..) (by simp)
  show _+1≤2001
  lia
 rintro M σ H' ⟨R,W,v3,v4,v7,v8,⟨rfl,hB⟩,rfl,⟨w4,hR,hW,g4⟩,hS⟩;refine⟨_,rfl,_,.inl ⟨_,SqL.of hW,rfl⟩,?_⟩;rcases List.eq_nil_or_concat W with rfl | ⟨W0,pz,rfl⟩
 ·refine dX (aN _ rfl rA R rfl ⟨ SqL.of hR,q _ H' g4 (hS.done hw)⟩)
 rw[List.concat_eq_append]at *;obtain⟨p0,rfl,hp0⟩:=hS.win pz (by simp);have hpm:p0<m:=by rw[←hS.len];exact(Zj.mp hp0).1
 have eW:(W0++[(p0:Int)]).map V.int=W0.map V.int++[vn p0]:=by rw[Zt];rfl
 rw[eW];rw[show(!(W0.map V.int++[vn p0]).isEmpty)=true by simp];refine gO ⟨fun σ' H''=>∃R' W' v3 v4 v7 v8,2*AW.jP R'+W'.length<2*AW.jP R+(W0++[(p0:Int)]).length∧σ'=[some (vn m),some (.ref a),some (.ref D),v3,v4,some (.ref rA),some (.ref wA),v7,v8]∧OM H m ts D rA wA rr R' W' H''∧AW.iR m ts R' W',?_,?_⟩
 ·rintro σ' H'' ⟨R',W',v3,v4,v7,v8,hM,rfl,hI,hS'⟩;exact⟨_,hM,(aP R' W' _ _ _ ⟨ _,⟨rfl,by lia⟩,rfl,hI,hS'⟩)⟩
 rw[eW]at hW;refine⟨_,rfl,(cU (.inl ⟨rfl,_,SqL.of hW⟩) wA _ (vn p0) rfl ⟨ rfl,hW,by rw[Zm];simp,?_⟩)⟩;rw[List.dropLast_concat];have w5:=w4.other wD win (.lst (W0.map V.int));have g5:=g4.fresh w0 (.lst (W0.map V.int));obtain⟨x1,a1,b1,c1,d1⟩:=w5.item hpm;have hlen:(W0++[(p0:Int)]).length=W0.length+1:=by simp
 rw[hlen];refine⟨_,rfl,_,rfl,(aG D _ _ _ rfl (aR rfl (SqL.of w5.at_) d1 x1 rfl ⟨ ⟨_,SqL.of b1⟩,fA (K:=K) (a:=x1) (xs:=(AW.nbs ts p0).map V.int) (fun k σ H''=>∃R' W' v8,2*AW.jP R'+W'.length<2*AW.jP R+(W0.length+1) ∧
  σ=[some (vn m),some (.ref a),some (.ref D),v3,v4,some (.ref rA),some (.ref wA),some (vn p0),v8]∧OM H m ts D rA wA rr R' W' H''∧AW.oX m ts R' W' p0 k) (bV R W0 _ (by lia) rfl ⟨ ⟨w5,by rw[aL (Ne.symm wr)];exact hR,aB,g5⟩,.start hS⟩) ?_ ?_ ?_⟩))⟩
 ·rintro i σ H'' hi ⟨R',W',v8,_,_,⟨w6,_⟩,_⟩;obtain⟨x2,a2,b2,_⟩:=w6.item hpm;rw[a1]at a2;cases a2;exact SqL.of b2
 ·rintro i x σ H'' hx ⟨R',W',v8,hM,rfl,⟨w6,hR',hW',g6⟩,hI⟩;rw[Zk]at hx;cases eq':(AW.nbs ts p0)[i]? with
  |none=>rw[eq']at hx;cases hx
  |some qz =>
   rw[eq']at hx;cases hx;obtain⟨q0,q1⟩:=AW.F0 hw (Zg eq');obtain⟨qn,rfl⟩:=Xv q0;have q1:qn<m:=Int.ofNat_lt.mp q1;have hql:qn<R'.length:=by rw[hI.len];exact q1
   have eb:R'[qn]?=some R'[qn]:=Zz hql;refine⟨_,rfl,_,rfl,(aG rA _ _ (.bl R'[qn]) rfl (aR rfl (SqL.of hR') (c9 (by rw[Zk,eb];rfl)) (R'[qn]) rfl ?_))⟩;cases hb:R'[qn]with
   |true =>
    refine dX (bV R' W' _ hM rfl ⟨ ⟨w6,hR',hW',g6⟩,hI.skip eq' ?_⟩);rw[show((qn:Int)).toNat=qn from rfl,eb,hb]
   |false =>
    rw[hb]at eb;have hset:(R'.map V.bl).set qn (.bl true)=(R'.set qn true).map V.bl:=by rw[List.map_set]
    have hf:=AW.xW eb;refine gO ⟨_,rfl,_,rfl,(aG rA _ _ qn rfl ⟨ rfl,hR',?_,?_⟩)⟩
    ·exact jL (by rw[Zq];exact hql) rfl
    rw[hset];refine(bW _ rfl (.inl ⟨rfl,_,SqL.of (by rw[aL wr];exact hW')⟩) _ rfl (bV wA _ _ rfl rfl ⟨ by rw[aL wr];exact hW',?_,?_⟩))
    ·rw[Zq];exact Ys (show _≤2001 by rw[hlen]at hB;lia) (by decide)
    refine(bV (R'.set qn true) (W'++[(qn:Int)]) _ ?_ rfl ⟨ ⟨(w6.other rD rin _).other wD win _,?_,?_,(g6.fresh r0 _).fresh w0 _⟩,hI.reach eq' q1⟩)
    ·rw[Zm];simp;lia
    ·rw[aL (Ne.symm wr)];exact aB
    ·rw[Zt];exact aB
 ·rintro σ H'' ⟨R',W',v8,hM,rfl,hI,hS'⟩;exact(aP R' W' _ _ _ ⟨ _,by simpa using hM,rfl,hI,hS'.finish (by rw[Zq];exact Nat.le_refl _)⟩)
end K33
namespace L2
open PySem PySem.Spec PyProof.Rows
theorem Fun.okX{P:Program}{w:World}{K:PySem.W.Frag}{mg:Str→Option Value}{base:Heap}{C:Addr}{x qual:Str}{st:Stmt}{f:Addr}{fd:FuncData}{N ps:List Str}{k:Nat}{sp:Sp}(F:Fun K x qual st f fd)(S:a9 N ps (aS st))(len:∀vs H Q E,sp vs H Q E→vs.length=ps.length)
  (hbody:∀(cdv:Value) (A:Around) (outer:List Env) (s:Shared) (H:Hp) (vs:List V) (Q:VK) (E:XK),iB k (A.deeper (envOfC qual (aS st) s.heap.objs.size f cdv))→sp vs H Q E →
   ∃t,PSs (zB (CXr P w C) P w K mg base N qual (aS st) f cdv A outer s H E) (iH st) t∧t { nx:=fun _ H'=>Q .non H',rt:=Q } (start N vs) H):bQ P w K mg base (CXr P w C) (k+1) f fd ps sp:=by
 obtain⟨oc,od,kV,doc,pm,an,cdv,ct,osl,rfl,lk,hcd⟩:=F.ex;exact RB lk hcd S len fun A outer s H vs Q E hr hsp=>hbody cdv A outer s H vs Q E hr hsp
end L2
namespace K33
open PySem L2 PyProof.Rows
theorem VI{σ:L2.St}{H:Hp}{Q:VK}{a c x:Int}{tb:TE}(hb:∀R:VK,R (.int x) H→tb σ H R)(q:Q (.bl (decide (a≤x)&&decide (x≤c))) H) :
  wH (rI0 fun i j=>V.bl (decide (i≤j))) (rI0 fun i j=>V.bl (decide (i≤j))) (tC (V.int a)) tb (tC (V.int c)) σ H Q:=by
 refine hb _ ⟨_,_,rfl,rfl,_,rfl,?_⟩;by_cases h:a≤x
 ·rw[if_pos (decide_eq_true h)];rw[decide_eq_true h,Bool.true_and]at q;exact⟨_,_,rfl,rfl,q⟩
 ·rw[if_neg (by simpa using h)];rw[decide_eq_false h,Bool.false_and]at q;exact q
def O6:Sp:=fun vs H Q E=>∃(wa:Addr) (m:Int) (ts:AW.Ts) (os:AW.Os),vs=[.ref wa]∧mH H wa m ts os∧ts.length≤1000 ∧
 (AW.pB m ts os→∀H',aW H H'→Q .non H')∧(¬AW.pB m ts os→∀x H',aW H H'→E (.ref x) none H')
theorem xH(T:Txt K mg t):bQ P w K mg base (CXr P w t.bP) 3 t.vJ t.vC ["web"] O6:=by
 refine T.kG.F.okX rP (fun vs H Q E h=>?_) (fun cdv A outer s H vs Q E hr h=>?_)
 ·obtain⟨wa,m,ts,os,rfl,_⟩:=h;rfl
 obtain⟨wa,m,ts,os,rfl,⟨tA,oA,hw,hT,hO⟩,hl,q1,q2⟩:=h;have nd:=rP.nd;refine⟨_,(aE (a7 1 nd (aM aU (pv 0) aH (fun _ _=>rfl)))
  (aE (a7 2 nd (aM aU (pv 0) aH (fun _ _=>rfl)))
  (aE (cC (gH (nO rZ rZ aH (pv 1) (cE (v:=.int 200) rfl T.fM ⟨_,rfl⟩))) (aK (kX T.A5 PySem.F.excBase_ValueError T.fF)) bJ)
  (aE (cC (gH (nO rZ rZ aH (aT aO rfl T.cP PySem.boot_len (aA (pv 2) aC)) (cE (v:=.int 400) rfl T.iP ⟨_,rfl⟩))) (aK (kX T.A5 PySem.F.excBase_ValueError T.fF)) bJ)
  (aE (cC (gH (cQ (bR (SI T) hr T.jQ bE (aA (pv 1) (aA (pv 2) aC))) (fun _=>rfl))) (aK (kX T.A5 PySem.F.excBase_ValueError T.fF)) bJ)
  (aE (cC (gH (cQ (bR (P7 T) hr T.sO bE (aA (pv 0) aC)) (fun _=>rfl))) (aK (kX T.A5 PySem.F.excBase_ValueError T.fF)) bJ)
  (aK (cC (gH (cQ (bR (QA T) hr T.lJ bE (aA (pv 1) (aA (pv 2) aC))) (fun _=>rfl))) (aK (kX T.A5 PySem.F.excBase_ValueError T.fF)) bJ)))))))),?_⟩
 refine⟨_,rfl,(aG wa _ _ _ rfl ⟨ rfl,SqT.of hw,rfl,?_⟩)⟩;refine⟨_,rfl,(aG wa _ _ _ rfl ⟨ rfl,SqT.of hw,rfl,?_⟩)⟩;dsimp only[jN,JS,OX,OV,CL];refine VI (x:=m) ?h1 ?h2
 case h1=>exact fun R h=>⟨_,rfl,h⟩
 refine⟨_,rfl,?_⟩;by_cases c1:1≤m∧m≤200
 case neg =>
  rw[show(decide ((1:Int)≤m)&&decide (m≤200))=false by rw[←Bool.decide_and];exact decide_eq_false c1];exact gO fun x=>q2 (fun z=>c1 z.1.1) x H (aW.refl _)
 rw[show(decide ((1:Int)≤m)&&decide (m≤200))=true by rw[←Bool.decide_and];exact decide_eq_true c1];refine dX ?_;obtain⟨tr,e1,e2,e3⟩:=id hT;dsimp only[L3,JS,OX,OV,CL];refine VI (x:=((tr.map V.ref).length:Nat)) ?h3 ?h4
 case h3=>exact fun R h=>(aN _ rfl tA _ rfl ⟨ .inl (SqL.of e1),h⟩)
 refine⟨_,rfl,?_⟩;rw[Zq,e2];by_cases c2:1≤ts.length∧ts.length≤400
 case neg =>
  rw[show(decide ((1:Int)≤(ts.length:Nat))&&decide (((ts.length:Nat):Int)≤400))=false by rw[←Bool.decide_and];exact decide_eq_false (fun z=>c2 (by lia))];exact gO fun x=>q2 (fun z=>c2 z.1.2) x H (aW.refl _)
 rw[show(decide ((1:Int)≤(ts.length:Nat))&&decide (((ts.length:Nat):Int)≤400))=true by rw[←Bool.decide_and];exact decide_eq_true (by lia)];refine dX ⟨_,rfl,_,(cU rfl m tA ts rfl ⟨ hT,hl,fun H1 g1=>⟨_,rfl,?_⟩⟩)⟩;by_cases c3:AW.InW m ts
 case neg =>
  rw[show AW.KR m ts=false from Bool.eq_false_iff.mpr fun z=>c3 (AW.DS.mp z)];exact gO fun x=>q2 (fun z=>c3 z.2.1) x H1 g1
 rw[AW.DS.mpr c3];obtain⟨n,rfl⟩:=Xv (show 0≤m by lia);refine dX ⟨_,rfl,(aG wa n ts os rfl ⟨ ⟨tA,oA,g1 _ _ hw,hT.same g1,hO.same g1⟩,c3,by lia,hl,fun b H2 g2 hb=>⟨_,rfl,?_⟩⟩)⟩;cases b with
 |false=>exact gO fun x=>q2 (fun z=>Bool.noConfusion (hb.mpr ⟨Int.ofNat.inj z.2.2.1,z.2.2.2.1⟩)) x H2 (g1.trans g2)
 |true =>
  obtain⟨f1,f2⟩:=hb.mp rfl;refine dX ⟨_,rfl,_,(cU rfl n tA ts rfl (bG ((hT.same g1).same g2) c3 (by lia) (by lia) hl (fun b H3 g3 hb=>⟨_,rfl,?_⟩)))⟩;cases b with
  |false=>exact gO fun x=>q2 (fun z=>Bool.noConfusion (hb.mpr z.2.2.2.2)) x H3 ((g1.trans g2).trans g3)
  |true=>exact dX (q1 ⟨⟨c1,c2⟩,c3,congrArg Int.ofNat f1,f2,hb.mp rfl⟩ H3 ((g1.trans g2).trans g3))
def RT(K:PySem.W.Frag):Sp:=fun vs H Q _=>∃(a:Addr) (ns:List Int) (k:Int),vs=[.ref a,.int k]∧SqL K H a (ns.map V.int)∧0≤k∧∀c:Int,Q (.int c) H
theorem TN{ns:List Int}{k:Int}(h0:0≤k)(h:k<(ns.length:Int)):∃v:Int,atI (ns.map V.int) k=some (.int v):=by
 have hk:k.toNat<ns.length:=by lia
 have ek:k=((k.toNat:Nat):Int):=by lia
 have q:atI (ns.map V.int) ((k.toNat:Nat):Int)=some (.int ns[k.toNat]):=c9 (by rw[Zk,Zz hk]<;>rfl);rw[←ek]at q;exact⟨_,q⟩
theorem r9(T:Txt K mg t):bQ P w K mg base CX0 1 t.vI t.vB ["_law_script","_law_k"] (RT K):=by
 refine T.fY.F.ok BA (fun vs H Q E h=>?_) (fun cdv A outer s H vs Q E hr h=>?_)
 ·obtain⟨a,ns,k,rfl,_⟩:=h;rfl
 obtain⟨a,ns,k,rfl,hS,h0,q⟩:=h;refine⟨_,(aE (cC (aZ fS (pv 1) (aT aO rfl T.cP PySem.boot_len (aA (pv 0) aC)) (bD _)) (aK (bC (aM aV (pv 0) (pv 1) (fun _ _=>rfl)))) bJ)
  (aK (bC aH))),?_⟩
 refine⟨_,rfl,(aN _ rfl a _ rfl (cM (.inl hS) _ _ rfl rfl ⟨ _,rfl,?_⟩))⟩;refine eY (fun c=>?_) (fun c=>?_)
 ·have c':k<(((ns.map V.int).length:Nat):Int):=of_decide_eq_true c;rw[Zq]at c';obtain⟨v,hv⟩:=TN h0 c';exact⟨_,rfl,_,rfl,(aG a _ _ _ rfl ⟨ rfl,hS,hv,q v⟩)⟩
 ·exact q 0
def UI:Sp:=fun vs H Q _=>∃c k:Int,vs=[.int c,.int k]∧0≤k∧k≤1000∧∀m:Int,0≤m→m<1000000000→Q (.int m) H
theorem l8(T:Txt K mg t):bQ P w K mg base CX0 1 t.JJ t.JB ["_law_cell","_law_k"] UI:=by
 refine T.iG.F.ok C1 (fun vs H Q E h=>?_) (fun cdv A outer s H vs Q E hr h=>?_)
 ·obtain⟨a,k,rfl,_⟩:=h;rfl
 obtain⟨c,k,rfl,h0,h1,q⟩:=h;have nd:=C1.nd;refine⟨_,(aE (cC (aZ M9 (pv 0) (aX FV aH aH) (bD _)) (aE (cY PassesOwn.never rfl (dI rfl T.eA (aA (pv 1) aC)) (aQ (i:=2) nd rfl (Or.inl rfl)) (aK (a7 0 nd (aX eQ (pv 0) (aX FV aH aH)))))
  (aK (bC (aX dE (pv 0) (aX FV aH aH))))) bJ)
  (aE (a7 3 nd (aX dE (aX dW (aX cV (aX cV (aX dE (pv 0) aH) (aX dW (aX dW (pv 1) (pv 1)) aH)) (pv 1)) aH) aH))
  (aE (a7 3 nd (aX dE (aX dW (pv 3) (pv 3)) aH))
  (aK (bC (aX eQ (aX dE (aX dW (pv 3) (aX cV (pv 3) aH)) aH) aH)))))),?_⟩
 have p18:TX 10 18:=⟨by decide,by decide,by decide⟩
 have p6:TX 10 6:=⟨by decide,by decide,by decide⟩
 refine(aN _ rfl _ _ rfl (bB rfl p18 _ _ rfl ⟨ rfl,_,rfl,?_⟩));refine eY (fun _=>?_) (fun _=>?_)
 ·refine(cG _ rfl k rfl (by lia) ⟨ by lia,fX (lo:=0) (n:=k.toNat) (fun _ σ H'=>H'=H∧∃(c':Int) (o:Option V),σ=[some (.int c'),some (.int k),o,none]) ⟨rfl,c,none,rfl⟩ ?_ ?_⟩)
  ·rintro i σ H' hi ⟨rfl,c',o,rfl⟩;exact(aN _ rfl _ _ rfl (bB rfl p6 _ _ rfl ⟨ rfl,⟨by decide,by decide⟩,rfl,_,_,rfl⟩))
  ·rintro σ H' ⟨rfl,c',o,rfl⟩;refine(aN _ rfl _ _ rfl (bB rfl p6 _ _ rfl ⟨ rfl,(by show(0:Int)<10 ^ 6;decide),q _ (Xj _ (by decide)) ?_⟩));exact Int.lt_trans (Xk _ (by decide)) (by decide)
 ·refine(aN _ rfl _ _ rfl ⟨ rfl,(bO (by show(0:Int)<1000003;decide) _ rfl _ rfl (bH _ _ rfl rfl (.inl ⟨by lia,by lia⟩) (bH _ _ rfl rfl (.inr ⟨by decide,by decide⟩) ⟨ _,(bW _ rfl rfl _ rfl ⟨ _,_,(bB rfl rfl _ _ rfl (bB rfl (.inr ⟨by decide,by decide⟩) _ _ rfl ⟨ rfl,(by show(0:Int)<2147483629;decide),?_⟩))⟩)⟩)))⟩);have b1:∀x:Int,0≤x%2147483629∧x%2147483629<2147483629:=fun x=>⟨Xj _ (by decide),Xk _ (by decide)⟩
  have b2:∀x:Int,0≤x%2147483587∧x%2147483587<2147483587:=fun x=>⟨Xj _ (by decide),Xk _ (by decide)⟩
  have b3:∀x:Int,0≤x%2147483579∧x%2147483579<2147483579:=fun x=>⟨Xj _ (by decide),Xk _ (by decide)⟩
  generalize hn1:((c%1000003+k*k*7919+k)*48271%2147483629:Int)=n1;have r1:=b1 ((c%1000003+k*k*7919+k)*48271);rw[hn1]at r1;refine⟨_,rfl,(aN _ rfl _ _ rfl (bB rfl (.inl ⟨by lia,by lia⟩) _ _ rfl ⟨ rfl,(by show(0:Int)<2147483587;decide),?_⟩))⟩;have r2:=b2 (n1*n1);generalize n1*n1%2147483587=n2 at r2 ⊢;refine⟨_,rfl,(aN _ rfl _ _ rfl (cM rfl _ _ rfl rfl (cM (.inl ⟨by lia,by lia⟩) _ _ rfl rfl (cM (by show(0:Int)<2147483579;decide) _ _ rfl rfl ⟨ ⟨by decide,by decide⟩,?_⟩))))⟩;have r3:=b3 (n2*(n2+2));generalize n2*(n2+2)%2147483579=n3 at r3 ⊢;exact q _ (by lia) (by lia)
def MF:Sp:=fun vs H Q _=>∃e:Nat,vs=[vn e]∧Q (vn (MM.oth e)) H
theorem pF(T:Txt K mg t):bQ P w K mg base CX0 1 t.AZ t.AJ ["_law_end"] MF:=by
 refine T.lI.F.ok FF (fun vs H Q E h=>?_) (fun cdv A outer s H vs Q E hr h=>?_)
 ·obtain⟨e,rfl,_⟩:=h;rfl
 obtain⟨e,rfl,q⟩:=h;refine⟨_,(aK (bC (aX iT (aX cV (pv 0) aH) (aX dW aH (aX dE (pv 0) aH))))),?_⟩;refine(aN _ rfl _ _ rfl ⟨ rfl,(aN _ rfl _ _ rfl (bB rfl (by show(0:Int)<2;decide) _ _ rfl (bB rfl (.inl ⟨by decide,by decide⟩) _ _ rfl ⟨ rfl,?_⟩)))⟩);have e1:(e:Int)+1-2*((e:Int)%2)=((MM.oth e:Nat):Int):=by unfold MM.oth;split<;>lia
 show Q (.int ((e:Int)+1-2*((e:Int)%2))) H;rw[e1];exact q
def O3:Sp:=fun vs H Q _=>∃(a:Addr) (ts:MM.b9) (e:Nat),vs=[.ref a,vn e]∧iU H a ts∧e<2*ts.length∧Q (vn (MM.place ts e)) H
theorem JG{x y:Nat}(e:Nat):atI [vn x,vn y] ((e:Int)%2)=some (vn (if e%2=0 then x else y)):=by
 rcases Nat.mod_two_eq_zero_or_one e with h | h
 ·rw[show(e:Int)%2=0 by lia,if_pos h];rfl
 ·rw[show(e:Int)%2=1 by lia,if_neg (by lia)];rfl
theorem tX(T:Txt K mg t):bQ P w K mg base CX0 1 t.uE t.uC ["_law_ties","_law_end"] O3:=by
 refine T.jG.F.ok wK (fun vs H Q E h=>?_) (fun cdv A outer s H vs Q E hr h=>?_)
 ·obtain⟨a,ts,e,rfl,_⟩:=h;rfl
 obtain⟨a,ts,e,rfl,ht,he,q⟩:=h;refine⟨_,(aK (bC (aM oH (aM aV (pv 0) (aX eQ (pv 1) aH) (fun _ _=>rfl)) (aX dE (pv 1) aH) (fun _ _=>rfl)))),?_⟩;obtain⟨xs,r,h1,h2,h3,h4⟩:=ht.item (i:=e / 2) (by lia);refine⟨_,rfl,(aN _ rfl _ _ rfl ⟨ rfl,⟨by decide,by decide⟩,(aG a xs _ _ rfl ⟨ rfl,SqL.of h1,(by show atI xs ((e:Int) / 2)=_;rw[show(e:Int) / 2=((e / 2:Nat):Int) by lia];exact h3),?_⟩)⟩)⟩;refine(aN _ rfl _ _ rfl ⟨ rfl,(by show(0:Int)<2;decide),.inr (.inl (aG r _ _ _ rfl ⟨ rfl,SqT.of h4,JG e,?_⟩))⟩);unfold MM.place at q;split
 ·rename_i h;rw[if_pos h]at q;exact q
 ·rename_i h;rw[if_neg h]at q;exact q
def UN:Sp:=fun vs H Q _=>∃(a o:Addr) (ts:MM.b9) (os:MM.bU) (e:Nat),vs=[.ref a,.ref o,vn e]∧iU H a ts∧uG H o os∧MM.Good ts os∧e<2*ts.length∧Q (vn (MM.behind ts os e)) H
theorem xG(T:Txt K mg t):bQ P w K mg base CX0 2 t.yV t.yJ ["_law_ties","_law_orders","_law_end"] UN:=by
 refine T.qT.F.ok uN (fun vs H Q E h=>?_) (fun cdv A outer s H vs Q E hr h=>?_)
 ·obtain⟨a,o,ts,os,e,rfl,_⟩:=h;rfl
 obtain⟨a,o,ts,os,e,rfl,ht,ho,g,he,q⟩:=h;have nd:=uN.nd;refine⟨_,(aE (a7 3 nd (aM aV (pv 1) (bR (tX T) hr T.jG bE (aA (pv 0) (aA (bR (pF T) hr T.lI bE (aA (pv 2) aC)) aC))) (fun _ _=>rfl)))
  (aK (bC (aM aV (pv 3) (aX iT (nS PySem.F.plainAttrs_list PySem.F.slot_list_index PySem.F.type_list_index nY (pv 3) (aA (bR (pF T) hr T.lI bE (aA (pv 2) aC)) aC)) aH) (fun _ _=>rfl))))),?_⟩
 have hp:=g.g.has (MM.oth e) (MM.fR he);obtain⟨xs,r,h1,h2,h3,h4⟩:=ho.item hp.1;refine⟨_,(bO rfl _ rfl _ rfl ⟨ e,(cU rfl a ts (MM.oth e) rfl ⟨ ht,MM.fR he,(aG o xs _ _ rfl ⟨ rfl,SqL.of h1,h3,?_⟩)⟩)⟩)⟩;refine(cG _ rfl _ rfl (.inl ⟨rfl,_,SqL.of h4⟩) ⟨ _,rfl,e,(cU rfl r _ _ rfl ⟨ rfl,(bB h4 hp.2 _ _ rfl ⟨ rfl,(aG r _ _ _ rfl ⟨ rfl,SqL.of h4,JF hp.2,q⟩)⟩)⟩)⟩)
end K33
namespace L2
open PySem PyProof.Rows
structure dD(H H':Hp)(r:Addr)(rr:List Addr)(ls:MM.bU):Prop where
 at_:H' r=some (.lst (rr.map V.ref))
 len:rr.length=ls.length
 row:∀(i:Nat) l,ls[i]?=some l→∃x,rr[i]?=some x∧H' x=some (.lst (vns l))
 nd:rr.Nodup
 nin:r∉rr
 new:H r=none
 news:∀x∈rr,H x=none
theorem dD.os{H H':Hp}{r:Addr}{rr:List Addr}{ls:MM.bU}(n:dD H H' r rr ls):uG H' r ls:=⟨rr,n.at_,n.len,n.row⟩
theorem dD.keep{H H' H2:Hp}{r:Addr}{rr:List Addr}{ls:MM.bU}(n:dD H H' r rr ls)(g:∀b o,b=r∨b∈rr→H' b=some o→H2 b=some o):dD H H2 r rr ls :=
 ⟨g _ _ (.inl rfl) n.at_,n.len,fun i l h=>by obtain⟨x,h1,h2⟩:=n.row i l h;exact⟨x,h1,g _ _ (.inr (Zg h1)) h2⟩,n.nd,n.nin,n.new,n.news⟩
theorem dD.ex{H H':Hp}{r:Addr}{rr:List Addr}{ls:MM.bU}(n:dD H H' r rr ls){x:Addr}(hx:x∈rr):∃l,H' x=some (.lst (vns l)):=by
 obtain⟨i,hi,rfl⟩:=Yy.mp hx;have hi':i<ls.length:=by rw[←n.len];exact hi
 obtain⟨y,h1,h2⟩:=n.row i (ls[i]'hi') (Zz hi');rw[Zz hi]at h1;cases h1;exact⟨_,h2⟩
theorem dD.push{H H' H2:Hp}{r x:Addr}{rr:List Addr}{ls:MM.bU}{l:List Nat}(n:dD H H' r rr ls)(hx:H x=none)(hxr:x∉rr)(hxn:x≠r)(at2:H2 r=some (.lst ((rr++[x]).map V.ref)))(ax:H2 x=some (.lst (vns l)))
  (g:∀b o,b∈rr→H' b=some o→H2 b=some o):dD H H2 r (rr++[x]) (ls++[l]) where
 at_:=at2
 len:=by rw[Zm,Zm,n.len];rfl
 row:=fun i m h=>by
  rcases Xq i ls.length with q | q
  ·rw[Zx q]at h;obtain⟨y,h1,h2⟩:=n.row i m h;exact⟨y,by rw[Zx (by rw[n.len];exact q)];exact h1,g _ _ (Zg h1) h2⟩
  ·have hi:i=ls.length:=by
    obtain⟨z,_⟩:=Zj.mp h;rw[Zm]at z;simp at z
    lia
   subst hi;rw[Yx]at h;cases h;exact⟨x,by rw[←n.len,Yx],ax⟩
 nd:=by
  rw[List.nodup_append];refine⟨n.nd,by simp,fun a ha b hb z=>?_⟩;have e:b=x:=by simpa using hb
  subst e;subst z;exact hxr ha
 nin:=fun z=>by
  rcases Zf.mp z with z | z
  ·exact n.nin z
  ·have e:r=x:=by simpa using z
   exact hxn e.symm
 new:=n.new
 news:=fun y hy=>by
  rcases Zf.mp hy with z | z
  ·exact n.news y z
  ·have e:y=x:=by simpa using z
   subst e;exact hx
theorem pC(l m:List Nat):vns (l++m)=vns l++vns m:=Zt
theorem QJ(x:Nat)(l:List Nat):inV (vn x) (vns l)=decide (x∈l):=by
 unfold inV;rw[Xx,List.any_eq_true,decide_eq_true_iff];constructor
 ·rintro⟨y,hy,h⟩;obtain⟨n,hn,rfl⟩:=Zh.mp hy;have h':((n:Int)==(x:Int))=true:=h;have:n=x:=by have:=beq_iff_eq.mp h';lia
  subst this;exact hn
 ·intro h;exact⟨vn x,Zh.mpr ⟨x,h,rfl⟩,by show((x:Int)==(x:Int))=true;simp⟩
theorem LU(l:List Nat):(vns l).all oK=true:=by rw[List.all_eq_true];intro y hy;obtain⟨n,_,rfl⟩:=Zh.mp hy;rfl
theorem CA{K:PySem.W.Frag}{H:Hp}:∀l:List Nat,Bds K H (vns l) (l.map fun n:Nat=>PyData.int (n:Int))
 |[]=>.nil
 |n::l=>.cons (.int n) (CA l)
theorem uK(l:List Nat):SeqAt.shaped (.list (l.map fun n:Nat=>PyData.int (n:Int)))=true:=by
 have e:(l.map fun n:Nat=>PyData.int (n:Int))=(l.map fun n:Nat=>(n:Int)).map PyData.int:=by rw[Yh];rfl
 rw[e];generalize (l.map fun n:Nat=>(n:Int))=ns;simp[SeqAt.shaped,PyData.canLay0,PyData.canLayAll0,PyData.depth,PyData.depthAll,PySem.W.ke_canLayAll0,PySem.W.ke_depthAll]
theorem N7(l m:List Nat):PyData.eqv (.list (l.map fun n:Nat=>PyData.int (n:Int))) (.list (m.map fun n:Nat=>PyData.int (n:Int)))=decide (l=m):=by
 have e:∀l:List Nat,(l.map fun n:Nat=>PyData.int (n:Int))=(l.map fun n:Nat=>(n:Int)).map PyData.int:=fun l=>by rw[Yh];rfl
 rw[e,e];unfold PyData.eqv;rw[PySem.W.ked_eqvAll];have inj:∀l m:List Nat,(l.map fun n:Nat=>(n:Int))=(m.map fun n:Nat=>(n:Int))→l=m:=by
  intro l;induction l with
  |nil=>intro m h;cases m with
   |nil=>rfl
   |cons _ _=>simp at h
  |cons a l ih=>intro m h;cases m with
   |nil=>simp at h
   |cons b m =>
    simp only[List.map_cons,List.cons.injEq]at h;rw[ih m h.2,show a=b by lia]
 by_cases h:l=m
 ·subst h;simp
 ·rw[decide_eq_false h,decide_eq_false (fun z=>h (inj l m z))]
end L2
namespace K33
open PySem L2 PyProof.Rows
def MG:Sp:=fun vs H Q _=>∃(a o:Addr) (ts:MM.b9) (os:MM.bU),vs=[.ref a,.ref o]∧iU H a ts∧uG H o os∧MM.Good ts os∧ts.length≤500 ∧
 ∀(r:Addr) (rr:List Addr) (H':Hp),aW H H'→dD H H' r rr (MM.cF (MM.behind ts os) (2*ts.length))→Q (.ref r) H'
theorem AA(T:Txt K mg t):bQ P w K mg base CX0 3 t.A0 t.AK ["_law_ties","_law_orders"] MG:=by
 refine T.t8.F.ok wL (fun vs H Q E h=>?_) (fun cdv A outer s H vs Q E hr h=>?_)
 ·obtain⟨a,o,ts,os,rfl,_⟩:=h;rfl
 obtain⟨a,o,ts,os,rfl,ht,ho,g,h500,q⟩:=h;have nd:=wL.nd;have nd_l_end_l_land:(["_law_end","_law_land"]:List Str).Nodup:=by decide
 refine⟨_,(aE (a7 2 nd (bS aC))
  (aE (a7 3 nd (dG (zD rfl) rfl T.lV boot_list (aA (dG EL rfl T.eA boot_range (aA (aX dW aH (aT aO rfl T.cP PySem.boot_len (aA (pv 0) aC))) aC)) aC)))
  (aE (iN PassesOwn.never (aZ (qO hr.units) (pv 3) (bS aC) (bD _)) (aE (a7 4 nd (bS (aA (aM aV (pv 3) aH (fun _ _=>rfl)) aC)))
  (aE (a7 5 nd (bR (xG T) hr T.qT bE (aA (pv 0) (aA (pv 1) (aA (aM aV (pv 3) aH (fun _ _=>rfl)) aC)))))
  (aE (iN PassesOwn.never (aZ xD (pv 5) (aM aV (pv 4) aH (fun _ _=>rfl)) (bD _)) (aE (bN (kO mAp cD (pv 4) (aA (pv 5) aC)))
  (aK (a7 5 nd (bR (xG T) hr T.qT bE (aA (pv 0) (aA (pv 1) (aA (pv 5) aC))))))))
  (aE (bN (kO mAp cD (pv 2) (aA (pv 4) aC)))
  (aK (cN (i:=3) nd rfl (Or.inl rfl)  (N':=["_law_end","_law_land"]) (js:=[none,some 4]) rfl (cK (pv 3)) (fun _ _ _ _ _=>(aQ (i:=0) nd_l_end_l_land rfl (Or.inl rfl))) (fun _ _ _ _ _=>(BL (aZ (KM (K:=K) rfl) (pv 0) (pv 1) rfl))) (fun _ _ _ _ _=>(pv 0)))))))))
  (aK (bC (pv 2)))))),?_⟩
 have m:=g.maps;obtain⟨tr0,hta,htl,_⟩:=id ht;refine⟨(by show 0≤ZW;decide),fun tr htr=>?_⟩;have g1:=aI htr (.lst []);refine(aN _ rfl a _ rfl (cM (.inl (SqL.of (g1 _ _ hta))) _ _ rfl rfl ⟨ .inl ⟨by decide,by decide⟩,_,rfl,fun p hp=>?_⟩));have e2:(2:Int)*((tr0.map V.ref).length:Nat)=((2*ts.length:Nat):Int):=by rw[Zq,htl];push_cast;rfl
 rw[e2]at *;have g2:=aI hp (.rng 0 ((2*ts.length:Nat):Int));refine(bH p (2*ts.length) rfl aB (by lia) (fun lr hlr=>?_));have g3:=aI hlr (.lst (vns (List.range (2*ts.length))));have ntl:tr≠lr:=aJ (g2 _ _ aB) hlr;generalize hf:MM.behind ts os=f at m q;generalize hN:2*ts.length=N at m q hlr g3 g2 hp;have n0:dD H (upd (upd (upd H tr (.lst [])) p (.rng 0 (N:Int))) lr (.lst (vns (List.range N)))) tr [] [] :=
  ⟨g3 _ _ (g2 _ _ aB),rfl,fun i l h=>by simp at h,List.nodup_nil,by simp,htr,fun x hx=>by cases hx⟩
 refine⟨fun k σ H1=>∃(lr:Addr) (left:List Nat) (rr:List Addr) (done:MM.bU) (o4 o5:Option V),k=left.length∧σ=[some (.ref a),some (.ref o),some (.ref tr),some (.ref lr),o4,o5]∧aW H H1∧H1 lr=some (.lst (vns left)) ∧
  dD H H1 tr rr done∧lr≠tr∧done++MM.lf f left=MM.cF f N∧(∀x∈left,x<N)∧left.length≤N,(aP _ lr (List.range N) ([]) ([]) (bH none none rfl rfl ((g1.trans g2).trans g3) (bG aB n0 (Ne.symm ntl) rfl (fun x hx=>Zs.mp hx) (by simp)))),?_⟩
 clear n0 g3 g2 hp hlr ntl lr p g1;rintro k σ H1 ⟨lr,left,rr,done,o4,o5,rfl,rfl,g1,el,n1,nlt,eq,hlt,hll⟩;refine⟨_,rfl,(by show 0≤ZW;decide),fun p hp=>?_⟩;have gp:=aI hp (.lst []);refine(bH _ _ (.lst (SqL.of (gp _ _ el)) (CA left)) (.lst (SqL.of aB) (CA [])) (uK left) ⟨ uK [],_,rfl,?_⟩);rw[N7];have n2:dD H (upd H1 p (.lst [])) tr rr done:=n1.keep fun b o' _ h=>gp _ _ h;have g2:=g1.trans gp;have el2:=gp _ _ el;generalize upd H1 p (.lst [])=H2 at n2 g2 el2 gp;clear hp;cases left with
 |nil =>
  refine eZ rfl ?_;rw[MM.NU,List.append_nil]at eq;exact⟨_,rfl,q tr rr H2 g2 (eq▸n2)⟩
 |cons e r =>
  refine eV (by simp) ?_;have heN:e<N:=hlt e Zd;obtain⟨rd,rdN⟩:=MM.gW m heN;have hdl:done.length≤N:=by
   have h1:=MM.BR m _ (List.range N) (Nat.le_refl _) (fun x hx=>Zs.mp hx);have h2:(done++MM.lf f (e::r)).length=(MM.cF f N).length:=by rw[eq]
   rw[Zm]at h2;unfold MM.cF at h2;rw[Yj]at h1
   lia
  have p1:atI (vns (e::r)) 0=some (vn e):=oT (l:=e::r) (j:=0) (by simp) rfl;refine⟨_,fun σ' H' h=>h,?_⟩;refine⟨_,rfl,(aG lr _ _ _ rfl ⟨ rfl,SqL.of el2,p1,(by show 1≤ZW;decide),fun la hla=>?_⟩)⟩;have g3:=aI hla (.lst [vn e]);have nla:la≠tr∧la≠lr∧la∉rr:=by
   refine⟨(aJ n2.at_ hla).symm,(aJ el2 hla).symm,fun z=>?_⟩;obtain⟨l,hl⟩:=n2.ex z;rw[hla]at hl;cases hl
  refine⟨_,(bO rfl _ rfl _ rfl (aG lr _ _ _ rfl ⟨ rfl,SqL.of (g3 _ _ el2),p1,(aP a o ts os e (bG rfl ((g2.trans g3).ts ht) ((g2.trans g3).os ho) g (by rw[hN];exact heN) ?_))⟩))⟩;rw[hf];refine⟨fun k σ H4=>∃j,k=MM.per f e-j∧0<j∧j≤MM.per f e∧σ=[some (.ref a),some (.ref o),some (.ref tr),some (.ref lr),some (.ref la),some (vn (MM.iter f j e))]∧(∀b o,b≠la→H2 b=some o→H4 b=some o)∧H4 la=some (.lst (vns (MM.path f e j))),
   (bH _ 1 rfl Nat.one_pos rd.1 ⟨ rfl,fun b o' hb h=>g3 _ _ h,aB⟩),?_⟩
  rintro k σ H4 ⟨j,rfl,hj0,hj,rfl,b4,e4⟩;have hH:∀b o',H b=some o'→H4 b=some o':=fun b o' h=>b4 b o' (aJ (g2 _ _ h) hla) (g2 _ _ h);have p0:atI (vns (MM.path f e j)) 0=some (vn e):=by
   have hl:0<(MM.path f e j).length:=by rw[MM.nU];exact hj0
   refine(oT hl (k:=0) rfl).trans ?_;congr 2;unfold MM.path;simp[List.getD,hj0];rfl
  refine⟨_,rfl,_,rfl,(aG la _ _ _ rfl ⟨ rfl,(aR (SqL.of e4) p0 rfl _ rfl ?_)⟩)⟩;by_cases hc:MM.iter f j e=e
  ·refine eZ (by rw[hc];simp) ?_;have ej:j=MM.per f e:=by
    rcases Xq j (MM.per f e) with z | z
    ·exact absurd hc (rd.2.2 j hj0 z)
    ·lia
   subst ej;have n4:dD H H4 tr rr done:=n2.keep fun b o' hb h=>b4 b o' (by rcases hb with rfl | hb;exact Ne.symm nla.1;rintro rfl;exact nla.2.2 hb) h;refine(bW _ rfl (.inl ⟨rfl,_,SqL.of n4.at_⟩) _ rfl (bV tr _ _ rfl rfl ⟨ n4.at_,?_,?_⟩))
   ·rw[Zq,n4.len];exact Ys (by lia:done.length≤1000) (by decide)
   have el5:(upd H4 tr (.lst (rr.map V.ref++[.ref la]))) lr=some (.lst (vns (e::r))):=by rw[aL nlt];exact b4 _ _ (Ne.symm nla.2.1) el2
   have la5:(upd H4 tr (.lst (rr.map V.ref++[.ref la]))) la=some (.lst (vns (MM.bK f e))):=by rw[aL nla.1];exact e4
   have hH5:aW H (upd H4 tr (.lst (rr.map V.ref++[.ref la]))):=fun b o' h=>by rw[aL (aJ h htr)];exact hH b o' h
   have n5:dD H (upd H4 tr (.lst (rr.map V.ref++[.ref la]))) tr (rr++[la]) (done++[MM.bK f e]) :=
    n4.push (g2.free hla) nla.2.2 nla.1 (by rw[aB,Zt];rfl) la5 fun b o' hb h=>by rw[aL (show b≠tr from fun z=>n4.nin (z▸hb))];exact h
   generalize upd H4 tr (.lst (rr.map V.ref++[.ref la]))=H5 at el5 la5 hH5 n5;refine(cG _ rfl lr rfl ⟨_,SqL.of el5⟩ (fun D hD=>?_));refine sS (e::r).length (fun i ys H'=>ys=vns (((e::r).take i).filter fun x=>decide (x∉MM.bK f e))∧H'=upd H5 D (.lst ys)) ⟨by simp,rfl⟩ ?_ ?_
   ·rintro i ys H' hi ⟨rfl,rfl⟩;have gD:=aI hD (.lst (vns (((e::r).take i).filter fun x=>decide (x∉MM.bK f e))));have hx:(vns (e::r))[i]?=some (vn (e::r)[i]):=by rw[Zk,Zz hi];rfl
    refine⟨⟨_,_,SqL.of (gD _ _ el5),hx⟩,?_⟩;rintro x' H'' ⟨rfl,hx'⟩;have e6:=hx' _ (SqL.of (gD _ _ el5));rw[hx]at e6;cases e6;refine⟨(Fills.refl _).set _ rfl,?_⟩;refine⟨_,rfl,(aN _ rfl la _ rfl (aR (.inl (SqL.of (gD _ _ la5))) rfl (LU _) _ rfl ?_))⟩;rw[QJ];have ts1:=take_succ_filter (fun x=>decide (x∉MM.bK f e)) (e::r) i _ (Zz hi);have hfl:((List.take i (e::r)).filter fun x=>decide (x∉MM.bK f e)).length≤1000:=by
     have h1:=List.length_filter_le (fun x=>decide (x∉MM.bK f e)) (List.take i (e::r));have h2:(List.take i (e::r)).length≤(e::r).length:=List.length_take_le' _ _
     lia
    by_cases hxm:(e::r)[i]∈MM.bK f e
    ·refine eZ (by simp[hxm]) ?_;rw[ts1,if_neg (by simp[hxm]),List.append_nil];exact⟨rfl,rfl⟩
    ·refine eV (by simp[hxm]) ?_;refine(eB _ rfl aB ?_ ?_ ?_)
     ·rw[Zq];exact Ys hfl (by decide)
     ·rw[ts1,if_pos (by simp[hxm]),pC];rfl
     ·rw[j6]
   ·rintro ys H' ⟨rfl,rfl⟩;have gD:=aI hD (.lst (vns (((e::r).take (e::r).length).filter fun x=>decide (x∉MM.bK f e))));refine⟨⟨_,SqL.of (gD _ _ el5),by rw[Zq];exact Nat.le_refl _⟩,?_⟩;have sh:=MM.eK m heN r;refine⟨_,?_,(aP D _ (rr++[la]) (done++[MM.bK f e]) _ (eB _ rfl rfl (hH5.trans gD) aB ⟨ n5.keep fun b o' _ h=>gD _ _ h,(aJ n5.at_ hD).symm,?_,?_,?_⟩))⟩
    ·rw[Yv];simp only[Yq];lia
    ·rw[Yv,Yb];rw[MM.pM m hlt]at eq;exact eq
    ·intro x hx;rw[Yv]at hx;exact hlt x (Yz.mp hx).1
    ·rw[Yv];simp only[Yq]at hll;lia
  ·refine eV (by simp;lia) ?_;have hjp:=MM.wX rd hj0 hj hc;refine⟨_,fun σ' H' h=>h,?_⟩;refine(bW _ rfl (.inl ⟨rfl,_,SqL.of e4⟩) _ rfl (bV la _ _ rfl rfl ⟨ e4,?_,?_⟩))
   ·rw[Zq,MM.nU];exact Ys (by lia:j≤1000) (by decide)
   have e7:vns (MM.path f e j)++[vn (MM.iter f j e)]=vns (MM.path f e (j+1)):=by rw[MM.tV,pC];rfl
   rw[e7];have hH5:aW H (upd H4 la (.lst (vns (MM.path f e (j+1))))):=fun b o' h=>by rw[aL (aJ (g2 _ _ h) hla)];exact hH b o' h
   refine⟨_,(bO rfl _ rfl _ rfl (aP a o ts os (MM.iter f j e) (bG rfl (hH5.ts ht) (hH5.os ho) g (by rw[hN];exact MM.kE m heN j) ?_)))⟩;rw[hf];exact(cG (MM.per f e-(j+1)) (by lia) (j+1) rfl (by lia) ⟨ by lia,rfl,fun b o' hb h=>by rw[aL hb];exact b4 b o' hb h,aB⟩)
end K33
namespace MM
theorem gY{l:List Nat}{i x y:Nat}:y∈L2.bM l i x↔y=x∨y∈l:=by
 unfold L2.bM;rw[Zf,Zn];have h:y∈l↔y∈l.take i∨y∈l.drop i:=by rw[←Zf,List.take_append_drop]
 rw[h];constructor
 ·rintro(h | h | h)
  ·exact .inr (.inl h)
  ·exact .inl h
  ·exact .inr (.inr h)
 ·rintro(h | h | h)
  ·exact .inr (.inl h)
  ·exact .inl h
  ·exact .inr (.inr h)
theorem kF{l:List Nat}(nd:l.Nodup){i x:Nat}(h:x∉l):(L2.bM l i x).Nodup:=by
 unfold L2.bM;have p:(l.take i++x::l.drop i).Perm (x::l):=by
  have q:=List.perm_middle (a:=x) (l₁:=l.take i) (l₂:=l.drop i);rw[List.take_append_drop]at q;exact q
 exact(p.nodup_iff).mpr (List.nodup_cons.mpr ⟨h,nd⟩)
theorem gZ{α:Type}(l:List α)(i:Nat)(x:α):(L2.bM l i x).length=l.length+1:=by
 unfold L2.bM;rw[Zm,Yq,←Nat.add_assoc,←Zm,List.take_append_drop]
theorem fW(l:List Nat)(i x:Nat):L2.bM (L2.vns l) i (L2.vn x)=L2.vns (L2.bM l i x):=by
 unfold L2.bM L2.vns;rw[Zt,List.map_cons,List.map_take,List.map_drop]
end MM
namespace K33
open PySem L2 PyProof.Rows
def MB:Sp:=fun vs H Q _=>∃(num:Int) (n:Nat),vs=[.int num,vn n]∧0≤num∧n≤400∧∀(r:Addr) (ps:List Nat),H r=none→ps.Nodup→(∀x∈ps,x<n)→ps.length=n→Q (.ref r) (upd H r (.lst (vns ps)))
theorem xF(T:Txt K mg t):bQ P w K mg base CX0 1 t.yT t.yH ["_law_number","_law_many"] MB:=by
 refine T.qS.F.ok uL (fun vs H Q E h=>?_) (fun cdv A outer s H vs Q E hr h=>?_)
 ·obtain⟨num,n,rfl,_⟩:=h;rfl
 obtain⟨num,n,rfl,h0,hn,q⟩:=h;have nd:=uL.nd;refine⟨_,(aE (a7 2 nd (bS aC))
  (aE (cY PassesOwn.never rfl (dI rfl T.eA (aA (pv 1) aC)) (aQ (i:=3) nd rfl (Or.inl rfl)) (aE (bN (nS PySem.F.plainAttrs_list PySem.F.slot_list_insert PySem.F.type_list_insert kY (pv 2) (aA (aX dE (pv 0) (aX cV (pv 3) aH)) (aA (pv 3) aC))))
  (aK (a7 0 nd (aX eQ (pv 0) (aX cV (pv 3) aH))))))
  (aK (bC (pv 2))))),?_⟩
 refine⟨(by show 0≤ZW;decide),fun r hr0=>?_⟩;refine(cG _ rfl n rfl (by lia) ⟨ by lia,fX (lo:=0) (n:=(n:Int).toNat) (fun i σ H'=>∃(num':Int) (ps:List Nat) (o:Option V),0≤num'∧σ=[some (.int num'),some (vn n),some (.ref r),o]∧H'=upd H r (.lst (vns ps))∧ps.Nodup∧(∀x∈ps,x<i)∧ps.length=i)
  (bV num ([]) none h0 rfl ⟨ rfl,List.nodup_nil,(fun x hx=>by cases hx),rfl⟩) ?_ ?_⟩)
 ·rintro i σ H' hi ⟨num',ps,o,h0',rfl,rfl,hnd,hlt,hl⟩;have hi':i<400:=by lia
  have e1:num' % (0+(i:Int)+1)=(((num' % (0+(i:Int)+1)).toNat:Nat):Int):=by
   have:=Xj num' (show(0+(i:Int)+1)≠0 by lia)
   lia
  have e2:(num' % (0+(i:Int)+1)).toNat≤i:=by
   have:=Xk num' (show 0<(0+(i:Int)+1) by lia)
   lia
  refine(bW _ rfl (.inl ⟨rfl,_,SqL.of aB⟩) _ rfl (aN _ rfl _ _ rfl (cM rfl _ _ rfl rfl ⟨ (by show(0:Int)<0+(i:Int)+1;lia),_,rfl,(aG r _ ((num' % (0+(i:Int)+1)).toNat) (vn i) rfl ⟨ ?_,aB,?_,?_,?_⟩)⟩)))
  ·show[V.int (num' % (0+(i:Int)+1)),V.int (0+(i:Int))]=[V.int (((num' % (0+(i:Int)+1)).toNat:Nat):Int),V.int (i:Int)]
   rw[←e1,Int.zero_add]
  ·rw[Zq];lia
  ·rw[Zq];exact Ys (by lia:ps.length≤1000) (by decide)
  refine⟨_,rfl,(aN _ rfl _ _ rfl (cM rfl _ _ rfl rfl ⟨ ⟨by show(0:Int)<0+(i:Int)+1;lia,by show 0+(i:Int)+1<1073741824;lia⟩,?_⟩))⟩;refine(bV _ (bM ps (num' % (0+(i:Int)+1)).toNat i) _ ?_ rfl ⟨ ?_,?_,?_,?_⟩)
  ·exact Int.ediv_nonneg h0' (by lia)
  ·rw[j6,MM.fW]
  ·exact MM.kF hnd fun z=>Nat.lt_irrefl _ (hlt i z)
  ·intro x hx;rcases MM.gY.mp hx with rfl | hx
   ·lia
   ·have:=hlt x hx;lia
  ·rw[MM.gZ,hl]
 ·rintro σ H' ⟨num',ps,o,h0',rfl,rfl,hnd,hlt,hl⟩;exact⟨_,rfl,q r ps hr0 hnd (fun x hx=>by have:=hlt x hx;lia) (by lia)⟩
end K33
namespace MM
theorem BN(pick:Int){n:Nat}(h:0<n):∃i:Nat,i<n∧pick%(n:Int)=(i:Int):=by
 have h1:=Xj pick (show(n:Int)≠0 by lia);have h2:=Xk pick (show 0<(n:Int) by lia);exact⟨(pick%(n:Int)).toNat,by lia,by lia⟩
theorem zW{ts:b9}{t:Nat×Nat}{e:Nat}(h:e<2*ts.length):place (ts++[t]) e=place ts e:=by
 unfold place;have:e / 2<ts.length:=by lia
 simp only[List.getD,Zx this]
theorem uR(ts:b9)(t:Nat×Nat):place (ts++[t]) (2*ts.length)=t.1:=by
 unfold place;rw[if_pos (by lia),show 2*ts.length / 2=ts.length by lia];simp[List.getD]
theorem rW(ts:b9)(t:Nat×Nat):place (ts++[t]) (2*ts.length+1)=t.2:=by
 unfold place;rw[if_neg (by lia),show(2*ts.length+1) / 2=ts.length by lia];simp[List.getD]
theorem Good.newPlace{ts:b9}{os:bU}(g:Good ts os){a i:Nat}(ha:a<os.length)(h3:(row os a).length<4) :
  Good (ts++[(a,os.length)]) ((os.set a (L2.bM (row os a) i (2*ts.length)))++[[2*ts.length+1]]):=by
 have nm:2*ts.length∉row os a:=fun z=>by have:=(g.g.ends a _ z).1;lia
 have g1:=g.g.congr (pl':=place (ts++[(a,os.length)])) fun e he=>zW he;have g2:=g1.add ha (uR ts _) (l:=L2.bM (row os a) i (2*ts.length)) (fun x=>gY) (kF (g.g.nd a) nm) (by rw[gZ];lia);have g3:=g2.new (by rw[List.length_set];exact rW ts _);refine⟨?_,by rw[Zm];simp⟩;rw[Zm];exact g3
theorem Good.newTie{ts:b9}{os:bU}(g:Good ts os){a b i j:Nat}(ha:a<os.length)(hb:b<os.length)(h1:(row os a).length<4)(h2:(row (os.set a (L2.bM (row os a) i (2*ts.length))) b).length<4) :
  Good (ts++[(a,b)]) ((os.set a (L2.bM (row os a) i (2*ts.length))).set b (L2.bM (row (os.set a (L2.bM (row os a) i (2*ts.length))) b) j (2*ts.length+1))):=by
 have nm:2*ts.length∉row os a:=fun z=>by have:=(g.g.ends a _ z).1;lia
 have g1:=g.g.congr (pl':=place (ts++[(a,b)])) fun e he=>zW he;have g2:=g1.add ha (uR ts _) (l:=L2.bM (row os a) i (2*ts.length)) (fun x=>gY) (kF (g.g.nd a) nm) (by rw[gZ];lia);have nm2:2*ts.length+1∉row (os.set a (L2.bM (row os a) i (2*ts.length))) b:=fun z=>by have:=(g2.ends b _ z).1;lia
 have g3:=g2.add (a:=b) (by rw[List.length_set];exact hb) (rW ts _) (l:=L2.bM (row (os.set a (L2.bM (row os a) i (2*ts.length))) b) j (2*ts.length+1)) (fun x=>gY) (kF (g2.nd b) nm2) (by rw[gZ];lia);refine⟨?_,by rw[Zm];simp⟩;rw[Zm];exact g3
theorem DL{f:Nat→Nat}{N:Nat}(m:fL f N)(h:0<N):0<(cF f N).length:=by
 unfold cF;cases N with
 |zero=>lia
 |succ N =>
  have e:List.range (N+1)=0::(List.range N).map Nat.succ:=List.range_succ_eq_map;have hl:∀x∈List.range (N+1),x<N+1:=fun x hx=>Zs.mp hx;rw[e]at hl ⊢;rw[pM m hl];simp
theorem uU{f:Nat→Nat}{N:Nat}(m:fL f N){d:List Nat}(h:d∈cF f N):0<d.length∧∀x∈d,x<N:=by
 obtain⟨e,he,rfl⟩:=BQ m _ _ (Nat.le_refl _) (fun x hx=>Zs.mp hx) d h;have heN:=Zs.mp he;exact⟨(DM m heN).1,sH m heN⟩
end MM
namespace L2
open PySem PyProof.Rows
theorem iU.other{H:Hp}{a x:Addr}{ts:MM.b9}{zs:List V}(h:iU H a ts)(hx:H x=some (.lst zs))(ne:x≠a)(o:HO):iU (upd H x o) a ts:=by
 obtain⟨tr,h1,h2,h3⟩:=h;refine⟨tr,by rw[aL (Ne.symm ne)];exact h1,h2,fun i t ht=>?_⟩;obtain⟨r,q1,q2⟩:=h3 i t ht;exact⟨r,q1,by rw[aL (dB q2 hx (fun z=>nomatch z))];exact q2⟩
theorem iU.push{H:Hp}{a r:Addr}{ts:MM.b9}{xs:List V}{t:Nat×Nat}(h:iU H a ts)(hx:H a=some (.lst xs))(hr:H r=some (.tup [vn t.1,vn t.2])):iU (upd H a (.lst (xs++[.ref r]))) a (ts++[t]):=by
 obtain⟨tr,h1,h2,h3⟩:=h;have ex:xs=tr.map V.ref:=by rw[hx]at h1;cases h1;rfl
 subst ex;refine⟨tr++[r],by rw[aB,Zt];rfl,by rw[Zm,Zm,h2];rfl,fun i u hu=>?_⟩;rcases Xq i ts.length with q | q
 ·rw[Zx q]at hu;obtain⟨y,q1,q2⟩:=h3 i u hu;exact⟨y,by rw[Zx (by rw[h2];exact q)];exact q1,by rw[aL (dB q2 hx (fun z=>nomatch z))];exact q2⟩
 ·have hi:i=ts.length:=by
   obtain⟨z,_⟩:=Zj.mp hu;rw[Zm]at z;simp at z
   lia
  subst hi;rw[Yx]at hu;cases hu;exact⟨r,by rw[←h2,Yx],by rw[aL (dB hr hx (fun z=>nomatch z))];exact hr⟩
theorem dD.set{H0 H:Hp}{o x:Addr}{rr:List Addr}{os:MM.bU}(n:dD H0 H o rr os){p:Nat}{l:List Nat}(hx:rr[p]?=some x):dD H0 (upd H x (.lst (vns l))) o rr (os.set p l) where
 at_:=by rw[aL (show o≠x from fun z=>n.nin (z▸Zg hx))];exact n.at_
 len:=by rw[List.length_set];exact n.len
 row:=fun i m h=>by
  by_cases e:p=i
  ·subst e;have hp:p<os.length:=by rw[←n.len];exact(Zj.mp hx).1
   rw[List.getElem?_set_self hp]at h;cases h;exact⟨x,hx,aB⟩
  ·rw[List.getElem?_set_ne e]at h;obtain⟨y,h1,h2⟩:=n.row i m h;refine⟨y,h1,?_⟩;have ne:y≠x:=by
    rintro rfl;obtain⟨a1,b1⟩:=Zj.mp h1;obtain⟨a2,b2⟩:=Zj.mp hx;exact e ((List.getElem_inj n.nd).mp (b2.trans b1.symm))
   rw[aL ne];exact h2
 nd:=n.nd
 nin:=n.nin
 new:=n.new
 news:=n.news
theorem dD.item{H0 H:Hp}{o:Addr}{rr:List Addr}{os:MM.bU}(n:dD H0 H o rr os){p:Nat}(hp:p<os.length):∃x,rr[p]?=some x∧x∈rr∧H x=some (.lst (vns (MM.row os p)))∧atI (rr.map V.ref) (p:Int)=some (.ref x):=by
 obtain⟨x,h1,h2⟩:=n.row p os[p] (Zz hp);refine⟨x,h1,Zg h1,?_,c9 (by rw[Zk,h1];rfl)⟩;unfold MM.row;simp only[List.getD,Zz hp,Option.getD_some];exact h2
structure tE(H0 H:Hp)(a o:Addr)(rr:List Addr)(ts:MM.b9)(os:MM.bU):Prop where
 ts:iU H a ts
 os:dD H0 H o rr os
 an:H0 a=none
 ao:a≠o
 ar:a∉rr
theorem tE.keep{H0 H H':Hp}{a o:Addr}{rr:List Addr}{ts:MM.b9}{os:MM.bU}(m:tE H0 H a o rr ts os)(g:aW H H'):tE H0 H' a o rr ts os:=⟨g.ts m.ts,m.os.keep fun b u _ h=>g _ _ h,m.an,m.ao,m.ar⟩
end L2
namespace MM
theorem L5{f:Nat→Nat}{N:Nat}(m:fL f N){y:Nat}(hy:y<N):∃x,x<N∧f x=y:=by
 obtain⟨k,h0,_,h⟩:=vD m hy;refine⟨iter f (k-1) y,kE m hy _,?_⟩;have e:k=(k-1)+1:=by lia
 rw[e]at h;exact h
theorem IA{l:List Nat}(nd:l.Nodup)(h:∀x∈l,x<l.length):fL (fun i=>l.getD i 0) l.length where
 lt:=fun e he=>h _ (by simp only[List.getD,Zz he,Option.getD_some];exact Zp he)
 inj:=fun a b ha hb q=>by
  simp only[List.getD,Zz ha,Zz hb,Option.getD_some]at q;exact(List.getElem_inj nd).mp q
def nmF(U F:Nat→Nat)(e:Nat):Nat:=2*U (e / 2)+(if e%2=0 then F (e / 2) else 1-F (e / 2))
theorem sC(U F:Nat→Nat)(hF:∀k,F k≤1)(e:Nat):nmF U F e / 2=U (e / 2)∧nmF U F e%2=(if e%2=0 then F (e / 2) else 1-F (e / 2)):=by
 have h:(if e%2=0 then F (e / 2) else 1-F (e / 2))<2:=by
  split
  ·exact Nat.lt_succ_of_le (hF _)
  ·exact Nat.lt_succ_of_le (Nat.sub_le _ _)
 unfold nmF;rw[Nat.mul_add_div (Nat.zero_lt_succ 1),Nat.div_eq_of_lt h,Nat.mul_add_mod,Nat.mod_eq_of_lt h];exact⟨rfl,rfl⟩
theorem DH{U F:Nat→Nat}{T:Nat}(hU:fL U T)(hF:∀k,F k≤1):fL (nmF U F) (2*T) where
 lt:=fun e he=>by
  have h1:=hU.lt (e / 2) (by lia);have h2:=(sC U F hF e).1;rw[←h2]at h1
  lia
 inj:=fun a b ha hb h=>by
  have⟨a1,a2⟩:=sC U F hF a;have⟨b1,b2⟩:=sC U F hF b;rw[h]at a1 a2;have e:=hU.inj (a / 2) (b / 2) (by lia) (by lia) (a1.symm.trans b1);rw[b2,e]at a2;have hk:=hF (b / 2);refine DT e ?_;generalize F (b / 2)=f at a2 hk;rcases Nat.mod_two_eq_zero_or_one a with x | x<;>rcases Nat.mod_two_eq_zero_or_one b with y | y<;>rw[x,y]at a2 ⊢
  ·rw[if_pos rfl,if_neg (by decide)]at a2;lia
  ·rw[if_pos rfl,if_neg (by decide)]at a2;lia
theorem DA(ts:b9)(e:Nat):place ts e=if e%2=0 then (ts.getD (e / 2) (0,0)).1 else (ts.getD (e / 2) (0,0)).2:=rfl
theorem BJ{ts told:b9}{os rows:bU}(g:Good ts os){U F Pl:Nat→Nat}(hU:fL U ts.length)(hF:∀k,F k≤1)(hP:fL Pl os.length)(ht:told.length=ts.length)(hr:rows.length=os.length)
  (hv:∀k,k<ts.length→told.getD (U k) (0,0)=if F k=0 then (Pl (ts.getD k (0,0)).1,Pl (ts.getD k (0,0)).2) else (Pl (ts.getD k (0,0)).2,Pl (ts.getD k (0,0)).1))
  (hw:∀p,p<os.length→∃l:List Nat,row rows (Pl p)=l.map (nmF U F)∧l.Perm (row os p)):Good told rows:=by
 have mN:=DH hU hF;have pl:∀e,e<2*ts.length→place told (nmF U F e)=Pl (place ts e):=fun e he=>by
  have⟨h1,h2⟩:=sC U F hF e;have hk:=hv (e / 2) (by lia);have hf:=hF (e / 2);rw[DA told,DA ts,h1,h2,hk];by_cases q:e%2=0
  ·by_cases z:F (e / 2)=0
   ·simp[q,z]
   ·have z1:F (e / 2)=1:=by lia
    simp[q,z1]
  ·by_cases z:F (e / 2)=0
   ·simp[q,z]
   ·have z1:F (e / 2)=1:=by lia
    simp[q,z1]
 have out:∀p,rows.length≤p→row rows p=[]:=fun p hp=>by
  unfold row;simp[List.getD,Zr hp]
 refine⟨⟨fun p e he=>?_,fun e he=>?_,fun p=>?_,fun p hp=>?_,fun p=>?_⟩,by rw[ht];exact g.one⟩
 ·rcases Xq p rows.length with hp | hp
  ·obtain⟨p0,hp0,rfl⟩:=L5 hP (hr▸hp);obtain⟨l,h1,h2⟩:=hw p0 hp0;rw[h1]at he;obtain⟨x,hx,rfl⟩:=Zh.mp he;have q:=g.g.ends p0 x (h2.mem_iff.mp hx);rw[ht];exact⟨mN.lt x q.1,by rw[pl x q.1,q.2]⟩
  ·rw[out p hp]at he;cases he
 ·rw[ht]at he;obtain⟨x,hx,rfl⟩:=L5 mN he;have q:=g.g.has x hx;rw[pl x hx,hr];refine⟨hP.lt _ q.1,?_⟩;obtain⟨l,h1,h2⟩:=hw _ q.1;rw[h1];exact Zh.mpr ⟨x,h2.mem_iff.mpr q.2,rfl⟩
 ·rcases Xq p rows.length with hp | hp
  ·obtain⟨p0,hp0,rfl⟩:=L5 hP (hr▸hp);obtain⟨l,h1,h2⟩:=hw p0 hp0;rw[h1];have ndl:l.Nodup:=h2.nodup_iff.mpr (g.g.nd p0);have hl:∀x∈l,x<2*ts.length:=fun x hx=>(g.g.ends p0 x (h2.mem_iff.mp hx)).1;clear h1 h2;induction l with
   |nil=>exact List.nodup_nil
   |cons a l ih =>
    rw[List.map_cons,List.nodup_cons];obtain⟨n1,n2⟩:=List.nodup_cons.mp ndl;refine⟨fun z=>?_,ih n2 fun x hx=>hl x (Zw _ hx)⟩;obtain⟨y,hy,e⟩:=Zh.mp z;have:=mN.inj y a (hl y (Zw _ hy)) (hl a Zd) e;subst this;exact n1 hy
  ·rw[out p hp];exact List.nodup_nil
 ·obtain⟨p0,hp0,rfl⟩:=L5 hP (hr▸hp);obtain⟨l,h1,h2⟩:=hw p0 hp0;rw[h1];intro z;have:l=[]:=List.map_eq_nil_iff.mp z;subst this;exact g.g.full p0 hp0 (h2.symm.eq_nil)
 ·rcases Xq p rows.length with hp | hp
  ·obtain⟨p0,hp0,rfl⟩:=L5 hP (hr▸hp);obtain⟨l,h1,h2⟩:=hw p0 hp0;rw[h1,Zq,h2.length_eq];exact g.g.four p0
  ·rw[out p hp];simp
noncomputable def xJ(ts:b9)(os:bU):Nat:=(cF (behind ts os) (2*ts.length)).length
def Flat(ts:b9)(os:bU):Prop:=os.length+xJ ts os=ts.length+2
theorem GD{f:Nat→Nat}{N:Nat}(m:fL f N):(cF f N).flatten.Perm (List.range N):=by
 have one:=fun {x:Nat}(hx:x<N)=>GA m _ (List.range N) (Nat.le_refl _) (fun z hz=>Zs.mp hz) x (Zs.mpr hx);have mem:=fun (d:List Nat) (hd:d∈cF f N)=>BQ m _ (List.range N) (Nat.le_refl _) (fun z hz=>Zs.mp hz) d hd;have lt:∀d∈cF f N,∀x∈d,x<N:=fun d hd x hx=>by
  obtain⟨e,he,rfl⟩:=mem d hd;exact sH m (Zs.mp he) x hx
 refine(List.perm_ext_iff_of_nodup ?_ List.nodup_range).mpr fun x=>?_
 ·rw[List.nodup_iff_pairwise_ne,List.pairwise_flatten];refine⟨fun d hd=>?_,?_⟩
  ·obtain⟨e,he,rfl⟩:=mem d hd;have:=xR m (Zs.mp he)
   rwa [List.nodup_iff_pairwise_ne]at this
  ·rw[List.pairwise_iff_getElem];intro i j hi hj hij x hx y hy e;subst e;obtain⟨k,d,_,_,h3⟩:=one (lt _ (Zp hi) x hx);have e1:=h3 i _ (Zz hi) hx;have e2:=h3 j _ (Zz hj) hy
   lia
 ·rw[List.mem_flatten,Zs];constructor
  ·rintro⟨d,hd,hx⟩;exact lt d hd x hx
  ·intro hx;obtain⟨k,d,h1,h2,_⟩:=one hx;exact⟨d,Zg h1,h2⟩
end MM
namespace K33
open PySem L2 PyProof.Rows
def RJ:Sp:=fun vs H Q _=>∃(H0:Hp) (ta oa:Addr) (pick most:Int) (rr:List Addr) (ts:MM.b9) (os:MM.bU),vs=[.ref ta,.ref oa,.int pick,.int most]∧aW H0 H∧tE H0 H ta oa rr ts os∧MM.Good ts os∧ts.length≤100∧os.length≤100∧0≤pick ∧
 ∀(H':Hp) (rr':List Addr) (ts':MM.b9) (os':MM.bU),aW H0 H'→tE H0 H' ta oa rr' ts' os'→MM.Good ts' os'→ts'.length≤ts.length+1→os'.length≤os.length+1→Q .non H'
theorem NI(T:Txt K mg t):bQ P w K mg base CX0 4 t.ET t.ED ["_law_ties","_law_orders","_law_number","_law_most"] RJ:=by
 refine T.D0.F.ok zP (fun vs H Q E h=>?_) (fun cdv A outer s H vs Q E hr h=>?_)
 ·obtain⟨H0,ta,oa,pick,most,rr,ts,os,rfl,_⟩:=h;rfl
 obtain⟨H0,ta,oa,pick,most,rr,ts,os,rfl,g0,hm,g,ht100,ho100,hp0,q⟩:=h;have nd:=zP.nd;refine⟨_,(aE (a7 4 nd (bR (AA T) hr T.t8 bE (aA (pv 0) (aA (pv 1) aC))))
  (aE (a7 5 nd (aM aV (pv 4) (aX dE (pv 2) (aT aO rfl T.cP PySem.boot_len (aA (pv 4) aC))) (fun _ _=>rfl)))
  (aE (a7 6 nd (bR (pF T) hr T.lI bE (aA (aM aV (pv 5) (aX dE (aX eQ (pv 2) aH) (aT aO rfl T.cP PySem.boot_len (aA (pv 5) aC))) (fun _ _=>rfl)) aC)))
  (aE (a7 7 nd (bR (pF T) hr T.lI bE (aA (aM aV (pv 5) (aX dE (aX eQ (pv 2) aH) (aT aO rfl T.cP PySem.boot_len (aA (pv 5) aC))) (fun _ _=>rfl)) aC)))
  (aE (a7 8 nd (bR (tX T) hr T.jG bE (aA (pv 0) (aA (pv 6) aC))))
  (aE (a7 9 nd (bR (tX T) hr T.jG bE (aA (pv 0) (aA (pv 7) aC))))
  (aE (a7 10 nd (aX dW aH (aT aO rfl T.cP PySem.boot_len (aA (pv 0) aC))))
  (aK (cC (PW.pt (gS (aZ fK (aX dE (aX eQ (pv 2) aH) aH) aH (bD _)) (gS (aZ fS (aT aO rfl T.cP PySem.boot_len (aA (pv 1) aC)) (pv 3) (bD _)) (gG (aZ fS (aT aO rfl T.cP PySem.boot_len (aA (aM aV (pv 1) (pv 8) (fun _ _=>rfl)) aC)) aH (bD _)))))) (aE (bN (nS PySem.F.plainAttrs_list PySem.F.slot_list_insert PySem.F.type_list_insert kY (aM aV (pv 1) (pv 8) (fun _ _=>rfl)) (aA (nS PySem.F.plainAttrs_list PySem.F.slot_list_index PySem.F.type_list_index nY (aM aV (pv 1) (pv 8) (fun _ _=>rfl)) (aA (pv 6) aC)) (aA (pv 10) aC))))
  (aE (bN (kO mAp cD (pv 0) (aA (bX (aA (pv 8) (aA (aT aO rfl T.cP PySem.boot_len (aA (pv 1) aC)) aC))) aC)))
  (aK (bN (kO mAp cD (pv 1) (aA (bS (aA (aX cV (pv 10) aH) aC)) aC)))))) (aK (cC (PW.pt (gS (aZ fS (aT aO rfl T.cP PySem.boot_len (aA (aM aV (pv 1) (pv 8) (fun _ _=>rfl)) aC)) (aX iT aH (dG lP rfl T.CI boot_int (aA (iY fK (pv 8) (pv 9) (bD _)) aC))) (bD _)) (gG (aZ fS (aT aO rfl T.cP PySem.boot_len (aA (aM aV (pv 1) (pv 9) (fun _ _=>rfl)) aC)) (aX iT aH (dG lP rfl T.CI boot_int (aA (iY fK (pv 8) (pv 9) (bD _)) aC))) (bD _))))) (aE (bN (nS PySem.F.plainAttrs_list PySem.F.slot_list_insert PySem.F.type_list_insert kY (aM aV (pv 1) (pv 8) (fun _ _=>rfl)) (aA (nS PySem.F.plainAttrs_list PySem.F.slot_list_index PySem.F.type_list_index nY (aM aV (pv 1) (pv 8) (fun _ _=>rfl)) (aA (pv 6) aC)) (aA (pv 10) aC))))
  (aE (bN (nS PySem.F.plainAttrs_list PySem.F.slot_list_insert PySem.F.type_list_insert kY (aM aV (pv 1) (pv 9) (fun _ _=>rfl)) (aA (nS PySem.F.plainAttrs_list PySem.F.slot_list_index PySem.F.type_list_index nY (aM aV (pv 1) (pv 9) (fun _ _=>rfl)) (aA (pv 7) aC)) (aA (aX cV (pv 10) aH) aC))))
  (aK (bN (kO mAp cD (pv 0) (aA (bX (aA (pv 8) (aA (pv 9) aC))) aC)))))) bJ))))))))))),?_⟩
 have m:=g.maps;refine⟨_,rfl,_,rfl,(aG ta oa ts os rfl ⟨ hm.ts,hm.os.os,g,by lia,fun r1 rr1 H1 g1 n1=>?_⟩)⟩;have hm1:=hm.keep g1;have lpos:=MM.DL m (by have:=g.one;lia);have rl1:(rr1.map V.ref).length=(MM.cF (MM.behind ts os) (2*ts.length)).length:=by rw[Zq];exact n1.len
 obtain⟨k1,hk1,ek1⟩:=MM.BN pick (n:=(rr1.map V.ref).length) (by lia);obtain⟨x1,x11,x12,x13,x14⟩:=n1.item (p:=k1) (by lia);obtain⟨lp,ll⟩:=MM.uU m (d:=MM.row (MM.cF (MM.behind ts os) (2*ts.length)) k1) (by
  unfold MM.row;have:k1<(MM.cF (MM.behind ts os) (2*ts.length)).length:=by lia
  simp only[List.getD,Zz this,Option.getD_some];exact Zp this)
 generalize MM.row (MM.cF (MM.behind ts os) (2*ts.length)) k1=land at x13 lp ll;have ll1:(vns land).length=land.length:=Zq _;refine⟨_,(bO rfl _ rfl _ rfl ⟨ r1,_,(bB rfl (.inl (SqL.of n1.at_)) _ _ rfl ⟨ rfl,(by show(0:Int)<((rr1.map V.ref).length:Nat);lia),(aG r1 _ _ _ rfl ⟨ rfl,SqL.of n1.at_,(by show atI _ (pick%((rr1.map V.ref).length:Nat))=_;rw[ek1];exact x14),?_⟩)⟩)⟩)⟩;obtain⟨k2,hk2,ek2⟩:=MM.BN (pick / 8) (n:=(vns land).length) (by lia);obtain⟨k3,hk3,ek3⟩:=MM.BN (pick / 128) (n:=(vns land).length) (by lia);have e2:=ll (land.getD k2 0) (by simp only[List.getD,Zz (show k2<land.length by lia),Option.getD_some];exact Zp _);have e3:=ll (land.getD k3 0) (by simp only[List.getD,Zz (show k3<land.length by lia),Option.getD_some];exact Zp _);refine⟨_,rfl,(aN _ rfl _ _ rfl ⟨ rfl,⟨by decide,by decide⟩,(aN _ rfl x1 _ rfl (cM (.inl (SqL.of x13)) _ _ rfl rfl ⟨ (by show(0:Int)<((vns land).length:Nat);lia),(aG x1 _ _ _ rfl (aR rfl (SqL.of x13) (by show atI _ (pick / 8%((vns land).length:Nat))=_;rw[ek2];exact oT (by lia) rfl) _ rfl ?_))⟩))⟩)⟩;refine⟨_,rfl,(aN _ rfl _ _ rfl ⟨ rfl,⟨by decide,by decide⟩,(aN _ rfl x1 _ rfl (cM (.inl (SqL.of x13)) _ _ rfl rfl ⟨ (by show(0:Int)<((vns land).length:Nat);lia),(aG x1 _ _ _ rfl (aR rfl (SqL.of x13) (by show atI _ (pick / 128%((vns land).length:Nat))=_;rw[ek3];exact oT (by lia) rfl) _ rfl ?_))⟩))⟩)⟩;generalize land.getD k2 0=u1 at e2;generalize land.getD k3 0=u2 at e3;have o1:=g.g.has (MM.oth u1) (MM.fR e2);have o2:=g.g.has (MM.oth u2) (MM.fR e3);have lt1:=MM.fR e2;have lt2:=MM.fR e3;generalize MM.oth u1=one at o1 lt1;generalize MM.oth u2=two at o2 lt2;refine⟨_,rfl,_,(cU rfl ta ts one rfl ⟨ hm1.ts,lt1,?_⟩)⟩;refine⟨_,rfl,_,(cU rfl ta ts two rfl ⟨ hm1.ts,lt2,?_⟩)⟩;obtain⟨ha0,ha1⟩:=o1;obtain⟨hb0,hb1⟩:=o2;generalize hpa:MM.place ts one=a at ha0 ha1;generalize hpb:MM.place ts two=b at hb0 hb1;obtain⟨tr,tr1,tr2,tr3⟩:=id hm1.ts;refine(aN _ rfl ta _ rfl (cM (.inl (SqL.of tr1)) _ _ rfl rfl ⟨ .inl ⟨by decide,by decide⟩,?_⟩));have eE:(2:Int)*((tr.map V.ref).length:Nat)=((2*ts.length:Nat):Int):=by rw[Zq,tr2];push_cast;rfl
 show jN 10 (V.int ((2:Int)*((tr.map V.ref).length:Nat))) _ _ _;rw[eE];have n2:=hm1.os;have g2:=g0.trans g1;obtain⟨xa,xa1,xa2,xa3,xa4⟩:=n2.item ha0;have hra:((vns (MM.row os a)).length:Int)=((MM.row os a).length:Nat):=by rw[Zq]
 have hro:((rr.map V.ref).length:Int)=(os.length:Nat):=by rw[Zq,n2.len]
 have nta:ta≠xa:=fun z=>hm1.ar (z▸xa2);have noa:oa≠xa:=fun z=>n2.nin (z▸xa2);have ia:=List.idxOf_lt_length_of_mem ha1;have noneC:Q .non H1:=q H1 rr ts os g2 hm1 g (by lia) (by lia);refine(aN _ rfl _ _ rfl (bB rfl ⟨by decide,by decide⟩ _ _ rfl (aR rfl (by show(0:Int)<3;decide) rfl _ rfl ?_)));refine eY (fun c1=>?_) (fun c1=>?_)
 ·refine(aN _ rfl oa _ rfl ⟨ .inl (SqL.of n2.at_),(aN _ rfl _ _ rfl ⟨ rfl,_,rfl,?_⟩)⟩);refine eY (fun c2=>?_) (fun c2=>?_)
  ·refine⟨_,rfl,_,rfl,(aG oa _ _ _ rfl ⟨ rfl,(bB (SqL.of n2.at_) xa4 xa _ rfl (cM (.inl (SqL.of xa3)) _ _ rfl rfl ⟨ _,rfl,?_⟩))⟩)⟩;refine eY (fun c3=>?_) (fun c3=>?_)
   ·have c3':((vns (MM.row os a)).length:Int)<4:=of_decide_eq_true c3;rw[hra]at c3';have h3:(MM.row os a).length<4:=by lia
    refine⟨_,rfl,_,rfl,(aG oa _ _ _ rfl ⟨ rfl,(aR (SqL.of n2.at_) xa4 (.inl ⟨rfl,_,SqL.of xa3⟩) _ rfl ⟨ _,rfl,(aG oa _ _ _ rfl ⟨ rfl,(aR (SqL.of n2.at_) xa4 (.inl ⟨rfl,_,SqL.of xa3⟩) _ rfl (bV xa _ one rfl rfl ⟨ xa3,ha1,_,rfl,(aG xa _ _ _ rfl ⟨ rfl,xa3,?_,?_,?_⟩)⟩))⟩)⟩)⟩)⟩
    ·rw[Zq];lia
    ·rw[Zq];exact Ys (g.g.four a) (by decide)
    rw[MM.fW];have n3:=n2.set (l:=bM (MM.row os a) ((MM.row os a).idxOf one) (2*ts.length)) xa1;have t3:=hm1.ts.other xa3 (Ne.symm nta) (.lst (vns (bM (MM.row os a) ((MM.row os a).idxOf one) (2*ts.length))));have s3:aW H0 (upd H1 xa (.lst (vns (bM (MM.row os a) ((MM.row os a).idxOf one) (2*ts.length))))):=fun c u h=>by rw[aL (aJ h (n2.news _ xa2))];exact g2 _ _ h
    have gd:=g.newPlace (i:=(MM.row os a).idxOf one) ha0 h3;have hol:(os.set a (bM (MM.row os a) ((MM.row os a).idxOf one) (2*ts.length))).length=os.length:=List.length_set;generalize upd H1 xa (.lst (vns (bM (MM.row os a) ((MM.row os a).idxOf one) (2*ts.length))))=H3 at n3 t3 s3;generalize os.set a (bM (MM.row os a) ((MM.row os a).idxOf one) (2*ts.length))=os1 at n3 gd hol;obtain⟨tq,tq1,tq2,tq3⟩:=id t3;refine(bW _ rfl (.inl ⟨rfl,_,SqL.of tq1⟩) _ rfl (aN _ rfl oa _ rfl ⟨ .inl (SqL.of n3.at_),(by show 2≤ZW;decide),fun tp htp=>?_⟩));have e0:(V.int ((rr.map V.ref).length:Nat))=vn os.length:=by rw[Zq,n2.len]
    rw[e0]at *;have g5:=aI htp (.tup [vn a,vn os.length]);refine(bV ta _ _ rfl rfl ⟨ g5 _ _ tq1,?_,?_⟩)
    ·rw[Zq,tq2];exact Ys ht100 (by decide)
    have t5:=(g5.ts t3).push (t:=(a,os.length)) (g5 _ _ tq1) aB;have n5:dD H0 (upd (upd H3 tp (.tup [vn a,vn os.length])) ta (.lst (tq.map V.ref++[.ref tp]))) oa rr os1:=n3.keep fun c u hc h=>by
     rw[aL (show c≠ta by rcases hc with rfl | hc;exact Ne.symm hm1.ao;rintro rfl;exact hm1.ar hc)];exact g5 _ _ h
    have s5:aW H0 (upd (upd H3 tp (.tup [vn a,vn os.length])) ta (.lst (tq.map V.ref++[.ref tp]))):=fun c u h=>by rw[aL (aJ h hm1.an)];exact g5 _ _ (s3 _ _ h)
    generalize upd (upd H3 tp (.tup [vn a,vn os.length])) ta (.lst (tq.map V.ref++[.ref tp]))=H5 at t5 n5 s5;refine(bW _ rfl (.inl ⟨rfl,_,SqL.of n5.at_⟩) _ rfl (bH _ _ rfl rfl (by show 1≤ZW;decide) (fun nl hnl=>?_)));have e1:(fun i j:Int=>V.int (i+j)) ((2*ts.length:Nat):Int) 1=vn (2*ts.length+1):=rfl;rw[e1]at *;have g6:=aI hnl (.lst [vn (2*ts.length+1)]);refine(bV oa _ _ rfl rfl ⟨ g6 _ _ n5.at_,?_,?_⟩)
    ·rw[Zq,n5.len,hol];exact Ys ho100 (by decide)
    have nlr:nl∉rr:=fun z=>by obtain⟨l,hl⟩:=n5.ex z;rw[hnl]at hl;cases hl
    have nlo:nl≠oa:=(aJ n5.at_ hnl).symm;have n6:=n5.push (x:=nl) (l:=[2*ts.length+1]) (H2:=upd (upd H5 nl (.lst [vn (2*ts.length+1)])) oa (.lst (rr.map V.ref++[.ref nl]))) (s5.free hnl) nlr nlo (by rw[aB,Zt];rfl) (by rw[aL nlo];exact aB) (fun c u hc h=>by rw[aL (show c≠oa from fun z=>n5.nin (z▸hc))];exact g6 _ _ h);have t6:=(g6.ts t5).other (g6 _ _ n5.at_) (Ne.symm hm1.ao) (.lst (rr.map V.ref++[.ref nl]));have s6:aW H0 (upd (upd H5 nl (.lst [vn (2*ts.length+1)])) oa (.lst (rr.map V.ref++[.ref nl]))):=fun c u h=>by rw[aL (aJ h n2.new)];exact g6 _ _ (s5 _ _ h)
    have tnl:ta≠nl:=by obtain⟨tq',z1,_⟩:=id t5;exact aJ z1 hnl
    exact q _ (rr++[nl]) _ _ s6 ⟨t6,n6,hm1.an,hm1.ao,fun z=>(Zf.mp z).elim hm1.ar fun z=>tnl (by simpa using z)⟩ gd (by rw[Zm];exact Nat.le_refl _) (by rw[Zm,hol];exact Nat.le_refl _)
   ·obtain⟨xb,xb1,xb2,xb3,xb4⟩:=n2.item hb0;refine⟨_,rfl,_,rfl,(aG oa _ _ _ rfl ⟨ rfl,(bB (SqL.of n2.at_) xa4 xa _ rfl (bO (.inl (SqL.of xa3)) _ rfl _ rfl ⟨ rfl,.inr ⟨_,rfl,?_⟩⟩))⟩)⟩;refine⟨_,_,(bB rfl rfl _ _ rfl ⟨ rfl,_,rfl,?_⟩)⟩;refine eY (fun d1=>?_) (fun d1=>eZ rfl noneC);refine⟨_,rfl,_,rfl,(aG oa _ _ _ rfl ⟨ rfl,(bB (SqL.of n2.at_) xb4 xb _ rfl (bO (.inl (SqL.of xb3)) _ rfl _ rfl ⟨ rfl,.inr ⟨_,rfl,?_⟩⟩))⟩)⟩;refine⟨_,_,(bB rfl rfl _ _ rfl ⟨ rfl,_,rfl,?_⟩)⟩;refine eY (fun d2=>?_) (fun d2=>noneC);have h12:(MM.row os a).length<4∧(MM.row (os.set a (bM (MM.row os a) ((MM.row os a).idxOf one) (2*ts.length))) b).length<4:=by
     have d1':((vns (MM.row os a)).length:Int)<4-(if decide (vn a=vn b)=true then 1 else 0):=of_decide_eq_true d1;have d2':((vns (MM.row os b)).length:Int)<4-(if decide (vn a=vn b)=true then 1 else 0):=of_decide_eq_true d2;rw[hra]at d1';rw[Zq]at d2';by_cases hab:a=b
     ·subst hab;rw[if_pos (by simp)]at d1';rw[MM.cJ ha0,MM.gZ]
      lia
     ·have nab:¬(decide (vn a=vn b)=true):=by
       intro z;have z':=of_decide_eq_true z;injection z' with z';exact hab (by lia)
      rw[if_neg nab]at d1' d2';rw[MM.dJ (Ne.symm hab)]
      lia
    refine⟨_,rfl,_,rfl,(aG oa _ _ _ rfl ⟨ rfl,(aR (SqL.of n2.at_) xa4 (.inl ⟨rfl,_,SqL.of xa3⟩) _ rfl ⟨ _,rfl,(aG oa _ _ _ rfl ⟨ rfl,(aR (SqL.of n2.at_) xa4 (.inl ⟨rfl,_,SqL.of xa3⟩) _ rfl (bV xa _ one rfl rfl ⟨ xa3,ha1,_,rfl,(aG xa _ _ _ rfl ⟨ rfl,xa3,?_,?_,?_⟩)⟩))⟩)⟩)⟩)⟩
    ·rw[Zq];lia
    ·rw[Zq];exact Ys (g.g.four a) (by decide)
    rw[MM.fW];have n3:=n2.set (l:=bM (MM.row os a) ((MM.row os a).idxOf one) (2*ts.length)) xa1;have t3:=hm1.ts.other xa3 (Ne.symm nta) (.lst (vns (bM (MM.row os a) ((MM.row os a).idxOf one) (2*ts.length))));have s3:aW H0 (upd H1 xa (.lst (vns (bM (MM.row os a) ((MM.row os a).idxOf one) (2*ts.length))))):=fun c u h=>by rw[aL (aJ h (n2.news _ xa2))];exact g2 _ _ h
    have hb2:two∈MM.row (os.set a (bM (MM.row os a) ((MM.row os a).idxOf one) (2*ts.length))) b:=by
     by_cases hab:b=a
     ·subst hab;rw[MM.cJ ha0];exact MM.gY.mpr (.inr hb1)
     ·rw[MM.dJ hab];exact hb1
    have gd:=g.newTie (i:=(MM.row os a).idxOf one) (j:=(MM.row (os.set a (bM (MM.row os a) ((MM.row os a).idxOf one) (2*ts.length))) b).idxOf two) ha0 hb0 h12.1 h12.2;have hol:(os.set a (bM (MM.row os a) ((MM.row os a).idxOf one) (2*ts.length))).length=os.length:=List.length_set;generalize upd H1 xa (.lst (vns (bM (MM.row os a) ((MM.row os a).idxOf one) (2*ts.length))))=H3 at n3 t3 s3;generalize os.set a (bM (MM.row os a) ((MM.row os a).idxOf one) (2*ts.length))=os1 at n3 hb2 gd h12 hol;obtain⟨yb,yb1,yb2,yb3,yb4⟩:=n3.item (p:=b) (by lia);have ib:=List.idxOf_lt_length_of_mem hb2;refine⟨_,rfl,_,rfl,(aG oa _ _ _ rfl ⟨ rfl,(aR (SqL.of n3.at_) yb4 (.inl ⟨rfl,_,SqL.of yb3⟩) _ rfl ⟨ _,rfl,(aG oa _ _ _ rfl ⟨ rfl,(aR (SqL.of n3.at_) yb4 (.inl ⟨rfl,_,SqL.of yb3⟩) _ rfl (bV yb _ two rfl rfl ⟨ yb3,hb2,(aN _ rfl _ _ rfl ⟨ rfl,(aG yb _ _ _ rfl ⟨ rfl,yb3,?_,?_,?_⟩)⟩)⟩))⟩)⟩)⟩)⟩
    ·rw[Zq];lia
    ·rw[Zq];exact Nat.lt_trans h12.2 (by decide)
    have e1:(fun i j:Int=>V.int (i+j)) ((2*ts.length:Nat):Int) 1=vn (2*ts.length+1):=rfl;rw[e1,MM.fW];have n4:=n3.set (l:=bM (MM.row os1 b) ((MM.row os1 b).idxOf two) (2*ts.length+1)) yb1;have t4:=t3.other yb3 (fun z=>hm1.ar (z▸yb2)) (.lst (vns (bM (MM.row os1 b) ((MM.row os1 b).idxOf two) (2*ts.length+1))));have s4:aW H0 (upd H3 yb (.lst (vns (bM (MM.row os1 b) ((MM.row os1 b).idxOf two) (2*ts.length+1))))):=fun c u h=>by rw[aL (aJ h (n2.news _ yb2))];exact s3 _ _ h
    generalize upd H3 yb (.lst (vns (bM (MM.row os1 b) ((MM.row os1 b).idxOf two) (2*ts.length+1))))=H4 at n4 t4 s4;obtain⟨tq,tq1,tq2,tq3⟩:=id t4;refine(bW _ rfl (.inl ⟨rfl,_,SqL.of tq1⟩) _ rfl ⟨ _,rfl,(by show 2≤ZW;decide),fun tp htp=>?_⟩);have g5:=aI htp (.tup [vn a,vn b]);refine(bV ta _ _ rfl rfl ⟨ g5 _ _ tq1,?_,?_⟩)
    ·rw[Zq,tq2];exact Ys ht100 (by decide)
    have t5:=(g5.ts t4).push (t:=(a,b)) (g5 _ _ tq1) aB;have n5:dD H0 (upd (upd H4 tp (.tup [vn a,vn b])) ta (.lst (tq.map V.ref++[.ref tp]))) oa rr (os1.set b (bM (MM.row os1 b) ((MM.row os1 b).idxOf two) (2*ts.length+1))):=n4.keep fun c u hc h=>by
     rw[aL (show c≠ta by rcases hc with rfl | hc;exact Ne.symm hm1.ao;rintro rfl;exact hm1.ar hc)];exact g5 _ _ h
    have s5:aW H0 (upd (upd H4 tp (.tup [vn a,vn b])) ta (.lst (tq.map V.ref++[.ref tp]))):=fun c u h=>by rw[aL (aJ h hm1.an)];exact g5 _ _ (s4 _ _ h)
    exact q _ rr _ _ s5 ⟨t5,n5,hm1.an,hm1.ao,hm1.ar⟩ gd (by rw[Zm];exact Nat.le_refl _) (by rw[List.length_set];lia)
  ·obtain⟨xb,xb1,xb2,xb3,xb4⟩:=n2.item hb0;refine eZ rfl ?_;refine⟨_,rfl,_,rfl,(aG oa _ _ _ rfl ⟨ rfl,(bB (SqL.of n2.at_) xa4 xa _ rfl (bO (.inl (SqL.of xa3)) _ rfl _ rfl ⟨ rfl,.inr ⟨_,rfl,?_⟩⟩))⟩)⟩;refine⟨_,_,(bB rfl rfl _ _ rfl ⟨ rfl,_,rfl,?_⟩)⟩;refine eY (fun d1=>?_) (fun d1=>eZ rfl noneC);refine⟨_,rfl,_,rfl,(aG oa _ _ _ rfl ⟨ rfl,(bB (SqL.of n2.at_) xb4 xb _ rfl (bO (.inl (SqL.of xb3)) _ rfl _ rfl ⟨ rfl,.inr ⟨_,rfl,?_⟩⟩))⟩)⟩;refine⟨_,_,(bB rfl rfl _ _ rfl ⟨ rfl,_,rfl,?_⟩)⟩;refine eY (fun d2=>?_) (fun d2=>noneC);have h12:(MM.row os a).length<4∧(MM.row (os.set a (bM (MM.row os a) ((MM.row os a).idxOf one) (2*ts.length))) b).length<4:=by
    have d1':((vns (MM.row os a)).length:Int)<4-(if decide (vn a=vn b)=true then 1 else 0):=of_decide_eq_true d1;have d2':((vns (MM.row os b)).length:Int)<4-(if decide (vn a=vn b)=true then 1 else 0):=of_decide_eq_true d2;rw[hra]at d1';rw[Zq]at d2';by_cases hab:a=b
    ·subst hab;rw[if_pos (by simp)]at d1';rw[MM.cJ ha0,MM.gZ]
     lia
    ·have nab:¬(decide (vn a=vn b)=true):=by
      intro z;have z':=of_decide_eq_true z;injection z' with z';exact hab (by lia)
     rw[if_neg nab]at d1' d2';rw[MM.dJ (Ne.symm hab)]
     lia
   refine⟨_,rfl,_,rfl,(aG oa _ _ _ rfl ⟨ rfl,(aR (SqL.of n2.at_) xa4 (.inl ⟨rfl,_,SqL.of xa3⟩) _ rfl ⟨ _,rfl,(aG oa _ _ _ rfl ⟨ rfl,(aR (SqL.of n2.at_) xa4 (.inl ⟨rfl,_,SqL.of xa3⟩) _ rfl (bV xa _ one rfl rfl ⟨ xa3,ha1,_,rfl,(aG xa _ _ _ rfl ⟨ rfl,xa3,?_,?_,?_⟩)⟩))⟩)⟩)⟩)⟩
   ·rw[Zq];lia
   ·rw[Zq];exact Ys (g.g.four a) (by decide)
   rw[MM.fW];have n3:=n2.set (l:=bM (MM.row os a) ((MM.row os a).idxOf one) (2*ts.length)) xa1;have t3:=hm1.ts.other xa3 (Ne.symm nta) (.lst (vns (bM (MM.row os a) ((MM.row os a).idxOf one) (2*ts.length))));have s3:aW H0 (upd H1 xa (.lst (vns (bM (MM.row os a) ((MM.row os a).idxOf one) (2*ts.length))))):=fun c u h=>by rw[aL (aJ h (n2.news _ xa2))];exact g2 _ _ h
   have hb2:two∈MM.row (os.set a (bM (MM.row os a) ((MM.row os a).idxOf one) (2*ts.length))) b:=by
    by_cases hab:b=a
    ·subst hab;rw[MM.cJ ha0];exact MM.gY.mpr (.inr hb1)
    ·rw[MM.dJ hab];exact hb1
   have gd:=g.newTie (i:=(MM.row os a).idxOf one) (j:=(MM.row (os.set a (bM (MM.row os a) ((MM.row os a).idxOf one) (2*ts.length))) b).idxOf two) ha0 hb0 h12.1 h12.2;have hol:(os.set a (bM (MM.row os a) ((MM.row os a).idxOf one) (2*ts.length))).length=os.length:=List.length_set;generalize upd H1 xa (.lst (vns (bM (MM.row os a) ((MM.row os a).idxOf one) (2*ts.length))))=H3 at n3 t3 s3;generalize os.set a (bM (MM.row os a) ((MM.row os a).idxOf one) (2*ts.length))=os1 at n3 hb2 gd h12 hol;obtain⟨yb,yb1,yb2,yb3,yb4⟩:=n3.item (p:=b) (by lia);have ib:=List.idxOf_lt_length_of_mem hb2;refine⟨_,rfl,_,rfl,(aG oa _ _ _ rfl ⟨ rfl,(aR (SqL.of n3.at_) yb4 (.inl ⟨rfl,_,SqL.of yb3⟩) _ rfl ⟨ _,rfl,(aG oa _ _ _ rfl ⟨ rfl,(aR (SqL.of n3.at_) yb4 (.inl ⟨rfl,_,SqL.of yb3⟩) _ rfl (bV yb _ two rfl rfl ⟨ yb3,hb2,(aN _ rfl _ _ rfl ⟨ rfl,(aG yb _ _ _ rfl ⟨ rfl,yb3,?_,?_,?_⟩)⟩)⟩))⟩)⟩)⟩)⟩
   ·rw[Zq];lia
   ·rw[Zq];exact Nat.lt_trans h12.2 (by decide)
   have e1:(fun i j:Int=>V.int (i+j)) ((2*ts.length:Nat):Int) 1=vn (2*ts.length+1):=rfl;rw[e1,MM.fW];have n4:=n3.set (l:=bM (MM.row os1 b) ((MM.row os1 b).idxOf two) (2*ts.length+1)) yb1;have t4:=t3.other yb3 (fun z=>hm1.ar (z▸yb2)) (.lst (vns (bM (MM.row os1 b) ((MM.row os1 b).idxOf two) (2*ts.length+1))));have s4:aW H0 (upd H3 yb (.lst (vns (bM (MM.row os1 b) ((MM.row os1 b).idxOf two) (2*ts.length+1))))):=fun c u h=>by rw[aL (aJ h (n2.news _ yb2))];exact s3 _ _ h
   generalize upd H3 yb (.lst (vns (bM (MM.row os1 b) ((MM.row os1 b).idxOf two) (2*ts.length+1))))=H4 at n4 t4 s4;obtain⟨tq,tq1,tq2,tq3⟩:=id t4;refine(bW _ rfl (.inl ⟨rfl,_,SqL.of tq1⟩) _ rfl ⟨ _,rfl,(by show 2≤ZW;decide),fun tp htp=>?_⟩);have g5:=aI htp (.tup [vn a,vn b]);refine(bV ta _ _ rfl rfl ⟨ g5 _ _ tq1,?_,?_⟩)
   ·rw[Zq,tq2];exact Ys ht100 (by decide)
   have t5:=(g5.ts t4).push (t:=(a,b)) (g5 _ _ tq1) aB;have n5:dD H0 (upd (upd H4 tp (.tup [vn a,vn b])) ta (.lst (tq.map V.ref++[.ref tp]))) oa rr (os1.set b (bM (MM.row os1 b) ((MM.row os1 b).idxOf two) (2*ts.length+1))):=n4.keep fun c u hc h=>by
    rw[aL (show c≠ta by rcases hc with rfl | hc;exact Ne.symm hm1.ao;rintro rfl;exact hm1.ar hc)];exact g5 _ _ h
   have s5:aW H0 (upd (upd H4 tp (.tup [vn a,vn b])) ta (.lst (tq.map V.ref++[.ref tp]))):=fun c u h=>by rw[aL (aJ h hm1.an)];exact g5 _ _ (s4 _ _ h)
   exact q _ rr _ _ s5 ⟨t5,n5,hm1.an,hm1.ao,hm1.ar⟩ gd (by rw[Zm];exact Nat.le_refl _) (by rw[List.length_set];lia)
 ·obtain⟨xb,xb1,xb2,xb3,xb4⟩:=n2.item hb0;refine eZ rfl ?_;refine⟨_,rfl,_,rfl,(aG oa _ _ _ rfl ⟨ rfl,(bB (SqL.of n2.at_) xa4 xa _ rfl (bO (.inl (SqL.of xa3)) _ rfl _ rfl ⟨ rfl,.inr ⟨_,rfl,?_⟩⟩))⟩)⟩;refine⟨_,_,(bB rfl rfl _ _ rfl ⟨ rfl,_,rfl,?_⟩)⟩;refine eY (fun d1=>?_) (fun d1=>eZ rfl noneC);refine⟨_,rfl,_,rfl,(aG oa _ _ _ rfl ⟨ rfl,(bB (SqL.of n2.at_) xb4 xb _ rfl (bO (.inl (SqL.of xb3)) _ rfl _ rfl ⟨ rfl,.inr ⟨_,rfl,?_⟩⟩))⟩)⟩;refine⟨_,_,(bB rfl rfl _ _ rfl ⟨ rfl,_,rfl,?_⟩)⟩;refine eY (fun d2=>?_) (fun d2=>noneC);have h12:(MM.row os a).length<4∧(MM.row (os.set a (bM (MM.row os a) ((MM.row os a).idxOf one) (2*ts.length))) b).length<4:=by
   have d1':((vns (MM.row os a)).length:Int)<4-(if decide (vn a=vn b)=true then 1 else 0):=of_decide_eq_true d1;have d2':((vns (MM.row os b)).length:Int)<4-(if decide (vn a=vn b)=true then 1 else 0):=of_decide_eq_true d2;rw[hra]at d1';rw[Zq]at d2';by_cases hab:a=b
   ·subst hab;rw[if_pos (by simp)]at d1';rw[MM.cJ ha0,MM.gZ]
    lia
   ·have nab:¬(decide (vn a=vn b)=true):=by
     intro z;have z':=of_decide_eq_true z;injection z' with z';exact hab (by lia)
    rw[if_neg nab]at d1' d2';rw[MM.dJ (Ne.symm hab)]
    lia
  refine⟨_,rfl,_,rfl,(aG oa _ _ _ rfl ⟨ rfl,(aR (SqL.of n2.at_) xa4 (.inl ⟨rfl,_,SqL.of xa3⟩) _ rfl ⟨ _,rfl,(aG oa _ _ _ rfl ⟨ rfl,(aR (SqL.of n2.at_) xa4 (.inl ⟨rfl,_,SqL.of xa3⟩) _ rfl (bV xa _ one rfl rfl ⟨ xa3,ha1,_,rfl,(aG xa _ _ _ rfl ⟨ rfl,xa3,?_,?_,?_⟩)⟩))⟩)⟩)⟩)⟩
  ·rw[Zq];lia
  ·rw[Zq];exact Ys (g.g.four a) (by decide)
  rw[MM.fW];have n3:=n2.set (l:=bM (MM.row os a) ((MM.row os a).idxOf one) (2*ts.length)) xa1;have t3:=hm1.ts.other xa3 (Ne.symm nta) (.lst (vns (bM (MM.row os a) ((MM.row os a).idxOf one) (2*ts.length))));have s3:aW H0 (upd H1 xa (.lst (vns (bM (MM.row os a) ((MM.row os a).idxOf one) (2*ts.length))))):=fun c u h=>by rw[aL (aJ h (n2.news _ xa2))];exact g2 _ _ h
  have hb2:two∈MM.row (os.set a (bM (MM.row os a) ((MM.row os a).idxOf one) (2*ts.length))) b:=by
   by_cases hab:b=a
   ·subst hab;rw[MM.cJ ha0];exact MM.gY.mpr (.inr hb1)
   ·rw[MM.dJ hab];exact hb1
  have gd:=g.newTie (i:=(MM.row os a).idxOf one) (j:=(MM.row (os.set a (bM (MM.row os a) ((MM.row os a).idxOf one) (2*ts.length))) b).idxOf two) ha0 hb0 h12.1 h12.2;have hol:(os.set a (bM (MM.row os a) ((MM.row os a).idxOf one) (2*ts.length))).length=os.length:=List.length_set;generalize upd H1 xa (.lst (vns (bM (MM.row os a) ((MM.row os a).idxOf one) (2*ts.length))))=H3 at n3 t3 s3;generalize os.set a (bM (MM.row os a) ((MM.row os a).idxOf one) (2*ts.length))=os1 at n3 hb2 gd h12 hol;obtain⟨yb,yb1,yb2,yb3,yb4⟩:=n3.item (p:=b) (by lia);have ib:=List.idxOf_lt_length_of_mem hb2;refine⟨_,rfl,_,rfl,(aG oa _ _ _ rfl ⟨ rfl,(aR (SqL.of n3.at_) yb4 (.inl ⟨rfl,_,SqL.of yb3⟩) _ rfl ⟨ _,rfl,(aG oa _ _ _ rfl ⟨ rfl,(aR (SqL.of n3.at_) yb4 (.inl ⟨rfl,_,SqL.of yb3⟩) _ rfl (bV yb _ two rfl rfl ⟨ yb3,hb2,(aN _ rfl _ _ rfl ⟨ rfl,(aG yb _ _ _ rfl ⟨ rfl,yb3,?_,?_,?_⟩)⟩)⟩))⟩)⟩)⟩)⟩
  ·rw[Zq];lia
  ·rw[Zq];exact Nat.lt_trans h12.2 (by decide)
  have e1:(fun i j:Int=>V.int (i+j)) ((2*ts.length:Nat):Int) 1=vn (2*ts.length+1):=rfl;rw[e1,MM.fW];have n4:=n3.set (l:=bM (MM.row os1 b) ((MM.row os1 b).idxOf two) (2*ts.length+1)) yb1;have t4:=t3.other yb3 (fun z=>hm1.ar (z▸yb2)) (.lst (vns (bM (MM.row os1 b) ((MM.row os1 b).idxOf two) (2*ts.length+1))));have s4:aW H0 (upd H3 yb (.lst (vns (bM (MM.row os1 b) ((MM.row os1 b).idxOf two) (2*ts.length+1))))):=fun c u h=>by rw[aL (aJ h (n2.news _ yb2))];exact s3 _ _ h
  generalize upd H3 yb (.lst (vns (bM (MM.row os1 b) ((MM.row os1 b).idxOf two) (2*ts.length+1))))=H4 at n4 t4 s4;obtain⟨tq,tq1,tq2,tq3⟩:=id t4;refine(bW _ rfl (.inl ⟨rfl,_,SqL.of tq1⟩) _ rfl ⟨ _,rfl,(by show 2≤ZW;decide),fun tp htp=>?_⟩);have g5:=aI htp (.tup [vn a,vn b]);refine(bV ta _ _ rfl rfl ⟨ g5 _ _ tq1,?_,?_⟩)
  ·rw[Zq,tq2];exact Ys ht100 (by decide)
  have t5:=(g5.ts t4).push (t:=(a,b)) (g5 _ _ tq1) aB;have n5:dD H0 (upd (upd H4 tp (.tup [vn a,vn b])) ta (.lst (tq.map V.ref++[.ref tp]))) oa rr (os1.set b (bM (MM.row os1 b) ((MM.row os1 b).idxOf two) (2*ts.length+1))):=n4.keep fun c u hc h=>by
   rw[aL (show c≠ta by rcases hc with rfl | hc;exact Ne.symm hm1.ao;rintro rfl;exact hm1.ar hc)];exact g5 _ _ h
  have s5:aW H0 (upd (upd H4 tp (.tup [vn a,vn b])) ta (.lst (tq.map V.ref++[.ref tp]))):=fun c u h=>by rw[aL (aJ h hm1.an)];exact g5 _ _ (s4 _ _ h)
  exact q _ rr _ _ s5 ⟨t5,n5,hm1.an,hm1.ao,hm1.ar⟩ gd (by rw[Zm];exact Nat.le_refl _) (by rw[List.length_set];lia)
end K33
namespace L2
open PySem PyProof.Rows
theorem iU.set{H:Hp}{a r:Addr}{ts:MM.b9}{xs:List V}{t:Nat×Nat}{j:Nat}(h:iU H a ts)(hx:H a=some (.lst xs))(hr:H r=some (.tup [vn t.1,vn t.2])):iU (upd H a (.lst (xs.set j (.ref r)))) a (ts.set j t):=by
 obtain⟨tr,h1,h2,h3⟩:=h;have ex:xs=tr.map V.ref:=by rw[hx]at h1;cases h1;rfl
 subst ex;refine⟨tr.set j r,by rw[aB,List.map_set],by rw[List.length_set,List.length_set,h2],fun i u hu=>?_⟩;by_cases e:j=i
 ·subst e;have hj:j<ts.length:=by
   have:=(Zj.mp hu).1;rw[List.length_set]at this;exact this
  rw[List.getElem?_set_self hj]at hu;cases hu;exact⟨r,List.getElem?_set_self (by rw[h2];exact hj),by rw[aL (dB hr hx (fun z=>nomatch z))];exact hr⟩
 ·rw[List.getElem?_set_ne e]at hu;obtain⟨y,q1,q2⟩:=h3 i u hu;exact⟨y,by rw[List.getElem?_set_ne e];exact q1,by rw[aL (dB q2 hx (fun z=>nomatch z))];exact q2⟩
theorem AC{α:Type}{x:α}:∀{l:List α},l.Nodup→x∉l→∀p,(l.set p x).Nodup
 |[],_,_,_=>by simp
 |a::l,nd,h,0=>by
  rw[List.set_cons_zero,List.nodup_cons];exact⟨fun z=>h (Zw _ z),(List.nodup_cons.mp nd).2⟩
 |a::l,nd,h,p+1=>by
  rw[List.set_cons_succ,List.nodup_cons];refine⟨fun z=>?_,AC (List.nodup_cons.mp nd).2 (fun z=>h (Zw _ z)) p⟩;rcases List.mem_or_eq_of_mem_set z with z | z
  ·exact(List.nodup_cons.mp nd).1 z
  ·subst z;exact h Zd
theorem dD.setRef{H0 H H2:Hp}{o x:Addr}{rr:List Addr}{os:MM.bU}{l:List Nat}{p:Nat}(n:dD H0 H o rr os)(hx:H0 x=none)(hxr:x∉rr)(hxo:x≠o)(at2:H2 o=some (.lst ((rr.set p x).map V.ref)))(ax:H2 x=some (.lst (vns l)))
  (g:∀b u,b∈rr→H b=some u→H2 b=some u):dD H0 H2 o (rr.set p x) (os.set p l) where
 at_:=at2
 len:=by rw[List.length_set,List.length_set];exact n.len
 row:=fun i m h=>by
  by_cases e:p=i
  ·subst e;have hp:p<os.length:=by
    have:=(Zj.mp h).1;rw[List.length_set]at this;exact this
   rw[List.getElem?_set_self hp]at h;cases h;exact⟨x,List.getElem?_set_self (by rw[n.len];exact hp),ax⟩
  ·rw[List.getElem?_set_ne e]at h;obtain⟨y,h1,h2⟩:=n.row i m h;exact⟨y,by rw[List.getElem?_set_ne e];exact h1,g _ _ (Zg h1) h2⟩
 nd:=AC n.nd hxr p
 nin:=fun z=>by
  rcases List.mem_or_eq_of_mem_set z with z | z
  ·exact n.nin z
  ·exact hxo z.symm
 new:=n.new
 news:=fun y hy=>by
  rcases List.mem_or_eq_of_mem_set hy with z | z
  ·exact n.news y z
  ·subst z;exact hx
theorem OB(l:List Nat){k:Nat}(h:k≤l.length):vO (vns l) (some (k:Int)) none=vns (l.drop k):=by
 unfold vO;have e:(vns l).length=l.length:=Zq _;rw[HT.vS,HT.rQ,e,Nat.min_eq_left h];have e2:(vns l).drop k=vns (l.drop k):=by unfold vns;rw[List.map_drop]
 rw[e2];exact List.take_of_length_le (by rw[Zq,Yd];exact Nat.le_refl _)
theorem TK(l:List Nat){k:Nat}(h:k≤l.length):vO (vns l) none (some (k:Int))=vns (l.take k):=by
 unfold vO;have e:(vns l).length=l.length:=Zq _;rw[HT.vS,HT.rQ,e,Nat.min_eq_left h,List.drop_zero,Nat.sub_zero];unfold vns;rw[List.map_take]
theorem vY{n j:Nat}(h:j<n):ixN n (j:Int)=some j:=by
 unfold ixN;rw[if_pos (by lia),if_pos (by lia)];simp
theorem MV(l:List Nat)(k:Nat):(l.drop k++l.take k).Perm l:=by
 have h:=List.perm_append_comm (l₁:=l.drop k) (l₂:=l.take k);rw[List.take_append_drop]at h;exact h
end L2
namespace MM
theorem oJ{α:Type}{l:List α}{i j:Nat}{x d:α}(h:i≠j):(l.set i x).getD j d=l.getD j d:=by
 rw[Zv,Zv,List.getElem?_set_ne h]
theorem kP{α:Type}{l:List α}{i:Nat}{x d:α}(h:i<l.length):(l.set i x).getD i d=x:=by
 rw[Zv,List.getElem?_set_self h];rfl
theorem Good.tie{ts:b9}{os:bU}(g:Good ts os){i:Nat}(hi:i<ts.length):(ts.getD i (0,0)).1<os.length∧(ts.getD i (0,0)).2<os.length:=by
 have h1:=(g.g.has (2*i) (by lia)).1;have h2:=(g.g.has (2*i+1) (by lia)).1;unfold place at h1 h2;rw[if_pos (by lia),show 2*i / 2=i by lia]at h1;rw[if_neg (by lia),show(2*i+1) / 2=i by lia]at h2;exact⟨h1,h2⟩
theorem QC(U:Nat→Nat)(fl:List Nat)(f:Nat):(List.range (2*(fl.length+1))).map (fun e=>L2.vn (nmF U (fun k=>(fl++[f]).getD k 0) e)) =
  (List.range (2*fl.length)).map (fun e=>L2.vn (nmF U (fun k=>fl.getD k 0) e))++[L2.vn (2*U fl.length+f),L2.vn (2*U fl.length+(1-f))]:=by
 have e:2*(fl.length+1)=2*fl.length+1+1:=by lia
 rw[e,List.range_succ,List.range_succ,Zt,Zt,Yb];have h0:(fl++[f]).getD fl.length 0=f:=by simp[List.getD]
 have e1:nmF U (fun k=>(fl++[f]).getD k 0) (2*fl.length)=2*U fl.length+f:=by
  unfold nmF;rw[if_pos (by lia),show 2*fl.length / 2=fl.length by lia];show 2*U fl.length+(fl++[f]).getD fl.length 0=_;rw[h0]
 have e2:nmF U (fun k=>(fl++[f]).getD k 0) (2*fl.length+1)=2*U fl.length+(1-f):=by
  unfold nmF;rw[if_neg (by lia),show(2*fl.length+1) / 2=fl.length by lia];show 2*U fl.length+(1-(fl++[f]).getD fl.length 0)=_;rw[h0]
 have e3:(List.range (2*fl.length)).map (fun e=>L2.vn (nmF U (fun k=>(fl++[f]).getD k 0) e))=(List.range (2*fl.length)).map (fun e=>L2.vn (nmF U (fun k=>fl.getD k 0) e)):=by
  refine Ym fun x hx=>?_;have hx':=Zs.mp hx;have q:(fl++[f]).getD (x / 2) 0=fl.getD (x / 2) 0:=by
   have:x / 2<fl.length:=by lia
   simp[List.getD,Zx this]
  unfold nmF;show L2.vn (2*U (x / 2)+(if x%2=0 then (fl++[f]).getD (x / 2) 0 else 1-(fl++[f]).getD (x / 2) 0))=_;rw[q]
 rw[e3];congr 1;show[L2.vn _,L2.vn _]=_;rw[e1,e2]
end MM
namespace K33
open PySem L2 PyProof.Rows
def JU:Sp:=fun vs H Q _=>∃(ta oa:Addr) (c:Int) (ts:MM.b9) (os:MM.bU),vs=[.ref ta,.ref oa,.int c]∧iU H ta ts∧uG H oa os∧MM.Good ts os∧ts.length≤400∧os.length≤400 ∧
 ∀(r tA oA:Addr) (rr:List Addr) (ts':MM.b9) (os':MM.bU) (H':Hp),aW H H'→H' r=some (.tup [vn os.length,.ref tA,.ref oA])→tE H H' tA oA rr ts' os'→MM.Good ts' os'→ts'.length=ts.length→os'.length=os.length→Q (.ref r) H'
theorem DD(T:Txt K mg t):bQ P w K mg base CX0 2 t.vH t.vA ["_law_ties","_law_orders","_law_cell"] JU:=by
 refine T.uZ.F.ok rN (fun vs H Q E h=>?_) (fun cdv A outer s H vs Q E hr h=>?_)
 ·obtain⟨ta,oa,c,ts,os,rfl,_⟩:=h;rfl
 obtain⟨ta,oa,c,ts,os,rfl,ht,ho,g,ht400,ho400,q⟩:=h;have nd:=rN.nd;have nd_l_end_l_names:(["_law_end","_law_names"]:List Str).Nodup:=by decide
 have nd_l_order:(["_law_order"]:List Str).Nodup:=by decide
 have nd_l_tie:(["_law_tie"]:List Str).Nodup:=by decide
 refine⟨_,(aE (a7 3 nd (bR (xF T) hr T.qS bE (aA (bR (l8 T) hr T.iG bE (aA (pv 2) (aA aH aC))) (aA (aT aO rfl T.cP PySem.boot_len (aA (pv 1) aC)) aC))))
  (aE (a7 4 nd (bR (xF T) hr T.qS bE (aA (bR (l8 T) hr T.iG bE (aA (pv 2) (aA aH aC))) (aA (aT aO rfl T.cP PySem.boot_len (aA (pv 0) aC)) aC))))
  (aE (a7 5 nd (bS aC))
  (aE (cN (i:=6) nd rfl (Or.inl rfl)  (N':=["_law_tie"]) (js:=[none]) rfl (cK (pv 0)) (fun _ _ _ _ _=>(aQ (i:=0) nd_l_tie rfl (Or.inl rfl))) (fun _ _ _ _ _=>dN) (fun _ _ _ _ _=>(bX (aA aH (aA aH aC)))))
  (aE (cY PassesOwn.never rfl (fN rfl T.dA (aA (pv 0) aC)) (dU rfl (aY (aQ (i:=7) nd rfl (Or.inl rfl)) (aY (dU rfl (aY (aQ (i:=8) nd rfl (Or.inl rfl)) (aY (aQ (i:=9) nd rfl (Or.inl rfl)) cH))) cH))) (aE (a7 10 nd (aX dE (bR (l8 T) hr T.iG bE (aA (pv 2) (aA (aX cV aH (pv 7)) aC))) aH))
  (aE (l7 (aM aV (bS (aA (bX (aA (aM aV (pv 3) (pv 8) (fun _ _=>rfl)) (aA (aM aV (pv 3) (pv 9) (fun _ _=>rfl)) aC))) (aA (bX (aA (aM aV (pv 3) (pv 9) (fun _ _=>rfl)) (aA (aM aV (pv 3) (pv 8) (fun _ _=>rfl)) aC))) aC))) (pv 10) (fun _ _=>rfl)) (kN (pv 6) (aM aV (pv 4) (pv 7) (fun _ _=>rfl)) set_list))
  (aK (a7 5 nd (aX tW (pv 5) (bS (aA (aX cV (aX dW aH (aM aV (pv 4) (pv 7) (fun _ _=>rfl))) (pv 10)) (aA (aX iT (aX cV (aX dW aH (aM aV (pv 4) (pv 7) (fun _ _=>rfl))) aH) (pv 10)) aC)))))))))
  (aE (cN (i:=11) nd rfl (Or.inl rfl)  (N':=["_law_order"]) (js:=[none]) rfl (cK (pv 1)) (fun _ _ _ _ _=>(aQ (i:=0) nd_l_order rfl (Or.inl rfl))) (fun _ _ _ _ _=>dN) (fun _ _ _ _ _=>(bS aC)))
  (aE (cY PassesOwn.never rfl (fN rfl T.dA (aA (pv 1) aC)) (dU rfl (aY (aQ (i:=12) nd rfl (Or.inl rfl)) (aY (aQ (i:=13) nd rfl (Or.inl rfl)) cH))) (aE (a7 14 nd (aX dE (bR (l8 T) hr T.iG bE (aA (pv 2) (aA (aX cV aH (pv 12)) aC))) (aT aO rfl T.cP PySem.boot_len (aA (pv 13) aC))))
  (aK (l7 (fO (N':=["_law_end","_law_names"]) (js:=[none,some 5]) rfl (cK (aX tW (rX vR (pv 13) (vV (pv 14)) vW) (rX vR (pv 13) vW (vV (pv 14))))) (fun _ _ _ _ _=>(aQ (i:=0) nd_l_end_l_names rfl (Or.inl rfl))) (fun _ _ _ _ _=>dN) (fun _ _ _ _ _=>(aM (sI (K:=K) rfl) (pv 1) (pv 0) (fun _ _=>rfl)))) (kN (pv 11) (aM aV (pv 3) (pv 12) (fun _ _=>rfl)) set_list)))))
  (aK (bC (bX (aA (aT aO rfl T.cP PySem.boot_len (aA (pv 1) aC)) (aA (pv 6) (aA (pv 11) aC))))))))))))),?_⟩
 obtain⟨tr,tr1,tr2,tr3⟩:=id ht;obtain⟨rr,rr1,rr2,rr3⟩:=id ho;have trl:(tr.map V.ref).length=ts.length:=by rw[Zq];exact tr2
 have rrl:(rr.map V.ref).length=os.length:=by rw[Zq];exact rr2
 refine(aN _ rfl c 0 rfl ⟨ by decide,by decide,fun m0 hm0 _=>(aN _ rfl oa _ rfl (cM (.inl (SqL.of rr1)) m0 ((rr.map V.ref).length) rfl hm0 ⟨ by lia,fun pr ps hpr hpn hpl hpe=>?_⟩))⟩);have g1:=aI hpr (.lst (vns ps));refine(aN _ rfl c 1 rfl ⟨ by decide,by decide,fun m1 hm1 _=>(aN _ rfl ta _ rfl (cM (.inl (SqL.of (g1 _ _ tr1))) m1 ((tr.map V.ref).length) rfl hm1 ⟨ by lia,fun nr nu hnr hnn hnl hne=>?_⟩))⟩);rw[trl]at hnl hne;rw[rrl]at hpl hpe;have g2:=aI hnr (.lst (vns nu));have mP:MM.fL (fun i=>ps.getD i 0) os.length:=by have:=MM.IA hpn (by rw[hpe];exact hpl);rw[hpe]at this;exact this
 have mU:MM.fL (fun i=>nu.getD i 0) ts.length:=by have:=MM.IA hnn (by rw[hne];exact hnl);rw[hne]at this;exact this
 refine⟨(by show 0≤ZW;decide),fun na0 hna0=>?_⟩;have g3:=aI hna0 (.lst []);have k1:(upd (upd (upd H pr (.lst (vns ps))) nr (.lst (vns nu))) na0 (.lst [])) pr=some (.lst (vns ps)):=g3 _ _ (g2 _ _ aB);have k2:(upd (upd (upd H pr (.lst (vns ps))) nr (.lst (vns nu))) na0 (.lst [])) nr=some (.lst (vns nu)):=g3 _ _ aB;have k3:(upd (upd (upd H pr (.lst (vns ps))) nr (.lst (vns nu))) na0 (.lst [])) na0=some (.lst []):=aB;have g4:=(g1.trans g2).trans g3;generalize upd (upd (upd H pr (.lst (vns ps))) nr (.lst (vns nu))) na0 (.lst [])=H4 at k1 k2 k3 g4;clear g1 g2 g3 hpr hnr hna0;have atP:∀x,x<os.length→atI (vns ps) (x:Int)=some (vn (ps.getD x 0)):=fun x hx=>oT (by lia) rfl;have atU:∀x,x<ts.length→atI (vns nu) (x:Int)=some (vn (nu.getD x 0)):=fun x hx=>oT (by lia) rfl;refine(cG _ rfl ta rfl ⟨_,SqL.of (g4 _ _ tr1)⟩ (fun D hD=>?_));refine comp_map ts.length (fun i ys H'=>iU H' D (List.replicate i (0,0))∧H' D=some (.lst ys)∧aW H4 H') ⟨⟨[],aB,rfl,fun i t h=>by simp at h⟩,aB,aI hD _⟩ ?_ ?_
 ·rintro i ys H' hi ⟨h1,h2,h3⟩;have hx:(tr.map V.ref)[i]?=some (.ref (tr[i]'(by lia))):=by rw[Zk,Zz (by lia)];rfl
  refine⟨⟨_,_,SqL.of (h3 _ _ (g4 _ _ tr1)),hx⟩,?_⟩;rintro x H'' ⟨rfl,hx'⟩;refine⟨(Fills.refl _).set _ rfl,?_⟩;refine⟨(by show 2≤ZW;decide),fun tp htp=>?_⟩;have g5:=aI htp (.tup [vn 0,vn 0]);have h1':=(g5.ts h1).push (t:=(0,0)) (g5 _ _ h2) aB;obtain⟨tr',e1,e2,_⟩:=id h1;have hyl:ys.length=i:=by
   rw[h2]at e1;cases e1;rw[Zq,e2,List.length_replicate]
  refine⟨g5 _ _ h2,by rw[hyl];exact Yt hi (Yr ht400 (by decide)),?_,aB,?_⟩
  ·rw[List.replicate_succ'];exact h1'
  ·exact fun b o h=>by rw[aL (aJ h hD)];exact g5 _ _ (h3 _ _ h)
 rintro ys H5 ⟨t5,d5,g5⟩;refine⟨⟨_,SqL.of (g5 _ _ (g4 _ _ tr1)),by rw[trl];exact Nat.le_refl _⟩,?_⟩;have naD:na0≠D:=aJ k3 hD;refine(cG _ rfl ta rfl ⟨_,SqL.of (g5 _ _ (g4 _ _ tr1))⟩ (gI (xs:=tr.map V.ref) (fun i σ H'=>∃(na:Addr) (fl:List Nat) (td:MM.b9) (o7 o8 o9 o10:Option V),
   σ=[some (.ref ta),some (.ref oa),some (.int c),some (.ref pr),some (.ref nr),some (.ref na),some (.ref D),o7,o8,o9,o10,none,none,none,none]∧aW H4 H'∧fl.length=i∧(∀f∈fl,f≤1)∧na≠D ∧
   H' na=some (.lst ((List.range (2*i)).map fun e=>vn (MM.nmF (fun k=>nu.getD k 0) (fun k=>fl.getD k 0) e)))∧iU H' D td∧td.length=ts.length ∧
   ∀k,k<i→td.getD (nu.getD k 0) (0,0)=if fl.getD k 0=0 then (ps.getD (ts.getD k (0,0)).1 0,ps.getD (ts.getD k (0,0)).2 0) else (ps.getD (ts.getD k (0,0)).2 0,ps.getD (ts.getD k (0,0)).1 0))
  (aP na0 ([]) _ none none (bH none none rfl g5 rfl (bG (fun f hf=>by cases hf) naD (g5 _ _ k3) t5 (by simp) (fun k hk=>absurd hk (Nat.not_lt_zero _))))) (fun i σ H' _ h=>by obtain⟨na,fl,td,o7,o8,o9,o10,_,h1,_⟩:=h;exact SqL.of (h1 _ _ (g4 _ _ tr1))) ?_ ?_))
 ·rintro i x σ H6 Tt hx ⟨na,fl,td,o7,o8,o9,o10,rfl,s6,hfl,hf1,nD,en,td6,tdl,hv⟩ hTt;have hi:i<ts.length:=by have:=(Zj.mp hx).1;lia
  obtain⟨rt,rt1,rt2⟩:=tr3 i _ (Zz hi);have ex:x=.ref rt:=by rw[Zk,rt1]at hx;cases hx;rfl
  subst ex;have tab:=g.tie hi;have hget:ts.getD i (0,0)=ts[i]:=by simp only[List.getD,Zz hi,Option.getD_some]
  rw[←hget]at rt2;have hUi:=mU.lt i hi;have gT:=aI hTt (.tup [vn i,.ref rt]);refine(bH Tt _ rfl (SqT.of aB) rfl ⟨ _,(aN _ rfl _ _ rfl (bH rt _ rfl (SqT.of (gT _ _ (s6 _ _ (g4 _ _ rt2)))) rfl ⟨ _,(aN _ rfl _ _ rfl ⟨ rfl,rfl,?_⟩)⟩))⟩);refine⟨_,rfl,(aN _ rfl _ _ rfl (cM rfl c (70+(i:Int)) rfl (by lia) ⟨ by lia,fun m2 hm2 _=>(bH _ _ rfl rfl (by show(0:Int)<2;decide) ?_)⟩))⟩;obtain⟨f,ef,hf⟩:∃f:Nat,m2%2=(f:Int)∧f≤1:=⟨(m2%2).toNat,by lia,by lia⟩
  show jN 10 (V.int (m2%2)) _ _ _;rw[ef];have s7:=s6.trans gT;have td7:=gT.ts td6;have en7:=gT _ _ en;generalize upd H6 Tt (.tup [vn i,.ref rt])=H7 at s7 td7 en7;refine⟨_,rfl,_,rfl,(aG pr _ _ _ rfl (aR rfl (SqL.of (s7 _ _ k1)) (atP _ tab.1) _ rfl ⟨ _,rfl,(aG pr _ _ _ rfl ⟨ rfl,SqL.of (s7 _ _ k1),atP _ tab.2,(by show 2≤ZW;decide),fun p1 hp1=>?_⟩)⟩))⟩;have gp1:=aI hp1 (.tup [vn (ps.getD (ts.getD i (0,0)).1 0),vn (ps.getD (ts.getD i (0,0)).2 0)]);refine⟨_,rfl,_,rfl,(aG pr _ _ _ rfl (aR rfl (SqL.of (gp1 _ _ (s7 _ _ k1))) (atP _ tab.2) _ rfl ⟨ _,rfl,(aG pr _ _ _ rfl ⟨ rfl,SqL.of (gp1 _ _ (s7 _ _ k1)),atP _ tab.1,(by show 2≤ZW;decide),fun p2 hp2=>?_⟩)⟩))⟩;have gp2:=aI hp2 (.tup [vn (ps.getD (ts.getD i (0,0)).2 0),vn (ps.getD (ts.getD i (0,0)).1 0)]);refine⟨(by show 2≤ZW;decide),fun pl hpl=>?_⟩;have gp3:=aI hpl (.lst [.ref p1,.ref p2]);have hat:atI [V.ref p1,V.ref p2] (f:Int)=some (.ref (if f=0 then p1 else p2)):=by
   have:f=0∨f=1:=by lia
   rcases this with rfl | rfl<;>rfl
  have s8:=s7.trans ((gp1.trans gp2).trans gp3);have td8:=((gp1.trans gp2).trans gp3).ts td7;have en8:=gp3 _ _ (gp2 _ _ (gp1 _ _ en7));have htu:(upd (upd (upd H7 p1 (.tup [vn (ps.getD (ts.getD i (0,0)).1 0),vn (ps.getD (ts.getD i (0,0)).2 0)])) p2 (.tup [vn (ps.getD (ts.getD i (0,0)).2 0),vn (ps.getD (ts.getD i (0,0)).1 0)])) pl (.lst [.ref p1,.ref p2])) (if f=0 then p1 else p2) =
    some (.tup [vn (if f=0 then (ps.getD (ts.getD i (0,0)).1 0,ps.getD (ts.getD i (0,0)).2 0) else (ps.getD (ts.getD i (0,0)).2 0,ps.getD (ts.getD i (0,0)).1 0)).1,vn (if f=0 then (ps.getD (ts.getD i (0,0)).1 0,ps.getD (ts.getD i (0,0)).2 0) else (ps.getD (ts.getD i (0,0)).2 0,ps.getD (ts.getD i (0,0)).1 0)).2]):=by
   by_cases hz:f=0
   ·rw[if_pos hz,if_pos hz];exact gp3 _ _ (gp2 _ _ aB)
   ·rw[if_neg hz,if_neg hz];exact gp3 _ _ aB
  have epl:(upd (upd (upd H7 p1 (.tup [vn (ps.getD (ts.getD i (0,0)).1 0),vn (ps.getD (ts.getD i (0,0)).2 0)])) p2 (.tup [vn (ps.getD (ts.getD i (0,0)).2 0),vn (ps.getD (ts.getD i (0,0)).1 0)])) pl (.lst [.ref p1,.ref p2])) pl=some (.lst [.ref p1,.ref p2]):=aB;generalize upd (upd (upd H7 p1 (.tup [vn (ps.getD (ts.getD i (0,0)).1 0),vn (ps.getD (ts.getD i (0,0)).2 0)])) p2 (.tup [vn (ps.getD (ts.getD i (0,0)).2 0),vn (ps.getD (ts.getD i (0,0)).1 0)])) pl (.lst [.ref p1,.ref p2])=H8 at s8 td8 en8 htu epl;obtain⟨tq,tq1,tq2,_⟩:=id td8;refine⟨_,rfl,(aG pl _ _ _ rfl (aR rfl (SqL.of epl) hat _ rfl ⟨ _,rfl,_,rfl,(aG nr _ _ _ rfl ⟨ rfl,SqL.of (s8 _ _ k2),atU _ hi,(aG D _ _ (nu.getD i 0) rfl ⟨ rfl,tq1,vY (by rw[Zq,tq2,tdl];exact hUi),?_⟩)⟩)⟩))⟩;have td9:=td8.set (j:=nu.getD i 0) tq1 htu;have s9:aW H4 (upd H8 D (.lst ((tq.map V.ref).set (nu.getD i 0) (.ref (if f=0 then p1 else p2))))):=fun b u h=>by rw[aL (aJ h hD)];exact s8 _ _ h
  have en9:(upd H8 D (.lst ((tq.map V.ref).set (nu.getD i 0) (.ref (if f=0 then p1 else p2))))) na=some (.lst ((List.range (2*i)).map fun e=>vn (MM.nmF (fun k=>nu.getD k 0) (fun k=>fl.getD k 0) e))):=by rw[aL nD];exact en8
  generalize upd H8 D (.lst ((tq.map V.ref).set (nu.getD i 0) (.ref (if f=0 then p1 else p2))))=H9 at td9 s9 en9;refine⟨_,(bO rfl _ rfl _ rfl (aG nr _ _ _ rfl ⟨ rfl,(bB (SqL.of (s9 _ _ k2)) (atU _ hi) _ _ rfl ⟨ rfl,.inl ⟨by decide,by decide⟩,(aN _ rfl _ _ rfl (bO rfl _ rfl _ rfl (aG nr _ _ _ rfl ⟨ rfl,(bB (SqL.of (s9 _ _ k2)) (atU _ hi) _ _ rfl (bB rfl (.inl ⟨by decide,by decide⟩) _ _ rfl ⟨ rfl,(aN _ rfl _ _ rfl ⟨ rfl,(by show 2≤ZW;decide),fun nl hnl=>?_⟩)⟩))⟩)))⟩)⟩))⟩;have v1:V.int (2*((nu.getD i 0:Nat):Int)+(f:Int))=vn (2*nu.getD i 0+f):=by show V.int _=V.int _;congr 1
  have v2:V.int (2*((nu.getD i 0:Nat):Int)+1-(f:Int))=vn (2*nu.getD i 0+(1-f)):=by show V.int _=V.int _;congr 1;lia
  have gn1:=aI hnl (.lst [V.int (2*((nu.getD i 0:Nat):Int)+(f:Int)),V.int (2*((nu.getD i 0:Nat):Int)+1-(f:Int))]);refine(aG na nl _ _ rfl ⟨ rfl,gn1 _ _ en9,aB,?_,fun nb hnb=>?_⟩)
  ·rw[Zq,Yj];exact Yr (by show 2*i+2≤1000;lia) (by decide)
  have gn2:=aI hnb (.lst (((List.range (2*i)).map fun e=>vn (MM.nmF (fun k=>nu.getD k 0) (fun k=>fl.getD k 0) e))++[V.int (2*((nu.getD i 0:Nat):Int)+(f:Int)),V.int (2*((nu.getD i 0:Nat):Int)+1-(f:Int))]));obtain⟨tq',tq1',_,_⟩:=id td9;refine(aP nb (fl++[f]) _ _ _ (bH _ _ rfl (s9.trans (gn1.trans gn2)) (by rw[Zm,hfl];rfl) (bG ?_ ((aJ (gn1 _ _ tq1') hnb).symm) ?_ ((gn1.trans gn2).ts td9) (by rw[List.length_set];exact tdl) ?_)))
  ·intro z hz;rcases Zf.mp hz with hz | hz
   ·exact hf1 z hz
   ·have:z=f:=by simpa using hz
    lia
  ·rw[aB];show some (HO.lst (((List.range (2*i)).map fun e=>vn (MM.nmF (fun k=>nu.getD k 0) (fun k=>fl.getD k 0) e))++[V.int (2*((nu.getD i 0:Nat):Int)+(f:Int)),V.int (2*((nu.getD i 0:Nat):Int)+1-(f:Int))]))=_;rw[v1,v2];subst hfl;rw[MM.QC]
  ·intro k hk;subst hfl;rcases Xq k fl.length with hk' | hk'
   ·have ne:nu.getD fl.length 0≠nu.getD k 0:=fun z=>by have:=mU.inj _ _ hi (by lia) z;lia
    have e1:(fl++[f]).getD k 0=fl.getD k 0:=by simp[List.getD,Zx hk']
    have e2:∀z:Nat×Nat,(td.set (nu.getD fl.length 0) z).getD (nu.getD k 0) (0,0)=td.getD (nu.getD k 0) (0,0):=fun z=>MM.oJ ne;rw[e1,e2];exact hv k hk'
   ·have ek:k=fl.length:=by lia
    subst ek;have e1:(fl++[f]).getD fl.length 0=f:=by simp[List.getD]
    have e2:∀z:Nat×Nat,(td.set (nu.getD fl.length 0) z).getD (nu.getD fl.length 0) (0,0)=z:=fun z=>MM.kP (by rw[tdl];exact hUi);rw[e1,e2]
 ·rintro σ H6 ⟨na,fl,td,o7,o8,o9,o10,rfl,s6,hfl,hf1,nD,en,td6,tdl,hv⟩;rw[trl]at hfl hv en;have hF:∀k,(fun k=>fl.getD k 0) k≤1:=fun k=>by
   show fl.getD k 0≤1;rw[Zv];cases hk:fl[k]? with
   |none=>simp
   |some z=>exact hf1 z (Zg hk)
  have hNM:=MM.DH mU hF;generalize hnm:MM.nmF (fun k=>nu.getD k 0) (fun k=>fl.getD k 0)=NM at en hNM;have s0:=g4.trans s6;refine(cG _ rfl oa rfl ⟨_,SqL.of (s0 _ _ rr1)⟩ (fun D2 hD2=>?_));refine comp_map os.length (fun i ys H'=>∃rr':List Addr,ys=rr'.map V.ref∧dD H6 H' D2 rr' (List.replicate i [])∧aW H6 H') ⟨[],rfl,⟨aB,rfl,fun i l h=>by simp at h,List.nodup_nil,by simp,hD2,fun x hx=>by cases hx⟩,aI hD2 _⟩ ?_ ?_
  ·rintro i ys H' hi ⟨rr',rfl,n',g'⟩;have hx:(rr.map V.ref)[i]?=some (.ref (rr[i]'(by lia))):=by rw[Zk,Zz (by lia)];rfl
   refine⟨⟨_,_,SqL.of (g' _ _ (s0 _ _ rr1)),hx⟩,?_⟩;rintro x H'' ⟨rfl,hx'⟩;refine⟨(Fills.refl _).set _ rfl,?_⟩;refine⟨(by show 0≤ZW;decide),fun nl hnl=>?_⟩;have g5:=aI hnl (.lst []);have nlr:nl∉rr':=fun z=>by obtain⟨l,hl⟩:=n'.ex z;rw[hnl]at hl;cases hl
   have nlo:nl≠D2:=(aJ n'.at_ hnl).symm;refine(E5 (g5 _ _ n'.at_) ?_ (rr'++[nl]) (by rw[Zt];rfl) ?_ ?_)
   ·rw[Zq,n'.len,List.length_replicate];exact Yt hi (Yr ho400 (by decide))
   ·rw[List.replicate_succ'];exact n'.push (x:=nl) (l:=[]) (g'.free hnl) nlr nlo (by rw[aB,Zt];rfl) (by rw[aL nlo];exact aB) fun b u hb h=>by rw[aL (show b≠D2 from fun z=>n'.nin (z▸hb))];exact g5 _ _ h
   ·exact fun b o h=>by rw[aL (aJ h hD2)];exact g5 _ _ (g' _ _ h)
  rintro ys H7 ⟨rr7,rfl,n7,g7⟩;refine⟨⟨_,SqL.of (g7 _ _ (s0 _ _ rr1)),by rw[rrl];exact Nat.le_refl _⟩,?_⟩;refine(cG _ rfl oa rfl ⟨_,SqL.of (g7 _ _ (s0 _ _ rr1))⟩ (gI (xs:=rr.map V.ref) (fun i σ H'=>∃(rr':List Addr) (rows:MM.bU) (o12 o13 o14:Option V),
    σ=[some (.ref ta),some (.ref oa),some (.int c),some (.ref pr),some (.ref nr),some (.ref na),some (.ref D),o7,o8,o9,o10,some (.ref D2),o12,o13,o14]∧aW H6 H'∧dD H6 H' D2 rr' rows∧rows.length=os.length ∧
    ∀p,p<i→∃l:List Nat,MM.row rows (ps.getD p 0)=l.map NM∧l.Perm (MM.row os p))
   (aP rr7 _ none none none ⟨ rfl,g7,n7,by simp,fun p hp=>absurd hp (Nat.not_lt_zero _)⟩) (fun i σ H' _ h=>by obtain⟨rr',rows,o12,o13,o14,_,h1,_⟩:=h;exact SqL.of (h1 _ _ (s0 _ _ rr1))) ?_ ?_))
  ·rintro i x σ H8 Tt hx ⟨rr',rows,o12,o13,o14,rfl,s8,n8,rl8,hw⟩ hTt;have hi:i<os.length:=by have:=(Zj.mp hx).1;lia
   obtain⟨xo,xo1,xo2⟩:=rr3 i _ (Zz hi);have ex:x=.ref xo:=by rw[Zk,xo1]at hx;cases hx;rfl
   subst ex;have hrow:MM.row os i=os[i]:=by unfold MM.row;rw[Zv,Zz hi];rfl
   rw[←hrow]at xo2;have hfull:=g.g.full i hi;have hfour:=g.g.four i;have hlt:∀e∈MM.row os i,e<2*ts.length:=fun e he=>(g.g.ends i e he).1;generalize hord:MM.row os i=ord at xo2 hfull hfour hlt;have hPi:=mP.lt i hi;have gT:=aI hTt (.tup [vn i,.ref xo]);have s9:=s8.trans gT;have n9:dD H6 (upd H8 Tt (.tup [vn i,.ref xo])) D2 rr' rows:=n8.keep fun b u _ h=>gT _ _ h;refine(bH Tt _ rfl (SqT.of aB) rfl ⟨ _,(aN _ rfl _ _ rfl ⟨ rfl,?_⟩)⟩);generalize upd H8 Tt (.tup [vn i,.ref xo])=H9 at s9 n9;have exo:=s9 _ _ (s0 _ _ xo2);have ordl:(vns ord).length=ord.length:=Zq _;have ordp:0<ord.length:=List.length_pos_iff.mpr hfull;refine⟨_,rfl,(aN _ rfl _ _ rfl (cM rfl c (90+(i:Int)) rfl (by lia) ⟨ by lia,fun d hd0 hd1=>(aN _ rfl xo _ rfl (cM (.inl (SqL.of exo)) _ _ rfl rfl ⟨ (by show(0:Int)<((vns ord).length:Nat);lia),?_⟩))⟩))⟩;obtain⟨k,hk,ek⟩:=MM.BN d (n:=(vns ord).length) (by lia);show jN 14 (V.int (d%((vns ord).length:Nat))) _ _ _;rw[ek];refine⟨_,(bO rfl _ rfl _ rfl ⟨ xo,_,rfl,SqL.of exo,fun s1 hs1=>?_⟩)⟩;rw[OB ord (by lia)];have gs1:=aI hs1 (.lst (vns (ord.drop k)));refine⟨_,(bO rfl _ rfl _ rfl ⟨ xo,_,rfl,SqL.of (gs1 _ _ exo),fun s2 hs2=>?_⟩)⟩;rw[TK ord (by lia)];have gs2:=aI hs2 (.lst (vns (ord.take k)));refine(aG s1 s2 _ _ rfl ⟨ rfl,gs2 _ _ aB,aB,?_,fun rl hrl=>?_⟩)
   ·rw[Zq,Zq,Yd,Yw];exact Yr (by lia:_≤100) (by decide)
   rw[←pC];have gs3:=aI hrl (.lst (vns (ord.drop k++ord.take k)));have hperm:=MV ord k;have s10:=s9.trans ((gs1.trans gs2).trans gs3);have n10:dD H6 (upd (upd (upd H9 s1 (.lst (vns (ord.drop k)))) s2 (.lst (vns (ord.take k)))) rl (.lst (vns (ord.drop k++ord.take k)))) D2 rr' rows:=n9.keep fun b u _ h=>gs3 _ _ (gs2 _ _ (gs1 _ _ h));have erl:(upd (upd (upd H9 s1 (.lst (vns (ord.drop k)))) s2 (.lst (vns (ord.take k)))) rl (.lst (vns (ord.drop k++ord.take k)))) rl=some (.lst (vns (ord.drop k++ord.take k))):=aB;generalize upd (upd (upd H9 s1 (.lst (vns (ord.drop k)))) s2 (.lst (vns (ord.take k)))) rl (.lst (vns (ord.drop k++ord.take k)))=H10 at s10 n10 erl;generalize ord.drop k++ord.take k=rot at erl hperm;refine⟨rl,rfl,⟨_,SqL.of erl⟩,fun D3 hD3=>?_⟩;refine comp_map rot.length (fun i ys H'=>ys=vns ((rot.take i).map NM)∧H'=upd H10 D3 (.lst ys)) ⟨rfl,rfl⟩ ?_ ?_
   ·rintro j ys H' hj ⟨rfl,rfl⟩;have gD:=aI hD3 (.lst (vns ((rot.take j).map NM)));have hx:(vns rot)[j]?=some (vn rot[j]):=by rw[Zk,Zz hj];rfl
    refine⟨⟨_,_,SqL.of (gD _ _ erl),hx⟩,?_⟩;rintro x' H'' ⟨rfl,hx'⟩;have e6:=hx' _ (SqL.of (gD _ _ erl));rw[hx]at e6;cases e6;have hjl:=hlt rot[j] (hperm.mem_iff.mp (Zp hj));have hat:atI ((List.range (2*ts.length)).map fun e=>vn (NM e)) ((rot[j]:Nat):Int)=some (vn (NM rot[j])):=c9 (by rw[Zk,Yk hjl];rfl);have hrl5:rot.length≤4:=by rw[hperm.length_eq];exact hfour
    refine⟨(Fills.refl _).set _ rfl,?_⟩;refine⟨_,rfl,_,rfl,(aG na _ _ _ rfl (bG rfl (SqL.of (gD _ _ (s10 _ _ en))) hat aB ?_ ⟨ ?_,?_⟩))⟩
    ·rw[Zq,Zq,Yw];exact Ys (by lia:_≤4) (by decide)
    ·rw[List.take_add_one,Zz hj,Zt,pC];rfl
    ·rw[j6]
   ·rintro ys H' ⟨rfl,rfl⟩;rw[Yv];have gD:=aI hD3 (.lst (vns (rot.map NM)));refine⟨⟨_,SqL.of (gD _ _ erl),by rw[Zq];exact Nat.le_refl _⟩,?_⟩;have D3r:D3∉rr':=fun z=>by obtain⟨l,hl⟩:=n10.ex z;rw[hD3]at hl;cases hl
    have D3o:D3≠D2:=(aJ n10.at_ hD3).symm;refine⟨_,(bO rfl _ rfl _ rfl (aG pr _ _ _ rfl ⟨ rfl,SqL.of (gD _ _ (s10 _ _ (s6 _ _ k1))),atP i hi,(aG D2 _ _ (ps.getD i 0) rfl ⟨ rfl,gD _ _ n10.at_,vY (by rw[Zq,n10.len,rl8];exact hPi),?_⟩)⟩))⟩;have n11:=n10.setRef (x:=D3) (l:=rot.map NM) (p:=ps.getD i 0) (H2:=upd (upd H10 D3 (.lst (vns (rot.map NM)))) D2 (.lst ((rr'.map V.ref).set (ps.getD i 0) (.ref D3)))) (s10.free hD3) D3r D3o (by rw[aB,List.map_set]) (by rw[aL D3o];exact aB)
     fun b u hb h=>by rw[aL (show b≠D2 from fun z=>n10.nin (z▸hb))];exact gD _ _ h
    refine(aP _ _ _ _ _ ⟨ rfl,?_,n11,by rw[List.length_set];exact rl8,fun p hp=>?_⟩)
    ·exact fun b u h=>by rw[aL (aJ h hD2)];exact gD _ _ (s10 _ _ h)
    ·rcases Xq p i with hp' | hp'
     ·have ne:ps.getD p 0≠ps.getD i 0:=fun z=>by have:=mP.inj p i (by lia) hi z;lia
      rw[MM.dJ ne];exact hw p hp'
     ·have ep:p=i:=by lia
      subst ep;rw[MM.cJ (by rw[rl8];exact hPi),hord];exact⟨rot,rfl,hperm⟩
  ·rintro σ H8 ⟨rr',rows,o12,o13,o14,rfl,s8,n8,rl8,hw⟩;rw[rrl]at hw;refine(aN _ rfl oa _ rfl (bO (.inl (SqL.of (s8 _ _ (s0 _ _ rr1)))) _ rfl _ rfl ⟨ (by show 3≤ZW;decide),fun r hr'=>?_⟩));have gr:=aI hr' (.tup [.int ((rr.map V.ref).length:Nat),.ref D,.ref D2]);obtain⟨tq,tq1,_,_⟩:=id td6;have nb:dD H (upd H8 r (.tup [.int ((rr.map V.ref).length:Nat),.ref D,.ref D2])) D2 rr' rows :=
    ⟨gr _ _ n8.at_,n8.len,(n8.keep (fun b u _ h=>gr _ _ h)).row,n8.nd,n8.nin,s0.free n8.new,fun x hx=>s0.free (n8.news x hx)⟩
   refine q r D D2 rr' td rows _ ((s0.trans s8).trans gr) (by rw[aB,rrl]) ⟨(s8.trans gr).ts td6,nb,g4.free hD,aJ tq1 hD2,fun z=>by have:=n8.news D z;rw[tq1]at this;cases this⟩ ?_ tdl rl8;refine MM.BJ g mU hF mP tdl rl8 hv ?_;rw[hnm];exact hw
end K33
namespace MM
theorem good2:Good [(0,1)] [[0],[1]] where
 one:=Nat.le_refl _
 g:={
  ends:=fun p e he=>by
   match p,he with
   |0,he =>
    have h:e=0:=by simpa[row] using he
    subst h;exact⟨by decide,rfl⟩
   |1,he =>
    have h:e=1:=by simpa[row] using he
    subst h;exact⟨by decide,rfl⟩
   |p+2,he=>simp[row]at he
  has:=fun e he=>by
   have:e=0∨e=1:=by simp at he;lia
   rcases this with rfl | rfl<;>exact⟨by decide,by decide⟩
  nd:=fun p=>by
   match p with
   |0=>decide
   |1=>decide
   |p+2=>simp[row]
  full:=fun p hp=>by
   match p,hp with
   |0,_=>decide
   |1,_=>decide
   |p+2,hp=>exact absurd hp (by show ¬p+2<2;lia)
  four:=fun p=>by
   match p with
   |0=>decide
   |1=>decide
   |p+2=>simp[row] }
theorem VB:Good [(0,0)] [[0,1]] where
 one:=Nat.le_refl _
 g:={
  ends:=fun p e he=>by
   match p,he with
   |0,he =>
    have h:e=0∨e=1:=by simpa[row] using he
    rcases h with rfl | rfl<;>exact⟨by decide,rfl⟩
   |p+1,he=>simp[row]at he
  has:=fun e he=>by
   have:e=0∨e=1:=by simp at he;lia
   rcases this with rfl | rfl<;>exact⟨by decide,by decide⟩
  nd:=fun p=>by
   match p with
   |0=>decide
   |p+1=>simp[row]
  full:=fun p hp=>by
   match p,hp with
   |0,_=>decide
   |p+1,hp=>exact absurd hp (by show ¬p+1<1;lia)
  four:=fun p=>by
   match p with
   |0=>decide
   |p+1=>simp[row] }
end MM
namespace L2
open PySem PyProof.Rows
theorem tE.bse{H0 H1 H:Hp}{a o:Addr}{rr:List Addr}{ts:MM.b9}{os:MM.bU}(m:tE H1 H a o rr ts os)(g:aW H0 H1):tE H0 H a o rr ts os :=
 ⟨m.ts,⟨m.os.at_,m.os.len,m.os.row,m.os.nd,m.os.nin,g.free m.os.new,fun x hx=>g.free (m.os.news x hx)⟩,g.free m.an,m.ao,m.ar⟩
end L2
namespace K33
open PySem L2 PyProof.Rows
def RM(K:PySem.W.Frag):Sp:=fun vs H Q _=>∃(sa:Addr) (ns:List Int) (steps most:Int),vs=[.ref sa,.int steps,.int most]∧SqL K H sa (ns.map V.int)∧0≤steps∧steps≤30 ∧
 ∀(r tA oA:Addr) (rr:List Addr) (ts:MM.b9) (os:MM.bU) (H':Hp),aW H H'→H' r=some (.tup [vn os.length,.ref tA,.ref oA])→tE H H' tA oA rr ts os→MM.Good ts os→(ts.length:Int)≤steps+1→os.length≤38→Q (.ref r) H'
theorem NK(T:Txt K mg t):bQ P w K mg base CX0 5 t.JK t.JC ["_law_script","_law_steps","_law_most"] (RM K):=by
 refine T.IR.F.ok C2 (fun vs H Q E h=>?_) (fun cdv A outer s H vs Q E hr h=>?_)
 ·obtain⟨sa,ns,steps,most,rfl,_⟩:=h;rfl
 obtain⟨sa,ns,steps,most,rfl,hS,hs0,hs1,q⟩:=h;have nd:=C2.nd;refine⟨_,(aE (a7 3 nd (bR (r9 T) hr T.fY bE (aA (pv 0) (aA aH aC))))
  (aE (a7 4 nd (bS (aA (bX (aA aH (aA aH aC))) aC)))
  (aE (a7 5 nd (bS (aA (bS (aA aH aC)) (aA (bS (aA aH aC)) aC))))
  (aE (cC (aZ fK (aX dE (bR (l8 T) hr T.iG bE (aA (pv 3) (aA aH aC))) aH) aH (bD _)) (aE (a7 4 nd (bS (aA (bX (aA aH (aA aH aC))) aC)))
  (aK (a7 5 nd (bS (aA (bS (aA aH (aA aH aC))) aC))))) bJ)
  (aE (cY PassesOwn.never rfl (dI rfl T.eA (aA (aX dE (bR (l8 T) hr T.iG bE (aA (pv 3) (aA aH aC))) (aX cV (pv 1) aH)) aC)) (aQ (i:=6) nd rfl (Or.inl rfl)) (aK (bN (bR (NI T) hr T.D0 bE (aA (pv 4) (aA (pv 5) (aA (bR (l8 T) hr T.iG bE (aA (bR (r9 T) hr T.fY bE (aA (pv 0) (aA (aX cV aH (aX dE (pv 6) aH)) aC))) (aA (aX cV aH (pv 6)) aC))) (aA (pv 2) aC))))))))
  (aK (bC (bR (DD T) hr T.uZ bE (aA (pv 4) (aA (pv 5) (aA (bR (r9 T) hr T.fY bE (aA (pv 0) (aA aH aC))) aC))))))))))),?_⟩
 refine⟨_,(cU rfl sa ns 0 rfl ⟨ hS,by decide,fun c=>?_⟩)⟩;refine⟨(by show 2≤ZW;decide),fun t0 ht0=>⟨(by show 1≤ZW;decide),fun ta hta=>?_⟩⟩;have a1:=aI ht0 (.tup [vn 0,vn 1]);have a2:=aI hta (.lst [.ref t0]);refine⟨(by show 1≤ZW;decide),fun o0 ho0=>⟨(by show 1≤ZW;decide),fun o1 ho1=>⟨(by show 2≤ZW;decide),fun oa hoa=>?_⟩⟩⟩;have a3:=aI ho0 (.lst [vn 0]);have a4:=aI ho1 (.lst [vn 1]);have a5:=aI hoa (.lst [.ref o0,.ref o1]);have gA:=(((a1.trans a2).trans a3).trans a4).trans a5;have n01:o0≠o1:=aJ aB ho1;have n0a:oa≠o0:=(aJ (a4 _ _ aB) hoa).symm;have n1a:oa≠o1:=(aJ aB hoa).symm;have mA:tE H (upd (upd (upd (upd (upd H t0 (.tup [vn 0,vn 1])) ta (.lst [.ref t0])) o0 (.lst [vn 0])) o1 (.lst [vn 1])) oa (.lst [.ref o0,.ref o1])) ta oa [o0,o1] [(0,1)] [[0],[1]]:=by
  refine⟨⟨[t0],a5 _ _ (a4 _ _ (a3 _ _ aB)),rfl,fun i u hu=>?_⟩,⟨aB,rfl,fun i u hu=>?_,by simp[n01],by simp[n0a,n1a],?_,fun x hx=>?_⟩,a1.free hta,aJ (a4 _ _ (a3 _ _ aB)) hoa,fun z=>?_⟩
  ·match i,hu with
   |0,hu=>cases hu;exact⟨t0,rfl,a5 _ _ (a4 _ _ (a3 _ _ (a2 _ _ aB)))⟩
   |i+1,hu=>simp at hu
  ·match i,hu with
   |0,hu=>cases hu;exact⟨o0,rfl,a5 _ _ (a4 _ _ aB)⟩
   |1,hu=>cases hu;exact⟨o1,rfl,a5 _ _ aB⟩
   |i+2,hu=>simp at hu
  ·exact((a1.trans a2).trans (a3.trans a4)).free hoa
  ·have hx':x=o0∨x=o1:=by simpa using hx
   rcases hx' with rfl | rfl
   ·exact(a1.trans a2).free ho0
   ·exact((a1.trans a2).trans a3).free ho1
  ·have hz:ta=o0∨ta=o1:=by simpa using z
   rcases hz with rfl | rfl
   ·exact aJ aB ho0 rfl
   ·exact aJ (a3 _ _ aB) ho1 rfl
 have gdA:=MM.good2;generalize upd (upd (upd (upd (upd H t0 (.tup [vn 0,vn 1])) ta (.lst [.ref t0])) o0 (.lst [vn 0])) o1 (.lst [vn 1])) oa (.lst [.ref o0,.ref o1])=HA at gA mA;clear a1 a2 a3 a4 a5 n01 n0a n1a ht0 hta ho0 ho1 hoa;refine(aN _ rfl c 0 rfl ⟨ by decide,by decide,fun m0 hm0 _=>(bH _ _ rfl rfl (by show(0:Int)<4;decide) ⟨ rfl,_,rfl,?_⟩)⟩);refine eY (fun cc=>?_) (fun cc=>?_)
 ·refine⟨(by show 2≤ZW;decide),fun t1 ht1=>⟨(by show 1≤ZW;decide),fun tb htb=>?_⟩⟩;have a1:=aI ht1 (.tup [vn 0,vn 0]);have a2:=aI htb (.lst [.ref t1]);refine⟨(by show 2≤ZW;decide),fun o2 ho2=>⟨(by show 1≤ZW;decide),fun ob hob=>?_⟩⟩;have a3:=aI ho2 (.lst [vn 0,vn 1]);have a4:=aI hob (.lst [.ref o2]);have gB:=gA.trans (((a1.trans a2).trans a3).trans a4);have mB:tE H (upd (upd (upd (upd HA t1 (.tup [vn 0,vn 0])) tb (.lst [.ref t1])) o2 (.lst [vn 0,vn 1])) ob (.lst [.ref o2])) tb ob [o2] [(0,0)] [[0,1]]:=by
   refine⟨⟨[t1],a4 _ _ (a3 _ _ aB),rfl,fun i u hu=>?_⟩,⟨aB,rfl,fun i u hu=>?_,by simp,by simp;exact(aJ aB hob).symm,?_,fun x hx=>?_⟩,gA.free (a1.free htb),aJ (a3 _ _ aB) hob,fun z=>?_⟩
   ·match i,hu with
    |0,hu=>cases hu;exact⟨t1,rfl,a4 _ _ (a3 _ _ (a2 _ _ aB))⟩
    |i+1,hu=>simp at hu
   ·match i,hu with
    |0,hu=>cases hu;exact⟨o2,rfl,a4 _ _ aB⟩
    |i+1,hu=>simp at hu
   ·exact gA.free ((a1.trans (a2.trans a3)).free hob)
   ·have hx':x=o2:=by simpa using hx
    subst hx';exact gA.free ((a1.trans a2).free ho2)
   ·have hz:tb=o2:=by simpa using z
    exact aJ aB ho2 hz
  have gdB:=MM.VB;generalize upd (upd (upd (upd HA t1 (.tup [vn 0,vn 0])) tb (.lst [.ref t1])) o2 (.lst [vn 0,vn 1])) ob (.lst [.ref o2])=HB at gB mB;clear a1 a2 a3 a4 ht1 htb ho2 hob;refine(aN _ rfl c 1 rfl ⟨ by decide,by decide,fun m1 hm1 _=>(aN _ rfl _ _ rfl (cM rfl _ _ rfl rfl (tF (by show(0:Int)<steps+1;lia) (m1%(steps+1)) rfl ?_ ?_ ?_)))⟩)
  ·have:=Xj m1 (show steps+1≠0 by lia);lia
  ·have:=Xk m1 (show 0<steps+1 by lia);lia
  have hn:(m1%(steps+1)).toNat≤30∧((m1%(steps+1)).toNat:Int)≤steps:=by have:=Xk m1 (show 0<steps+1 by lia);lia
  refine fX (lo:=0) (n:=(m1%(steps+1)).toNat) (fun i σ H'=>∃(rr:List Addr) (ts:MM.b9) (os:MM.bU) (o6:Option V),σ=[some (.ref sa),some (.int steps),some (.int most),some (.int c),some (.ref tb),some (.ref ob),o6]∧aW H H'∧tE H H' tb ob rr ts os∧MM.Good ts os∧ts.length≤i+1∧os.length≤i+2)
   (aG _ _ _ none rfl ⟨ gB,mB,gdB,by simp,by simp⟩) ?_ ?_
  ·rintro i σ H1 hi ⟨rr,ts,os,o6,rfl,g1,hm,gd,l1,l2⟩;refine⟨_,(bO rfl _ rfl _ rfl (aN _ rfl _ _ rfl (bB rfl (by show(0:Int)<6;decide) _ _ rfl (cU rfl sa ns _ rfl ⟨ g1.seq hS,by lia,fun c2=>(aN _ rfl _ _ rfl (cM rfl _ _ rfl (by lia) ⟨ by lia,fun m2 hm2 _=>⟨_,rfl,(aP H tb ob m2 most (bV rr ts os rfl g1 (bG hm gd (by lia) (by lia) hm2 ?_)))⟩⟩))⟩))))⟩;exact fun H2 rr' ts' os' g' hm' gd' k1 k2=>(aG rr' ts' os' _ rfl ⟨ g',hm',gd',by lia,by lia⟩)
  ·rintro σ H1 ⟨rr,ts,os,o6,rfl,g1,hm,gd,l1,l2⟩;refine⟨_,(bO rfl _ rfl _ rfl (bV sa ns 1 rfl (g1.seq hS) ⟨ by decide,fun c3=>(aP tb ob c3 ts os (bG rfl hm.ts hm.os.os gd (by lia) ⟨ by lia,?_⟩))⟩))⟩;exact fun r tA oA rr' ts' os' H2 g2 er hm2 gd2 k1 k2=>q r tA oA rr' ts' os' H2 (g1.trans g2) (by rw[er,k2]) (hm2.bse g1) gd2 (by lia) (by lia)
 ·refine(aN _ rfl c 1 rfl ⟨ by decide,by decide,fun m1 hm1 _=>(aN _ rfl _ _ rfl (cM rfl _ _ rfl rfl (tF (by show(0:Int)<steps+1;lia) (m1%(steps+1)) rfl ?_ ?_ ?_)))⟩)
  ·have:=Xj m1 (show steps+1≠0 by lia);lia
  ·have:=Xk m1 (show 0<steps+1 by lia);lia
  have hn:(m1%(steps+1)).toNat≤30∧((m1%(steps+1)).toNat:Int)≤steps:=by have:=Xk m1 (show 0<steps+1 by lia);lia
  refine fX (lo:=0) (n:=(m1%(steps+1)).toNat) (fun i σ H'=>∃(rr:List Addr) (ts:MM.b9) (os:MM.bU) (o6:Option V),σ=[some (.ref sa),some (.int steps),some (.int most),some (.int c),some (.ref ta),some (.ref oa),o6]∧aW H H'∧tE H H' ta oa rr ts os∧MM.Good ts os∧ts.length≤i+1∧os.length≤i+2)
   (aG _ _ _ none rfl ⟨ gA,mA,gdA,by simp,by simp⟩) ?_ ?_
  ·rintro i σ H1 hi ⟨rr,ts,os,o6,rfl,g1,hm,gd,l1,l2⟩;refine⟨_,(bO rfl _ rfl _ rfl (aN _ rfl _ _ rfl (bB rfl (by show(0:Int)<6;decide) _ _ rfl (cU rfl sa ns _ rfl ⟨ g1.seq hS,by lia,fun c2=>(aN _ rfl _ _ rfl (cM rfl _ _ rfl (by lia) ⟨ by lia,fun m2 hm2 _=>⟨_,rfl,(aP H ta oa m2 most (bV rr ts os rfl g1 (bG hm gd (by lia) (by lia) hm2 ?_)))⟩⟩))⟩))))⟩;exact fun H2 rr' ts' os' g' hm' gd' k1 k2=>(aG rr' ts' os' _ rfl ⟨ g',hm',gd',by lia,by lia⟩)
  ·rintro σ H1 ⟨rr,ts,os,o6,rfl,g1,hm,gd,l1,l2⟩;refine⟨_,(bO rfl _ rfl _ rfl (bV sa ns 1 rfl (g1.seq hS) ⟨ by decide,fun c3=>(aP ta oa c3 ts os (bG rfl hm.ts hm.os.os gd (by lia) ⟨ by lia,?_⟩))⟩))⟩;exact fun r tA oA rr' ts' os' H2 g2 er hm2 gd2 k1 k2=>q r tA oA rr' ts' os' H2 (g1.trans g2) (by rw[er,k2]) (hm2.bse g1) gd2 (by lia) (by lia)
end K33
namespace L2
open PySem PyProof.Rows
def iW(H:Hp)(w:Addr)(n:Nat)(ts:MM.b9)(os:MM.bU):Prop:=∃tA oA:Addr,H w=some (.tup [vn n,.ref tA,.ref oA])∧iU H tA ts∧uG H oA os
theorem aW.web{H H':Hp}(g:aW H H'){w:Addr}{n:Nat}{ts:MM.b9}{os:MM.bU}(h:iW H w n ts os):iW H' w n ts os:=by
 obtain⟨tA,oA,h1,h2,h3⟩:=h;exact⟨tA,oA,g _ _ h1,g.ts h2,g.os h3⟩
end L2
namespace K33
open PySem L2 PyProof.Rows
theorem r8(T:Txt K mg t):bQ P w K mg base CX0 1 t.oU t.oQ ["end"] MF:=by
 refine T.iQ.F.ok A9 (fun vs H Q E h=>?_) (fun cdv A outer s H vs Q E hr h=>?_)
 ·obtain⟨e,rfl,_⟩:=h;rfl
 obtain⟨e,rfl,q⟩:=h;refine⟨_,(aK (bC (aX SE (pv 0) aH))),?_⟩;refine(aN _ rfl _ _ rfl ⟨ rfl,?_⟩);have e1:Builtin.bitXor (e:Int) 1=((MM.oth e:Nat):Int):=by
  rw[PyProof.Rows.bitXor_and,PyProof.Rows.bitAnd_m1];unfold MM.oth;split<;>lia
 show Q (.int (Builtin.bitXor (e:Int) 1)) H;rw[e1];exact q
def MA:Sp:=fun vs H Q _=>∃(wa:Addr) (n:Nat) (ts:MM.b9) (os:MM.bU) (e:Nat),vs=[.ref wa,vn e]∧iW H wa n ts os∧e<2*ts.length∧Q (vn (MM.place ts e)) H
theorem NG(T:Txt K mg t):bQ P w K mg base CX0 1 t.yR t.yF ["web","end"] MA:=by
 refine T.xX.F.ok CW (fun vs H Q E h=>?_) (fun cdv A outer s H vs Q E hr h=>?_)
 ·obtain⟨wa,n,ts,os,e,rfl,_⟩:=h;rfl
 obtain⟨wa,n,ts,os,e,rfl,⟨tA,oA,hw,ht,ho⟩,he,q⟩:=h;refine⟨_,(aK (bC (aM oH (aM oH (aM aU (pv 0) aH (fun _ _=>rfl)) (aX eQ (pv 1) aH) (fun _ _=>rfl)) (aX dE (pv 1) aH) (fun _ _=>rfl)))),?_⟩;obtain⟨xs,r,h1,h2,h3,h4⟩:=ht.item (i:=e / 2) (by lia);refine⟨_,rfl,(aG wa _ _ (.ref tA) rfl (aR rfl (SqT.of hw) rfl _ rfl (bH _ _ rfl rfl ⟨by decide,by decide⟩ (.inl (aG tA xs _ _ rfl ⟨ rfl,SqL.of h1,(by show atI xs ((e:Int) / 2)=_;rw[show(e:Int) / 2=((e / 2:Nat):Int) by lia];exact h3),?_⟩)))))⟩;refine(aN _ rfl _ _ rfl ⟨ rfl,(by show(0:Int)<2;decide),.inr (.inl (aG r _ _ _ rfl ⟨ rfl,SqT.of h4,JG e,?_⟩))⟩);unfold MM.place at q;split
 ·rename_i h;rw[if_pos h]at q;exact q
 ·rename_i h;rw[if_neg h]at q;exact q
def RP:Sp:=fun vs H Q _=>∃(wa:Addr) (n:Nat) (ts:MM.b9) (os:MM.bU) (e:Nat),vs=[.ref wa,vn e]∧iW H wa n ts os∧e<2*ts.length∧Q (vn (MM.place ts (MM.oth e))) H
theorem HV(T:Txt K mg t):bQ P w K mg base CX0 2 t.A3 t.AM ["web","end"] RP:=by
 refine T.uA.F.ok FH (fun vs H Q E h=>?_) (fun cdv A outer s H vs Q E hr h=>?_)
 ·obtain⟨wa,n,ts,os,e,rfl,_⟩:=h;rfl
 obtain⟨wa,n,ts,os,e,rfl,hw,he,q⟩:=h;refine⟨_,(aK (bC (bR (NG T) hr T.xX bE (aA (pv 0) (aA (bR (r8 T) hr T.iQ bE (aA (pv 1) aC)) aC))))),?_⟩;exact⟨_,(bO rfl _ rfl e rfl (aP wa n ts os (MM.oth e) ⟨ rfl,hw,MM.fR he,q⟩))⟩
def MJ:Sp:=fun vs H Q _=>∃(wa:Addr) (n:Nat) (ts:MM.b9) (os:MM.bU) (e:Nat),vs=[.ref wa,vn e]∧iW H wa n ts os∧MM.Good ts os∧e<2*ts.length∧Q (vn (MM.behind ts os e)) H
theorem AB(T:Txt K mg t):bQ P w K mg base CX0 3 t.EW t.EG ["web","end"] MJ:=by
 refine T.yA.F.ok zT (fun vs H Q E h=>?_) (fun cdv A outer s H vs Q E hr h=>?_)
 ·obtain⟨wa,n,ts,os,e,rfl,_⟩:=h;rfl
 obtain⟨wa,n,ts,os,e,rfl,hw,g,he,q⟩:=h;have nd:=zT.nd;refine⟨_,(aE (a7 2 nd (aM oH (aM aU (pv 0) aH (fun _ _=>rfl)) (bR (HV T) hr T.uA bE (aA (pv 0) (aA (pv 1) aC))) (fun _ _=>rfl)))
  (aK (bC (aM aV (pv 2) (aX iT (nS PySem.F.plainAttrs_list PySem.F.slot_list_index PySem.F.type_list_index nY (pv 2) (aA (bR (r8 T) hr T.iQ bE (aA (pv 1) aC)) aC)) aH) (fun _ _=>rfl))))),?_⟩
 obtain⟨tA,oA,hw1,ht,ho⟩:=id hw;have hp:=g.g.has (MM.oth e) (MM.fR he);obtain⟨xs,r,h1,h2,h3,h4⟩:=ho.item hp.1;refine⟨_,rfl,(aG wa _ _ (.ref oA) rfl (aR rfl (SqT.of hw1) rfl _ rfl ⟨ _,rfl,(aP wa n ts os e ⟨ rfl,hw,he,.inl (aG oA xs _ _ rfl ⟨ rfl,SqL.of h1,h3,?_⟩)⟩)⟩))⟩;exact(cG _ rfl _ rfl (.inl ⟨rfl,_,SqL.of h4⟩) ⟨ _,rfl,e,(cU rfl r _ _ rfl ⟨ rfl,(bB h4 hp.2 _ _ rfl ⟨ rfl,(aG r _ _ _ rfl ⟨ rfl,SqL.of h4,JF hp.2,q⟩)⟩)⟩)⟩)
def FD:Sp:=fun vs H Q _=>∃(wa:Addr) (n:Nat) (ts:MM.b9) (os:MM.bU) (e:Nat),vs=[.ref wa,vn e]∧iW H wa n ts os∧MM.Good ts os∧ts.length≤500∧e<2*ts.length∧∀r,H r=none→Q (.ref r) (upd H r (.lst (vns (MM.bK (MM.behind ts os) e))))
theorem DE(T:Txt K mg t):bQ P w K mg base CX0 4 t.vG t.u9 ["web","first"] FD:=by
 refine T.uY.F.ok rM (fun vs H Q E h=>?_) (fun cdv A outer s H vs Q E hr h=>?_)
 ·obtain⟨wa,n,ts,os,e,rfl,_⟩:=h;rfl
 obtain⟨wa,n,ts,os,e,rfl,hw,g,h500,he,q⟩:=h;have nd:=rM.nd;refine⟨_,(aE (a7 2 nd (bS (aA (pv 1) aC)))
  (aE (a7 3 nd (bR (AB T) hr T.yA bE (aA (pv 0) (aA (pv 1) aC))))
  (aE (iN PassesOwn.never (aZ xD (pv 3) (pv 1) (bD _)) (aE (bN (kO mAp cD (pv 2) (aA (pv 3) aC)))
  (aK (a7 3 nd (bR (AB T) hr T.yA bE (aA (pv 0) (aA (pv 3) aC)))))))
  (aK (bC (pv 2)))))),?_⟩
 have m:=g.maps;obtain⟨rd,rdN⟩:=MM.gW m he;refine⟨_,rfl,(by show 1≤ZW;decide),fun la hla=>?_⟩;have g1:=aI hla (.lst [vn e]);refine⟨_,rfl,_,rfl,(aP wa n ts os e ⟨ rfl,g1.web hw,g,he,?_⟩)⟩;generalize hf:MM.behind ts os=f at m rd rdN q;refine⟨fun k σ H4=>∃j,k=MM.per f e-j∧0<j∧j≤MM.per f e∧σ=[some (.ref wa),some (vn e),some (.ref la),some (vn (MM.iter f j e))]∧H4=upd H la (.lst (vns (MM.path f e j))),(bH _ 1 rfl Nat.one_pos rd.1 ⟨ rfl,rfl⟩),?_⟩;rintro k σ H4 ⟨j,rfl,hj0,hj,rfl,rfl⟩;refine(cG _ rfl _ rfl rfl ⟨ _,rfl,?_⟩);by_cases hc:MM.iter f j e=e
 ·refine eZ (by rw[hc];simp) ?_;have ej:j=MM.per f e:=by
   rcases Xq j (MM.per f e) with z | z
   ·exact absurd hc (rd.2.2 j hj0 z)
   ·lia
  subst ej;exact⟨_,rfl,q la hla⟩
 ·refine eV (by simp;lia) ?_;have hjp:=MM.wX rd hj0 hj hc;refine⟨_,fun σ' H' h=>h,?_⟩;refine(bW _ rfl (.inl ⟨rfl,_,SqL.of aB⟩) _ rfl (bV la _ _ rfl rfl ⟨ aB,?_,?_⟩))
  ·rw[Zq,MM.nU];exact Ys (by lia:j≤1000) (by decide)
  have e7:vns (MM.path f e j)++[vn (MM.iter f j e)]=vns (MM.path f e (j+1)):=by rw[MM.tV,pC];rfl
  rw[e7,j6];refine⟨_,rfl,_,rfl,(aP wa n ts os (MM.iter f j e) ⟨ rfl,(aI hla _).web hw,g,MM.kE m he j,?_⟩)⟩;rw[hf];exact(cG (MM.per f e-(j+1)) (by lia) (j+1) rfl (by lia) ⟨ by lia,rfl,rfl⟩)
end K33
namespace MM
theorem DW{p:Nat→Bool}{N i:Nat}(hi:i<N)(h0:∀j,j<i→p j=false)(h1:p i=true):∃r,(List.range N).filter p=i::r:=by
 have e:N=(i+1)+(N-(i+1)):=by omega
 rw[e,List.range_add,List.range_succ,List.filter_append,List.filter_append];have e1:(List.range i).filter p=[]:=by
  rw[List.filter_eq_nil_iff];intro a ha;rw[h0 a (Zs.mp ha)];exact Bool.false_ne_true
 rw[e1,List.nil_append,List.filter_cons,if_pos h1];exact⟨_,rfl⟩
end MM
namespace K33
open PySem L2 PyProof.Rows
def O5:Sp:=fun vs H Q _=>∃(wa:Addr) (n:Nat) (ts:MM.b9) (os:MM.bU),vs=[.ref wa]∧iW H wa n ts os∧MM.Good ts os∧ts.length≤500 ∧
 ∀(r:Addr) (rr:List Addr) (H':Hp),aW H H'→dD H H' r rr (MM.cF (MM.behind ts os) (2*ts.length))→Q (.ref r) H'
theorem nW(T:Txt K mg t):bQ P w K mg base CX0 5 t.JI t.JA ["web"] O5:=by
 refine T.pN.F.ok CZ (fun vs H Q E h=>?_) (fun cdv A outer s H vs Q E hr h=>?_)
 ·obtain⟨wa,n,ts,os,rfl,_⟩:=h;rfl
 obtain⟨wa,n,ts,os,rfl,hw,g,h500,q⟩:=h;have nd:=CZ.nd;have nd_end:(["end"]:List Str).Nodup:=by decide
 refine⟨_,(aE (a7 1 nd (bS aC))
  (aE (cN (i:=2) nd rfl (Or.inl rfl)  (N':=["end"]) (js:=[none]) rfl (dI rfl T.eA (aA (aX dW aH (aT aO rfl T.cP PySem.boot_len (aA (aM aU (pv 0) aH (fun _ _=>rfl)) aC))) aC)) (fun _ _ _ _ _=>(aQ (i:=0) nd_end rfl (Or.inl rfl))) (fun _ _ _ _ _=>dN) (fun _ _ _ _ _=>pT))
  (aE (cY PassesOwn.never rfl (dI rfl T.eA (aA (aX dW aH (aT aO rfl T.cP PySem.boot_len (aA (aM aU (pv 0) aH (fun _ _=>rfl)) aC))) aC)) (aQ (i:=3) nd rfl (Or.inl rfl)) (aK (cC (gH (cQ (aM aV (pv 2) (pv 3) (fun _ _=>rfl)) (fun _=>rfl))) (aE (a7 4 nd (bR (DE T) hr T.uY bE (aA (pv 0) (aA (pv 3) aC))))
  (aE (cY PassesOwn.never rfl (cK (pv 4)) (aQ (i:=5) nd rfl (Or.inl rfl)) (aK (l7 pT (kN (pv 2) (pv 5) set_list))))
  (aK (bN (kO mAp cD (pv 1) (aA (pv 4) aC)))))) bJ)))
  (aK (bC (pv 1)))))),?_⟩
 have m:=g.maps;obtain⟨tA,oA,hw1,ht,ho⟩:=id hw;obtain⟨tr,tr1,tr2,tr3⟩:=id ht;have eN:(2:Int)*((tr.map V.ref).length:Nat)=((2*ts.length:Nat):Int):=by rw[Zq,tr2];push_cast;rfl
 refine⟨(by show 0≤ZW;decide),fun D1 hD1=>?_⟩;have g1:=aI hD1 (.lst []);refine⟨_,rfl,(aG wa _ _ (.ref tA) rfl ⟨ rfl,(bB (SqT.of (g1 _ _ hw1)) rfl tA _ rfl (cM (.inl (SqL.of (g1 _ _ tr1))) _ _ rfl rfl (tF (.inl ⟨by decide,by decide⟩) _ rfl ?_ ?_ (fun D2 hD2=>?_))))⟩)⟩
 ·show -(2 ^ 62)≤(2:Int)*((tr.map V.ref).length:Nat);lia
 ·show(2:Int)*((tr.map V.ref).length:Nat)<2 ^ 62;rw[eN];lia
 have eN2:((2:Int)*((tr.map V.ref).length:Nat)).toNat=2*ts.length:=by rw[eN];exact Int.toNat_natCast _
 generalize hf:MM.behind ts os=f at m q;generalize hN:2*ts.length=N at m q eN eN2;refine comp_map N (fun i ys H'=>ys=(List.replicate i false).map V.bl∧H'=upd (upd H D1 (.lst [])) D2 (.lst ys)) ⟨rfl,rfl⟩ ?_ ?_
 ·rintro i ys H' hi ⟨rfl,rfl⟩;refine⟨(by show i<((2:Int)*((tr.map V.ref).length:Nat)).toNat;lia),?_⟩;rintro x H'' ⟨rfl,rfl⟩;refine⟨(Fills.refl _).set _ rfl,aB,?_,?_,?_⟩
  ·rw[Zq,List.length_replicate];exact Yt hi (Yr (by lia:N≤1000) (by decide))
  ·rw[List.replicate_succ',Zt];rfl
  ·rw[j6]
 rintro ys H2 ⟨rfl,rfl⟩;refine⟨(by show((2:Int)*((tr.map V.ref).length:Nat)).toNat≤N;lia),?_⟩;have g2':=aI hD2 (.lst ((List.replicate N false).map V.bl));have g2:=g1.trans g2';have nD:D1≠D2:=aJ aB hD2;have n0:dD H (upd (upd H D1 (.lst [])) D2 (.lst ((List.replicate N false).map V.bl))) D1 [] []:=⟨g2' _ _ aB,rfl,fun i l h=>by simp at h,List.nodup_nil,by simp,hD1,fun x hx=>by cases hx⟩
 have e0:(upd (upd H D1 (.lst [])) D2 (.lst ((List.replicate N false).map V.bl))) D2=some (.lst ((List.replicate N false).map V.bl)):=aB;have hD2H:H D2=none:=g1.free hD2;generalize upd (upd H D1 (.lst [])) D2 (.lst ((List.replicate N false).map V.bl))=H2 at g2 n0 e0;clear g2' hD2 g1;refine⟨_,rfl,(aG wa _ _ (.ref tA) rfl ⟨ rfl,(bB (SqT.of (g2 _ _ hw1)) rfl tA _ rfl (cM (.inl (SqL.of (g2 _ _ tr1))) _ _ rfl rfl (tF (.inl ⟨by decide,by decide⟩) _ rfl ?_ ?_ ?_)))⟩)⟩
 ·show -(2 ^ 62)≤(2:Int)*((tr.map V.ref).length:Nat);lia
 ·show(2:Int)*((tr.map V.ref).length:Nat)<2 ^ 62;rw[eN];lia
 refine fX (lo:=0) (n:=((2:Int)*((tr.map V.ref).length:Nat)).toNat) (fun i σ H'=>∃(rr:List Addr) (done:MM.bU) (sn:List Bool) (o3 o4 o5:Option V),σ=[some (.ref wa),some (.ref D1),some (.ref D2),o3,o4,o5]∧aW H H'∧dD H H' D1 rr done∧D2∉rr ∧
   H' D2=some (.lst (sn.map V.bl))∧sn.length=N∧done++MM.lf f ((List.range N).filter fun x=>!sn.getD x false)=MM.cF f N∧∀j,j<i→sn.getD j false=true)
  (aP ([]) ([]) (List.replicate N false) none none (eB none rfl g2 n0 (by simp) ⟨ e0,by simp,?_,fun j hj=>absurd hj (Nat.not_lt_zero _)⟩)) ?_ ?_
 ·have e:(List.range N).filter (fun x=>!(List.replicate N false).getD x false)=List.range N:=by
   rw[List.filter_eq_self];intro a ha;have:=Zs.mp ha;simp[Zv,List.getElem?_replicate,this]
  rw[e];rfl
 ·rintro i σ H3 hi ⟨rr,done,sn,o3,o4,o5,rfl,g3,n3,dr,es,sl,eq,hs⟩;rw[eN2]at hi;have hi0:(0:Int)+(i:Int)=(i:Int):=Int.zero_add _;rw[hi0];have hat:atI (sn.map V.bl) (i:Int)=some (.bl (sn.getD i false)):=c9 (by rw[Zk,Zv,Zz (show i<sn.length by lia)];rfl);refine⟨_,rfl,_,rfl,(aG D2 _ _ _ rfl (aR rfl (SqL.of es) hat _ rfl ?_))⟩;cases hb:sn.getD i false with
  |true =>
   refine eZ rfl ?_;refine(aP rr done sn _ _ (eB _ rfl g3 n3 dr ⟨ es,sl,eq,fun j hj=>?_⟩));rcases Xq j i with z | z
   ·exact hs j z
   ·have:j=i:=by lia
    subst this;exact hb
  |false =>
   refine eV rfl ?_;refine⟨_,rfl,_,rfl,(aP wa n ts os i (bG rfl (g3.web hw) g h500 (by lia) (fun la hla=>?_)))⟩;rw[hf];have gl:=aI hla (.lst (vns (MM.bK f i)));have lanD1:la≠D1:=(aJ n3.at_ hla).symm;have lanD2:la≠D2:=(aJ es hla).symm;have lar:la∉rr:=fun z=>by obtain⟨l,hl⟩:=n3.ex z;rw[hla]at hl;cases hl
   have hll:=MM.sH m hi;have lan:=MM.xR m hi;have lal:=(MM.DM m hi).2;have selfl:=MM.zM m hi;refine(cG _ rfl la rfl ⟨_,SqL.of aB⟩ (fA (xs:=vns (MM.bK f i)) (fun j σ H'=>∃(sn':List Bool) (o5:Option V),σ=[some (.ref wa),some (.ref D1),some (.ref D2),some (vn i),some (.ref la),o5]∧H'=upd (upd H3 la (.lst (vns (MM.bK f i)))) D2 (.lst (sn'.map V.bl))∧sn'.length=N ∧
     ∀x,sn'.getD x false=(sn.getD x false||decide (x∈(MM.bK f i).take j)))
    (bH sn _ rfl ?_ sl (fun x=>by simp)) (fun j σ H' _ h=>by obtain⟨sn',o,_,rfl,_⟩:=h;exact SqL.of (by rw[aL lanD2];exact aB)) ?_ ?_))
   ·funext b
    by_cases hb':b=D2
    ·subst hb';rw[aB];exact gl _ _ es
    ·rw[aL hb']
   ·rintro j x σ H' hx ⟨sn',o,rfl,rfl,sl',hsn⟩;obtain⟨hj,ej⟩:=Zj.mp hx;rw[Zq]at hj;have ex:x=vn (MM.bK f i)[j]:=by rw[←ej];simp
    subst ex;have hxN:=hll _ (Zp hj);refine⟨_,rfl,_,rfl,(aG D2 _ _ ((MM.bK f i)[j]) rfl ⟨ rfl,(bB aB (vY (by rw[Zq];lia)) (sn'.set (MM.bK f i)[j] true) _ rfl ⟨ ?_,by rw[List.length_set];exact sl',fun y=>?_⟩)⟩)⟩
    ·rw[j6,List.map_set]
    ·have hmem:y∈(MM.bK f i).take (j+1)↔y∈(MM.bK f i).take j∨y=(MM.bK f i)[j]:=by
      rw[List.take_add_one,Zz hj,Zf];simp
     by_cases hy:(MM.bK f i)[j]=y
     ·subst hy;rw[MM.kP (by lia)];simp[hmem]
     ·rw[MM.oJ hy,hsn y];have:(y∈(MM.bK f i).take (j+1))=(y∈(MM.bK f i).take j):=by
       rw[eq_iff_iff,hmem];constructor
       ·rintro(z | z)
        ·exact z
        ·exact absurd z.symm hy
       ·exact .inl
      simp only[this]
   ·rintro σ H' ⟨sn',o,rfl,rfl,sl',hsn⟩;rw[Zq,Yv]at hsn;have n4:dD H (upd (upd H3 la (.lst (vns (MM.bK f i)))) D2 (.lst (sn'.map V.bl))) D1 rr done:=n3.keep fun b u hb h=>by
     rw[aL (show b≠D2 by rcases hb with rfl | hb;exact nD;rintro rfl;exact dr hb)];exact gl _ _ h
    have g4:aW H (upd (upd H3 la (.lst (vns (MM.bK f i)))) D2 (.lst (sn'.map V.bl))):=fun b u h=>by rw[aL (aJ h hD2H)];exact gl _ _ (g3 _ _ h)
    have la4:(upd (upd H3 la (.lst (vns (MM.bK f i)))) D2 (.lst (sn'.map V.bl))) la=some (.lst (vns (MM.bK f i))):=by rw[aL lanD2];exact aB
    have es4:(upd (upd H3 la (.lst (vns (MM.bK f i)))) D2 (.lst (sn'.map V.bl))) D2=some (.lst (sn'.map V.bl)):=aB;generalize upd (upd H3 la (.lst (vns (MM.bK f i)))) D2 (.lst (sn'.map V.bl))=H4 at n4 g4 la4 es4;have hdl:done.length≤N:=by
     have h1:=MM.BR m _ (List.range N) (Nat.le_refl _) (fun x hx=>Zs.mp hx);have h2:=congrArg List.length eq;rw[Zm]at h2;unfold MM.cF at h2;rw[Yj]at h1
     lia
    refine(bW _ rfl (.inl ⟨rfl,_,SqL.of n4.at_⟩) _ rfl (bV D1 _ _ rfl rfl ⟨ n4.at_,?_,?_⟩))
    ·rw[Zq,n4.len];exact Ys (by lia:done.length≤1000) (by decide)
    have n5:=n4.push (x:=la) (l:=MM.bK f i) (H2:=upd H4 D1 (.lst (rr.map V.ref++[.ref la]))) (g3.free hla) lar lanD1 (by rw[aB,Zt];rfl) (by rw[aL lanD1];exact la4) fun b u hb h=>by rw[aL (show b≠D1 from fun z=>n4.nin (z▸hb))];exact h
    refine(aP (rr++[la]) (done++[MM.bK f i]) sn' _ _ (eB _ rfl ?_ n5 ?_ ⟨ ?_,sl',?_,fun j hj=>?_⟩))
    ·exact fun b u h=>by rw[aL (aJ h hD1)];exact g4 _ _ h
    ·intro z;rcases Zf.mp z with z | z
     ·exact dr z
     ·have:D2=la:=by simpa using z
      exact lanD2 this.symm
    ·rw[aL (Ne.symm nD)];exact es4
    ·obtain⟨r,hr'⟩:=MM.DW (p:=fun x=>!sn.getD x false) hi (fun j hj=>by rw[hs j hj];rfl) (by rw[hb];rfl);have e2:(List.range N).filter (fun x=>!sn'.getD x false)=(i::r).filter fun x=>decide (x∉MM.bK f i):=by
      rw[←hr',List.filter_filter];refine List.filter_congr fun x _=>?_;rw[hsn x];by_cases z:x∈MM.bK f i<;>simp[z]
     rw[hr',MM.pM m (fun x hx=>by rw[←hr']at hx;exact Zs.mp (Yz.mp hx).1)]at eq;rw[Yb,e2];exact eq
    ·rw[hsn j];rcases Xq j i with z | z
     ·rw[hs j z];rfl
     ·have:j=i:=by lia
      subst this;simp[selfl]
 ·rintro σ H3 ⟨rr,done,sn,o3,o4,o5,rfl,g3,n3,dr,es,sl,eq,hs⟩;rw[eN2]at hs;have e:(List.range N).filter (fun x=>!sn.getD x false)=[]:=by
   rw[List.filter_eq_nil_iff];intro a ha;rw[hs a (Zs.mp ha)];exact Bool.false_ne_true
  rw[e,MM.NU,List.append_nil]at eq;exact⟨_,rfl,q D1 rr H3 g3 (eq▸n3)⟩
end K33
namespace MM
theorem oE{f:Nat→Nat}{N:Nat}(m:fL f N){x:Nat}(hx:x<N):∃(k:Nat) (d:List Nat),(cF f N)[k]?=some d∧x∈d∧∀(j:Nat) (d':List Nat),(cF f N)[j]?=some d'→x∈d'→j=k :=
 GA m _ _ (Nat.le_refl _) (fun y hy=>Zs.mp hy) x (Zs.mpr hx)
end MM
namespace K33
open PySem L2 PyProof.Rows
def JV:Sp:=fun vs H Q _=>∃(wa:Addr) (n:Nat) (ts:MM.b9) (os:MM.bU),vs=[.ref wa]∧iW H wa n ts os∧MM.Good ts os∧ts.length≤500 ∧
 ∀(r:Addr) (nm:List Nat) (H':Hp),aW H H'→H r=none→H' r=some (.lst (vns nm))→nm.length=2*ts.length→(∀(k:Nat) (d:List Nat) (x:Nat),(MM.cF (MM.behind ts os) (2*ts.length))[k]?=some d→x∈d→nm.getD x 0=k)→Q (.ref r) H'
theorem xE(T:Txt K mg t):bQ P w K mg base CX0 6 t.oV t.oR ["web"] JV:=by
 refine T.jR.F.ok mL (fun vs H Q E h=>?_) (fun cdv A outer s H vs Q E hr h=>?_)
 ·obtain⟨wa,n,ts,os,rfl,_⟩:=h;rfl
 obtain⟨wa,n,ts,os,rfl,hw,g,h500,q⟩:=h;have nd:=mL.nd;have nd_end:(["end"]:List Str).Nodup:=by decide
 refine⟨_,(aE (cN (i:=1) nd rfl (Or.inl rfl)  (N':=["end"]) (js:=[none]) rfl (dI rfl T.eA (aA (aX dW aH (aT aO rfl T.cP PySem.boot_len (aA (aM aU (pv 0) aH (fun _ _=>rfl)) aC))) aC)) (fun _ _ _ _ _=>(aQ (i:=0) nd_end rfl (Or.inl rfl))) (fun _ _ _ _ _=>dN) (fun _ _ _ _ _=>aH))
  (aE (cY PassesOwn.never rfl (fN rfl T.dA (aA (bR (nW T) hr T.pN bE (aA (pv 0) aC)) aC)) (dU rfl (aY (aQ (i:=2) nd rfl (Or.inl rfl)) (aY (aQ (i:=3) nd rfl (Or.inl rfl)) cH))) (aK (cY PassesOwn.never rfl (cK (pv 3)) (aQ (i:=4) nd rfl (Or.inl rfl)) (aK (l7 (pv 2) (kN (pv 1) (pv 4) set_list))))))
  (aK (bC (pv 1))))),?_⟩
 have m:=g.maps;obtain⟨tA,oA,hw1,ht,ho⟩:=id hw;obtain⟨tr,tr1,tr2,tr3⟩:=id ht;have eN:(2:Int)*((tr.map V.ref).length:Nat)=((2*ts.length:Nat):Int):=by rw[Zq,tr2];push_cast;rfl
 refine⟨_,rfl,(aG wa _ _ (.ref tA) rfl ⟨ rfl,(bB (SqT.of hw1) rfl tA _ rfl (cM (.inl (SqL.of tr1)) _ _ rfl rfl (tF (.inl ⟨by decide,by decide⟩) _ rfl ?_ ?_ (fun D hD=>?_))))⟩)⟩
 ·show -(2 ^ 62)≤(2:Int)*((tr.map V.ref).length:Nat);lia
 ·show(2:Int)*((tr.map V.ref).length:Nat)<2 ^ 62;rw[eN];lia
 have eN2:((2:Int)*((tr.map V.ref).length:Nat)).toNat=2*ts.length:=by rw[eN];exact Int.toNat_natCast _
 generalize hf:MM.behind ts os=f at m q;generalize hN:2*ts.length=N at m q eN eN2;refine comp_map N (fun i ys H'=>ys=vns (List.replicate i 0)∧H'=upd H D (.lst ys)) ⟨rfl,rfl⟩ ?_ ?_
 ·rintro i ys H' hi ⟨rfl,rfl⟩;refine⟨(by show i<((2:Int)*((tr.map V.ref).length:Nat)).toNat;lia),?_⟩;rintro x H'' ⟨rfl,rfl⟩;refine⟨(Fills.refl _).set _ rfl,aB,?_,?_,?_⟩
  ·rw[Zq,List.length_replicate];exact Yt hi (Yr (by lia:N≤1000) (by decide))
  ·rw[List.replicate_succ',pC];rfl
  ·rw[j6]
 rintro ys H2 ⟨rfl,rfl⟩;refine⟨(by show((2:Int)*((tr.map V.ref).length:Nat)).toNat≤N;lia),?_⟩;have g2:=aI hD (.lst (vns (List.replicate N 0)));have e2:(upd H D (.lst (vns (List.replicate N 0)))) D=some (.lst (vns (List.replicate N 0))):=aB;generalize upd H D (.lst (vns (List.replicate N 0)))=H2 at g2 e2;refine⟨_,rfl,(aG wa n ts os rfl ⟨ g2.web hw,g,h500,fun r rr H3 g3 n3=>⟨r,rfl,⟨_,SqL.of n3.at_⟩,?_⟩⟩)⟩;rw[hf,hN]at n3;have rl:(rr.map V.ref).length=(MM.cF f N).length:=by rw[Zq];exact n3.len
 have rD:r≠D:=fun z=>by have:=n3.new;rw[z,e2]at this;cases this
 have rrD:D∉rr:=fun z=>by have:=n3.news D z;rw[e2]at this;cases this
 have hlk:∀i,i<(MM.cF f N).length→∃d x,(MM.cF f N)[i]?=some d∧rr[i]?=some x∧H3 x=some (.lst (vns d))∧(∀y∈d,y<N):=fun i hi=>by
  obtain⟨x,h1,h2⟩:=n3.row i _ (Zz hi);exact(bH _ x (Zz hi) h1 h2 ((MM.uU m (Zp hi)).2))
 refine gI (xs:=rr.map V.ref) (fun i σ H'=>∃(nm:List Nat) (o2 o3 o4:Option V),σ=[some (.ref wa),some (.ref D),o2,o3,o4]∧(∀b u,b≠D→H3 b=some u→H' b=some u)∧H' D=some (.lst (vns nm))∧nm.length=N ∧
   ∀(k:Nat) (d:List Nat) (x:Nat),k<i→(MM.cF f N)[k]?=some d→x∈d→nm.getD x 0=k)
  (aG _ none none none rfl ⟨ fun b u _ h=>h,g3 _ _ e2,by simp,fun k d x hk=>absurd hk (Nat.not_lt_zero _)⟩) (fun i σ H' _ h=>by obtain⟨nm,o2,o3,o4,_,h1,_⟩:=h;exact SqL.of (h1 _ _ rD n3.at_)) ?_ ?_
 ·rintro i x σ H4 Tt hx ⟨nm,o2,o3,o4,rfl,b4,e4,l4,hk4⟩ hTt;have hi:i<(MM.cF f N).length:=by have:=(Zj.mp hx).1;lia
  obtain⟨d,xa,hd1,hx1,hx2,hdl⟩:=hlk i hi;have ex:x=.ref xa:=by rw[Zk,hx1]at hx;cases hx;rfl
  subst ex;have gT:=aI hTt (.tup [vn i,.ref xa]);have xaD:xa≠D:=fun z=>rrD (z▸Zg hx1);refine(bH Tt _ rfl (SqT.of aB) rfl ⟨ _,(aN _ rfl _ _ rfl ⟨ rfl,?_⟩)⟩);have b5:∀b u,b≠D→H3 b=some u→(upd H4 Tt (.tup [vn i,.ref xa])) b=some u:=fun b u hb h=>gT _ _ (b4 b u hb h);have e5:=gT _ _ e4;generalize upd H4 Tt (.tup [vn i,.ref xa])=H5 at b5 e5;refine(cG _ rfl xa rfl ⟨_,SqL.of (b5 _ _ xaD hx2)⟩ (fA (xs:=vns d) (fun j σ H'=>∃(nm':List Nat) (o4:Option V),σ=[some (.ref wa),some (.ref D),some (vn i),some (.ref xa),o4]∧H'=upd H5 D (.lst (vns nm'))∧nm'.length=N∧∀y,nm'.getD y 0=if y∈d.take j then i else nm.getD y 0)
   (bH nm _ rfl ?_ l4 (fun y=>by simp)) (fun j σ H' _ h=>by obtain⟨nm',o,_,rfl,_⟩:=h;exact SqL.of (by rw[aL xaD];exact b5 _ _ xaD hx2)) ?_ ?_))
  ·funext b
   by_cases hb':b=D
   ·subst hb';rw[aB];exact e5
   ·rw[aL hb']
  ·rintro j y σ H' hy ⟨nm',o,rfl,rfl,l',hnm⟩;obtain⟨hj,ej⟩:=Zj.mp hy;rw[Zq]at hj;have ex:y=vn d[j]:=by rw[←ej];simp
   subst ex;have hyN:=hdl _ (Zp hj);refine⟨_,(bO rfl _ rfl _ rfl (aG D _ _ (d[j]) rfl ⟨ rfl,(bB aB (vY (by rw[Zq];lia)) (nm'.set d[j] i) _ rfl ⟨ ?_,by rw[List.length_set];exact l',fun z=>?_⟩)⟩))⟩
   ·rw[j6];unfold vns;rw[List.map_set]
   ·have hmem:z∈d.take (j+1)↔z∈d.take j∨z=d[j]:=by rw[List.take_add_one,Zz hj,Zf];simp
    by_cases hz:d[j]=z
    ·subst hz;rw[MM.kP (by lia),if_pos (hmem.mpr (.inr rfl))]
    ·rw[MM.oJ hz,hnm z];by_cases hz2:z∈d.take j
     ·rw[if_pos hz2,if_pos (hmem.mpr (.inl hz2))]
     ·rw[if_neg hz2,if_neg (fun c=>(hmem.mp c).elim hz2 fun c=>hz c.symm)]
  ·rintro σ H' ⟨nm',o,rfl,rfl,l',hnm⟩;rw[Zq,Yv]at hnm;refine(aG nm' _ _ _ rfl ⟨ fun b u hb h=>by rw[aL hb];exact b5 b u hb h,aB,l',fun k d' x hk hkd hx=>?_⟩);rw[hnm x];rcases Xq k i with z | z
   ·have hxd:x∉d:=fun c=>by
     obtain⟨k0,d0,h1,h2,h3⟩:=MM.oE m (hdl x c);have:=h3 k d' hkd hx;have:=h3 i d hd1 c
     lia
    rw[if_neg hxd];exact hk4 k d' x z hkd hx
   ·have:k=i:=by lia
    subst this;rw[hd1]at hkd;cases hkd;rw[if_pos hx]
 ·rintro σ H4 ⟨nm,o2,o3,o4,rfl,b4,e4,l4,hk4⟩;rw[rl]at hk4;refine⟨_,rfl,q D nm H4 (fun b u h=>b4 b u (aJ h hD) (g3 _ _ (g2 _ _ h))) hD e4 l4 fun k d x hkd hx=>hk4 k d x ?_ hkd hx⟩;exact(Zj.mp hkd).1
end K33
namespace L2
open PySem PyProof.Rows
end L2
namespace MM
end MM
namespace K33
open PySem L2 PyProof.Rows
noncomputable def flB(n:Nat)(ts:MM.b9)(os:MM.bU):Bool:=decide (V.int ((n:Int)+((MM.xJ ts os:Nat):Int))=V.int ((ts.length:Nat)+2))
theorem DV{ts:MM.b9}{os:MM.bU}(f:MM.Flat ts os):flB os.length ts os=true:=by
 unfold flB;unfold MM.Flat at f;refine decide_eq_true ?_;congr 1
 lia
def RQ:Sp:=fun vs H Q _=>∃(wa:Addr) (n:Nat) (ts:MM.b9) (os:MM.bU),vs=[.ref wa]∧iW H wa n ts os∧MM.Good ts os∧ts.length≤500∧∀(H':Hp),aW H H'→Q (.bl (flB n ts os)) H'
theorem HW(T:Txt K mg t):bQ P w K mg base CX0 6 t.A2 t.AL ["web"] RQ:=by
 refine T.t9.F.ok FG (fun vs H Q E h=>?_) (fun cdv A outer s H vs Q E hr h=>?_)
 ·obtain⟨wa,n,ts,os,rfl,_⟩:=h;rfl
 obtain⟨wa,n,ts,os,rfl,hw,g,h500,q⟩:=h;obtain⟨tA,oA,h1,h2,h3⟩:=id hw;obtain⟨tr,t1,t2,t3⟩:=id h2;refine⟨_,(aK (bC (iY fK (aX cV (aM oH (pv 0) aH (fun _ _=>rfl)) (aT aO rfl T.cP PySem.boot_len (aA (bR (nW T) hr T.pN bE (aA (pv 0) aC)) aC))) (aX cV (aT aO rfl T.cP PySem.boot_len (aA (aM oH (pv 0) aH (fun _ _=>rfl)) aC)) aH) (bD _)))),?_⟩;refine⟨_,rfl,.inr (.inl (aG wa _ _ _ rfl ⟨ rfl,SqT.of h1,rfl,?_⟩))⟩;refine⟨_,rfl,(aG wa n ts os rfl ⟨ hw,g,h500,fun r rr H' g1 n1=>⟨r,_,(bB rfl (.inl (SqL.of n1.at_)) _ _ rfl ⟨ rfl,?_⟩)⟩⟩)⟩;refine⟨_,rfl,.inr (.inl (aG wa _ _ _ rfl ⟨ rfl,SqT.of (g1 _ _ h1),rfl,?_⟩))⟩;refine⟨tA,_,(bB rfl (.inl (SqL.of (g1 _ _ t1))) _ _ rfl ⟨ rfl,rfl,?_⟩)⟩;have:=q H' g1;unfold flB MM.xJ at this;rw[←n1.len,←t2]at this;simpa only[Zq] using this
structure zF(H:Hp)(p wa ba sa:Addr)(ws:List Int)(bs ss:List (Option Int)):Prop where
 tp:H p=some (.tup [.ref wa,.ref ba,.ref sa])
 w:H wa=some (.lst (ws.map V.int))
 b:H ba=some (.lst (vos bs))
 s:H sa=some (.lst (vos ss))
structure EX(H:Hp)(p ca la:Addr)(cs ls:List Int):Prop where
 tp:H p=some (.tup [.ref ca,.ref la])
 c:H ca=some (.lst (cs.map V.int))
 l:H la=some (.lst (ls.map V.int))
theorem zF.mono{H H':Hp}{p wa ba sa:Addr}{ws:List Int}{bs ss:List (Option Int)}(h:zF H p wa ba sa ws bs ss)(g:aW H H'):zF H' p wa ba sa ws bs ss:=⟨g _ _ h.tp,g _ _ h.w,g _ _ h.b,g _ _ h.s⟩
theorem EX.mono{H H':Hp}{p ca la:Addr}{cs ls:List Int}(h:EX H p ca la cs ls)(g:aW H H'):EX H' p ca la cs ls:=⟨g _ _ h.tp,g _ _ h.c,g _ _ h.l⟩
end K33
namespace L2
open PySem PyProof.Rows NM
theorem zJ{H:Hp}{wa:Addr}{ws:List Way}{rs:List Addr}(e1:H wa=some (.lst (rs.map V.ref)))(e2:rs.length=ws.length)(e3:∀(i:Nat) w,ws[i]?=some w→∃r,rs[i]?=some r∧H r=some (.tup (wv w))){r:Addr}{w:Way}(er:H r=some (.tup (wv w))) :
  iA (upd H wa (.lst (rs.map V.ref++[.ref r]))) wa (ws++[w]):=by
 refine⟨rs++[r],by rw[aB,Zt];rfl,by simp[e2],fun j x hx=>?_⟩;by_cases hj:j<ws.length
 ·rw[Zx hj]at hx;obtain⟨r',q1,q2⟩:=e3 j x hx;exact⟨r',by rw[Zx (by lia)];exact q1,by rw[aL (dB q2 e1 (fun z=>nomatch z))];exact q2⟩
 ·have hj2:j=ws.length:=by
   have:=(Zj.mp hx).1;simp at this;lia
  subst hj2;simp at hx;subst hx;exact⟨r,by rw[←e2];simp,by rw[aL (dB er e1 (fun z=>nomatch z))];exact er⟩
theorem LR{H:Hp}{ws1 ws2:List Way}{rs1 rs2:List Addr}(e2:rs1.length=ws1.length)(e3:∀(i:Nat) w,ws1[i]?=some w→∃r,rs1[i]?=some r∧H r=some (.tup (wv w)))
  (f2:rs2.length=ws2.length) (f3:∀(i:Nat) w,ws2[i]?=some w→∃r,rs2[i]?=some r∧H r=some (.tup (wv w))) {p:Addr}(hp:H p=none) :
  iA (upd H p (.lst (rs1.map V.ref++rs2.map V.ref))) p (ws1++ws2):=by
 have g:=aI hp (.lst (rs1.map V.ref++rs2.map V.ref));refine⟨rs1++rs2,by rw[aB,Zt],by simp[e2,f2],fun j x hx=>?_⟩;by_cases hj:j<ws1.length
 ·rw[Zx hj]at hx;obtain⟨r',q1,q2⟩:=e3 j x hx;exact⟨r',by rw[Zx (by lia)];exact q1,g _ _ q2⟩
 ·rw[Zy (by lia)]at hx;obtain⟨r',q1,q2⟩:=f3 _ x hx;exact⟨r',by rw[Zy (by lia),e2];exact q1,g _ _ q2⟩
theorem iW.mono{H H':Hp}{w:Addr}{n:Nat}{ts:MM.b9}{os:MM.bU}(h:iW H w n ts os)(g:aW H H'):iW H' w n ts os:=g.web h
end L2
namespace K33
open PySem L2 PyProof.Rows NM
noncomputable abbrev LL(ts:MM.b9)(os:MM.bU):List (List Nat):=MM.cF (MM.behind ts os) (2*ts.length)
structure oZ(ts:MM.b9)(os:MM.bU)(nm:List Nat):Prop where
 len:nm.length=2*ts.length
 at_:∀(k:Nat) (d:List Nat) (x:Nat),(LL ts os)[k]?=some d→x∈d→nm.getD x 0=k
theorem oZ.uniq{ts:MM.b9}{os:MM.bU}{nm nm':List Nat}(g:MM.Good ts os)(h:oZ ts os nm)(h':oZ ts os nm'):nm=nm':=by
 have h1:=h.len;have h2:=h'.len;apply Yn;intro i;by_cases hi:i<2*ts.length
 ·obtain⟨k,d,q1,q2,_⟩:=MM.oE g.maps hi;have e1:=h.at_ k d i q1 q2;have e2:=h'.at_ k d i q1 q2;have a1:i<nm.length:=by lia
  have a2:i<nm'.length:=by lia
  simp only[List.getD,Zz a1,Zz a2,Option.getD_some]at e1 e2;rw[Zz a1,Zz a2,e1,e2]
 ·rw[Zr (by lia),Zr (by lia)]
def mF(n:Nat)(ts:MM.b9)(nm:List Nat)(ss:List (Option Int))(e:Nat):Way:=⟨MM.place ts (MM.oth e),n+nm.getD e 0,(ov ss e).getD 1,some ((ov ss e).getD 4),0⟩
def IC(n:Nat)(nm:List Nat)(ws:List Int)(bs:List (Option Int))(e:Nat):Way:=⟨n+nm.getD e 0,n+nm.getD (MM.oth e) 0,0,ov bs (e / 2),at0 ws (e / 2)⟩
def m4(n:Nat)(ts:MM.b9)(nm:List Nat)(ws:List Int)(bs ss:List (Option Int)):List Way:=(List.range (2*ts.length)).map (mF n ts nm ss)++(List.range (2*ts.length)).map (IC n nm ws bs)
def qQ(ll:List (List Nat))(outer k:Nat):Int:=(if k=outer then -4 else 4)-2*((ll.getD k []).length:Int)
def kC(n:Nat)(ll:List (List Nat))(outer:Nat):List Int:=List.replicate n 4++(List.range ll.length).map (qQ ll outer)
theorem qL{α:Type}(f:Nat→α)(i:Nat):(List.range (i+1)).map f=(List.range i).map f++[f i]:=by rw[List.range_succ,Zt];rfl
def MI:Sp:=fun vs H Q _=>∃(wa sa:Addr) (n:Nat) (ts:MM.b9) (os:MM.bU) (ss:List (Option Int)),vs=[.ref wa,.ref sa]∧iW H wa n ts os∧MM.Good ts os∧ts.length≤40∧H sa=some (.lst (vos ss))∧ss.length=2*ts.length ∧
 ∀(r:Addr) (nm:List Nat) (H':Hp),aW H H'→H r=none→oZ ts os nm→iA H' r ((List.range (2*ts.length)).map (mF n ts nm ss))→Q (.ref r) H'
theorem KD(T:Txt K mg t):bQ P w K mg base CX0 7 t.p9 t.pY ["web","sets"] MI:=by
 refine T.pU.F.ok m8 (fun vs H Q E h=>?_) (fun cdv A outer s H vs Q E hr h=>?_)
 ·obtain⟨wa,sa,n,ts,os,ss,rfl,_⟩:=h;rfl
 obtain⟨wa,sa,n,ts,os,ss,rfl,hWeb,g,h40,hS,hsl,q⟩:=h;have nd:=m8.nd;refine⟨_,(aE (a7 2 nd (bS aC))
  (aE (cY PassesOwn.never rfl (fN rfl T.dA (aA (bR (xE T) hr T.jR bE (aA (pv 0) aC)) aC)) (dU rfl (aY (aQ (i:=3) nd rfl (Or.inl rfl)) (aY (aQ (i:=4) nd rfl (Or.inl rfl)) cH))) (aE (a7 5 nd (nR (aZ nV (aM aV (pv 1) (pv 3) (fun _ _=>rfl)) eP (bD _)) aH (aM aV (pv 1) (pv 3) (fun _ _=>rfl))))
  (aE (a7 6 nd (nR (aZ nV (aM aV (pv 1) (pv 3) (fun _ _=>rfl)) eP (bD _)) (cE (v:=.int 4) rfl T.cW ⟨_,rfl⟩) (aM aV (pv 1) (pv 3) (fun _ _=>rfl))))
  (aK (bN (kO mAp cD (pv 2) (aA (bX (aA (bR (HV T) hr T.uA bE (aA (pv 0) (aA (pv 3) aC))) (aA (aX cV (aM aU (pv 0) aH (fun _ _=>rfl)) (pv 4)) (aA (pv 5) (aA (pv 6) (aA aH aC)))))) aC)))))))
  (aK (bC (pv 2))))),?_⟩
 refine⟨(by show 0≤ZW;decide),fun wl hwl=>?_⟩;have g0:=aI hwl (.lst []);refine⟨_,rfl,(aG wa n ts os rfl ⟨ hWeb.mono g0,g,by lia,fun r nm H1 g1 hr0 er hnl hnm=>?_⟩)⟩;have num:oZ ts os nm:=⟨hnl,hnm⟩
 have nrl:r≠wl:=(aJ aB hr0).symm;have w1:H1 wl=some (.lst []):=g1 _ _ aB;refine⟨r,rfl,⟨_,SqL.of er⟩,gI (xs:=vns nm)
  (fun i σ H'=>iA H' wl ((List.range i).map (mF n ts nm ss))∧aW H H'∧H' r=some (.lst (vns nm))∧∃o3 o4 o5 o6:Option V,σ=[some (.ref wa),some (.ref sa),some (.ref wl),o3,o4,o5,o6])
  ⟨⟨[],w1,rfl,fun i w h=>by simp at h⟩,g0.trans g1,er,_,_,_,_,rfl⟩ (fun i σ H' _ h=>SqL.of h.2.2.1) ?_ ?_⟩
 ·rintro i x σ H2 Tp hx ⟨⟨rs,e1,e2,e3⟩,g2,er2,o3,o4,o5,o6,rfl⟩ hTp;obtain⟨hi,rfl⟩:=LV hx;have hi':i<2*ts.length:=by lia
  have g3:=aI hTp (.tup [vn i,vn (nm.getD i 0)]);have g23:=g2.trans g3;have e1':=g3 _ _ e1;have eS:=g23 _ _ hS;have hWeb3:=hWeb.mono g23;obtain⟨tA,oA,hw,_,_⟩:=id hWeb3;refine(bH Tp _ rfl (SqT.of aB) rfl ⟨ _,(aN _ rfl _ _ rfl ⟨ rfl,?_⟩)⟩);have fin:∀(lo hi:Int),lo=(ov ss i).getD 1→hi=(ov ss i).getD 4→∀(p:Addr),(upd H2 Tp (.tup [vn i,vn (nm.getD i 0)])) p=none →
    iA (upd (upd (upd H2 Tp (.tup [vn i,vn (nm.getD i 0)])) p (.tup [vn (MM.place ts (MM.oth i)),.int ((n:Int)+((nm.getD i 0:Nat):Int)),.int lo,.int hi,.int 0])) wl (.lst (rs.map V.ref++[.ref p]))) wl ((List.range (i+1)).map (mF n ts nm ss)) ∧
    aW H (upd (upd (upd H2 Tp (.tup [vn i,vn (nm.getD i 0)])) p (.tup [vn (MM.place ts (MM.oth i)),.int ((n:Int)+((nm.getD i 0:Nat):Int)),.int lo,.int hi,.int 0])) wl (.lst (rs.map V.ref++[.ref p]))) ∧
    (upd (upd (upd H2 Tp (.tup [vn i,vn (nm.getD i 0)])) p (.tup [vn (MM.place ts (MM.oth i)),.int ((n:Int)+((nm.getD i 0:Nat):Int)),.int lo,.int hi,.int 0])) wl (.lst (rs.map V.ref++[.ref p]))) r=some (.lst (vns nm)):=by
   intro lo hi hlo hhi p hp;have g4:=aI hp (.tup [vn (MM.place ts (MM.oth i)),.int ((n:Int)+((nm.getD i 0:Nat):Int)),.int lo,.int hi,.int 0]);refine⟨?_,fun b o h=>by rw[aL (aJ h hwl)];exact g4 _ _ (g23 _ _ h),by rw[aL nrl];exact g4 _ _ (g3 _ _ er2)⟩;rw[qL];refine zJ (g4 _ _ e1') e2 (fun j w hj=>by obtain⟨r',q1,q2⟩:=e3 j w hj;exact⟨r',q1,g4 _ _ (g3 _ _ q2)⟩) ?_;rw[aB];unfold wv mF;rw[←hlo,←hhi];simp only[vo,vn,Int.natCast_add]
  rcases ho:ov ss i with _ | c
  ·have eC:atI (vos ss) ((i:Nat):Int)=some .non:=by rw[GT (j:=i) (by lia) rfl,ho];rfl
   refine⟨_,rfl,_,rfl,(aG sa _ _ _ rfl ⟨ rfl,(aR (SqL.of eS) eC rfl _ rfl (eV (by rfl) ?_))⟩)⟩;refine⟨_,rfl,_,rfl,(aG sa _ _ _ rfl ⟨ rfl,(aR (SqL.of eS) eC rfl _ rfl (eV (by rfl) ?_))⟩)⟩;refine(bW _ rfl (.inl ⟨rfl,_,SqL.of e1'⟩) _ rfl ⟨ _,rfl,(aP wa n ts os i (aR rfl hWeb3 hi' _ rfl (aG wa _ _ _ rfl (aR rfl (SqT.of hw) rfl _ rfl ⟨ _,(bW _ rfl rfl _ rfl ⟨ _,rfl,(by show 5≤ZW;decide),fun p hp=>?_⟩)⟩))))⟩);obtain⟨f1,f2,f3⟩:=fin 1 4 (by rw[ho];rfl) (by rw[ho];rfl) p hp;exact(bV wl _ _ rfl rfl (bG (aI hp _ _ _ e1') (by rw[Zq,e2];simp;exact Yt hi' (Yr (by lia:2*ts.length≤80) (by decide))) f1 f2 f3 ⟨ _,_,_,_,rfl⟩))
  ·have eC:atI (vos ss) ((i:Nat):Int)=some (.int c):=by rw[GT (j:=i) (by lia) rfl,ho];rfl
   refine⟨_,rfl,_,rfl,(aG sa _ _ _ rfl ⟨ rfl,(aR (SqL.of eS) eC rfl _ rfl (eZ (by rfl) ⟨_,rfl,_,rfl,(aG sa _ _ _ rfl ⟨ rfl,SqL.of eS,eC,?_⟩)⟩))⟩)⟩;refine⟨_,rfl,_,rfl,(aG sa _ _ _ rfl ⟨ rfl,(aR (SqL.of eS) eC rfl _ rfl (eZ (by rfl) ⟨_,rfl,_,rfl,(aG sa _ _ _ rfl ⟨ rfl,SqL.of eS,eC,?_⟩)⟩))⟩)⟩;refine(bW _ rfl (.inl ⟨rfl,_,SqL.of e1'⟩) _ rfl ⟨ _,rfl,(aP wa n ts os i (aR rfl hWeb3 hi' _ rfl (aG wa _ _ _ rfl (aR rfl (SqT.of hw) rfl _ rfl ⟨ _,(bW _ rfl rfl _ rfl ⟨ _,rfl,(by show 5≤ZW;decide),fun p hp=>?_⟩)⟩))))⟩);obtain⟨f1,f2,f3⟩:=fin c c (by rw[ho];rfl) (by rw[ho];rfl) p hp;exact(bV wl _ _ rfl rfl (bG (aI hp _ _ _ e1') (by rw[Zq,e2];simp;exact Yt hi' (Yr (by lia:2*ts.length≤80) (by decide))) f1 f2 f3 ⟨ _,_,_,_,rfl⟩))
 ·rintro σ H2 ⟨hw2,g2,er2,o3,o4,o5,o6,rfl⟩;rw[Zq,hnl]at hw2;exact⟨_,rfl,q wl nm H2 g2 hwl num hw2⟩
def RN:Sp:=fun vs H Q _=>∃(wa p wA bA sA:Addr) (n:Nat) (ts:MM.b9) (os:MM.bU) (ws:List Int) (bs ss:List (Option Int)),vs=[.ref wa,.ref p]∧iW H wa n ts os∧MM.Good ts os∧ts.length≤40∧zF H p wA bA sA ws bs ss∧ws.length=ts.length∧bs.length=ts.length ∧
 ∀(r:Addr) (nm:List Nat) (H':Hp),aW H H'→H r=none→oZ ts os nm→iA H' r ((List.range (2*ts.length)).map (IC n nm ws bs))→Q (.ref r) H'
theorem P8(T:Txt K mg t):bQ P w K mg base CX0 7 t.vF t.u6 ["web","wishes"] RN:=by
 refine T.uX.F.ok rL (fun vs H Q E h=>?_) (fun cdv A outer s H vs Q E hr h=>?_)
 ·obtain⟨wa,p,wA,bA,sA,n,ts,os,ws,bs,ss,rfl,_⟩:=h;rfl
 obtain⟨wa,p,wA,bA,sA,n,ts,os,ws,bs,ss,rfl,hWeb,g,h40,hW,hwl',hbl,q⟩:=h;have nd:=rL.nd;refine⟨_,(aE (a7 2 nd (aM aU (pv 1) aH (fun _ _=>rfl)))
  (aE (a7 3 nd (aM aU (pv 1) aH (fun _ _=>rfl)))
  (aE (a7 4 nd (bR (xE T) hr T.jR bE (aA (pv 0) aC)))
  (aE (a7 5 nd (bS aC))
  (aE (cY PassesOwn.never rfl (fN rfl T.dA (aA (pv 4) aC)) (dU rfl (aY (aQ (i:=6) nd rfl (Or.inl rfl)) (aY (aQ (i:=7) nd rfl (Or.inl rfl)) cH))) (aE (a7 8 nd (aM aV (pv 4) (bR (r8 T) hr T.iQ bE (aA (pv 6) aC)) (fun _ _=>rfl)))
  (aK (bN (kO mAp cD (pv 5) (aA (bX (aA (aX cV (aM aU (pv 0) aH (fun _ _=>rfl)) (pv 7)) (aA (aX cV (aM aU (pv 0) aH (fun _ _=>rfl)) (pv 8)) (aA aH (aA (aM aV (pv 3) (aX eQ (pv 6) aH) (fun _ _=>rfl)) (aA (aM aV (pv 2) (aX eQ (pv 6) aH) (fun _ _=>rfl)) aC)))))) aC))))))
  (aK (bC (pv 5)))))))),?_⟩
 refine⟨_,rfl,(aG p _ _ _ rfl ⟨ rfl,SqT.of hW.tp,rfl,?_⟩)⟩;refine⟨_,rfl,(aG p _ _ _ rfl ⟨ rfl,SqT.of hW.tp,rfl,?_⟩)⟩;refine⟨_,rfl,(aG wa n ts os rfl ⟨ hWeb,g,by lia,fun r nm H1 g1 hr0 er hnl hnm=>?_⟩)⟩;have num:oZ ts os nm:=⟨hnl,hnm⟩
 refine⟨(by show 0≤ZW;decide),fun wl hwl=>?_⟩;have g0:=g1.trans (aI hwl (.lst []));have er1:=aI hwl (.lst []) _ _ er;have nrl:r≠wl:=aJ er hwl;have hwl0:H wl=none:=g1.free hwl;refine(cG _ rfl r rfl ⟨_,SqL.of er1⟩ (gI (xs:=vns nm)
  (fun i σ H'=>iA H' wl ((List.range i).map (IC n nm ws bs))∧aW H H'∧H' r=some (.lst (vns nm))∧∃o6 o7 o8:Option V,σ=[some (.ref wa),some (.ref p),some (.ref wA),some (.ref bA),some (.ref r),some (.ref wl),o6,o7,o8])
  ⟨⟨[],aB,rfl,fun i w h=>by simp at h⟩,g0,er1,_,_,_,rfl⟩ (fun i σ H' _ h=>SqL.of h.2.2.1) ?_ ?_))
 ·rintro i x σ H2 Tp hx ⟨⟨rs,e1,e2,e3⟩,g2,er2,o6,o7,o8,rfl⟩ hTp;obtain⟨hi,rfl⟩:=LV hx;have hi':i<2*ts.length:=by lia
  have ho':MM.oth i<2*ts.length:=MM.fR hi';have g3:=aI hTp (.tup [vn i,vn (nm.getD i 0)]);have g23:=g2.trans g3;have e1':=g3 _ _ e1;have er3:=g3 _ _ er2;have hW3:=hW.mono g23;obtain⟨tA,oA,hw,_,_⟩:=id (hWeb.mono g23);have ei2:((i:Nat):Int) / 2=((i / 2:Nat):Int):=by lia
  refine(bH Tp _ rfl (SqT.of aB) rfl ⟨ _,(aN _ rfl _ _ rfl ⟨ rfl,?_⟩)⟩);refine⟨_,(bO rfl _ rfl i rfl (aG r _ _ _ rfl ⟨ rfl,SqL.of er3,oT (j:=MM.oth i) (by lia) rfl,?_⟩))⟩;refine(bW _ rfl (.inl ⟨rfl,_,SqL.of e1'⟩) _ rfl (aG wa _ _ _ rfl (aR rfl (SqT.of hw) rfl _ rfl ⟨ _,(bW _ rfl rfl _ rfl (aG wa _ _ _ rfl (aR rfl (SqT.of hw) rfl _ rfl ⟨ _,(bW _ rfl rfl _ rfl (aN _ rfl _ _ rfl ⟨ rfl,⟨by decide,by decide⟩,(aG bA _ _ _ rfl (aR rfl (SqL.of hW3.b) (GT (j:=i / 2) (by lia) ei2) _ rfl (aN _ rfl _ _ rfl ⟨ rfl,⟨by decide,by decide⟩,(aG wA _ _ _ rfl ⟨ rfl,SqL.of hW3.w,dF (j:=i / 2) (by lia) ei2,(by show 5≤ZW;decide),fun pp hpp=>?_⟩)⟩)))⟩))⟩)))⟩)));have g4:=aI hpp (.tup [.int ((n:Int)+((nm.getD i 0:Nat):Int)),.int ((n:Int)+((nm.getD (MM.oth i) 0:Nat):Int)),.int 0,vo (ov bs (i / 2)),.int (at0 ws (i / 2))]);refine(bV wl _ _ rfl rfl (bG (g4 _ _ e1') (by rw[Zq,e2];simp;exact Yt hi' (Yr (by lia:2*ts.length≤80) (by decide))) ?_ (fun b o h=>by rw[aL (aJ h hwl0)];exact g4 _ _ (g23 _ _ h)) (by rw[aL nrl];exact g4 _ _ er3) ⟨ _,_,_,rfl⟩));rw[qL];refine zJ (g4 _ _ e1') e2 (fun j w hj=>by obtain⟨r',q1,q2⟩:=e3 j w hj;exact⟨r',q1,g4 _ _ (g3 _ _ q2)⟩) ?_;rw[aB];unfold wv IC;simp only[vn,Int.natCast_add]
 ·rintro σ H2 ⟨hw2,g2,er2,o6,o7,o8,rfl⟩;rw[Zq,hnl]at hw2;exact⟨_,rfl,q wl nm H2 g2 hwl0 num hw2⟩
def L6:Sp:=fun vs H Q _=>∃(k o:Nat),vs=[vn k,vn o]∧Q (.int (if k=o then -4 else 4)) H
theorem KA(T:Txt K mg t):bQ P w K mg base CX0 1 t.sY t.sQ ["number","outer"] L6:=by
 refine T.sN.F.ok y8 (fun vs H Q E h=>?_) (fun cdv A outer s H vs Q E hr h=>?_)
 ·obtain⟨k,o,rfl,_⟩:=h;rfl
 obtain⟨k,o,rfl,q⟩:=h;refine⟨_,(aK (bC (nR (aZ fK (pv 0) (pv 1) (bD _)) (mO iS (cE (v:=.int 4) rfl T.cW ⟨_,rfl⟩)) (cE (v:=.int 4) rfl T.cW ⟨_,rfl⟩)))),?_⟩;refine(cG _ rfl _ rfl rfl ⟨ _,rfl,eY (fun c=>?_) (fun c=>?_)⟩)
 ·have:k=o:=by
   have c':V.int (k:Int)=V.int (o:Int):=of_decide_eq_true c;have:=V.int.inj c'
   lia
  rw[if_pos this]at q;exact⟨_,rfl,q⟩
 ·have:¬k=o:=fun z=>c (by subst z;exact decide_eq_true rfl);rw[if_neg this]at q;exact q
def O4:Sp:=fun vs H Q _=>∃(wa p wA bA sA:Addr) (n o:Nat) (ts:MM.b9) (os:MM.bU) (ws:List Int) (bs ss:List (Option Int)),vs=[.ref wa,vn o,.ref p]∧iW H wa n ts os∧MM.Good ts os∧ts.length≤40∧n≤40∧o<(LL ts os).length∧zF H p wA bA sA ws bs ss∧ws.length=ts.length∧bs.length=ts.length∧ss.length=2*ts.length ∧
 ∀(r na wl:Addr) (nm:List Nat) (H':Hp),aW H H'→H na=none→H wl=none→na≠wl→oZ ts os nm→lU H' r na wl (kC n (LL ts os) o) (m4 n ts nm ws bs ss)→Q (.ref r) H'
theorem NH(T:Txt K mg t):bQ P w K mg base CX0 8 t.ES t.EC ["web","outer","wishes"] O4:=by
 refine T.DZ.F.ok zO (fun vs H Q E h=>?_) (fun cdv A outer s H vs Q E hr h=>?_)
 ·obtain⟨wa,p,wA,bA,sA,n,o,ts,os,ws,bs,ss,rfl,_⟩:=h;rfl
 obtain⟨wa,p,wA,bA,sA,n,o,ts,os,ws,bs,ss,rfl,hWeb,g,h40,hn40,ho,hW,hwl',hbl,hsl,q⟩:=h;have nd:=zO.nd;have nd_place:(["place"]:List Str).Nodup:=by decide
 have hLN:(LL ts os).length≤2*ts.length:=by
  have:=MM.BR g.maps _ (List.range (2*ts.length)) (Nat.le_refl _) (fun z hz=>Zs.mp hz);rw[Yj]at this;exact this
 refine⟨_,(aE (cN (i:=3) nd rfl (Or.inl rfl)  (N':=["place"]) (js:=[none]) rfl (dI rfl T.eA (aA (aM aU (pv 0) aH (fun _ _=>rfl)) aC)) (fun _ _ _ _ _=>(aQ (i:=0) nd_place rfl (Or.inl rfl))) (fun _ _ _ _ _=>dN) (fun _ _ _ _ _=>(cE (v:=.int 4) rfl T.cW ⟨_,rfl⟩)))
  (aE (cY PassesOwn.never rfl (fN rfl T.dA (aA (bR (nW T) hr T.pN bE (aA (pv 0) aC)) aC)) (dU rfl (aY (aQ (i:=4) nd rfl (Or.inl rfl)) (aY (aQ (i:=5) nd rfl (Or.inl rfl)) cH))) (aK (bN (kO mAp cD (pv 3) (aA (aX iT (bR (KA T) hr T.sN bE (aA (pv 4) (aA (pv 1) aC))) (aX dW aH (aT aO rfl T.cP PySem.boot_len (aA (pv 5) aC)))) aC)))))
  (aK (bC (bX (aA (pv 3) (aA (aX tW (bR (KD T) hr T.pU bE (aA (pv 0) (aA (aM aU (pv 2) aH (fun _ _=>rfl)) aC))) (bR (P8 T) hr T.uX bE (aA (pv 0) (aA (pv 2) aC)))) aC))))))),?_⟩
 obtain⟨tA,oA,hw,_,_⟩:=id hWeb;refine⟨_,rfl,(aG wa _ _ _ rfl (aR rfl (SqT.of hw) rfl _ rfl ⟨ by lia,by lia,fun na hna=>?_⟩))⟩;refine fG ((n:Int)).toNat (fun _=>.int 4) hna (by lia) (fun i H' hi _=>hi) (fun H' _=>Nat.le_refl _) ?_ ?_
 ·rintro i H' x H'' k hi g2 ⟨rfl,rfl⟩ hk;exact⟨(Fills.refl _).set _ rfl,hk _ (aW.refl _)⟩
 intro H1 g1 ena;rw[show(List.range ((n:Int)).toNat).map (fun _=>V.int 4)=(List.replicate n (4:Int)).map V.int by
  have:((n:Int)).toNat=n:=by lia
  rw[this];apply Yn;intro i;by_cases h:i<n
  ·simp[h]
  ·simp[h]]at ena
 dsimp only[jN];refine⟨_,rfl,(aG wa n ts os rfl ⟨ hWeb.mono g1,g,by lia,fun r rr H2 g2 nos=>?_⟩)⟩;have g12:=g1.trans g2;have ena2:=g2 _ _ ena;have nrr:na≠r:=fun z=>by have:=nos.new;rw[←z,ena]at this;cases this
 have nrx:∀x∈rr,x≠na:=fun x hx z=>by have:=nos.news x hx;rw[z,ena]at this;cases this
 refine⟨r,rfl,⟨_,SqL.of nos.at_⟩,gI (xs:=rr.map V.ref)
  (fun i σ H'=>aW H H'∧H' r=some (.lst (rr.map V.ref))∧(∀(j:Nat) l,(LL ts os)[j]?=some l→∃x,rr[j]?=some x∧H' x=some (.lst (vns l)))∧H' na=some (.lst ((List.replicate n (4:Int)++(List.range i).map (qQ (LL ts os) o)).map V.int))∧∃o4 o5:Option V,σ=[some (.ref wa),some (vn o),some (.ref p),some (.ref na),o4,o5])
  ⟨g12,nos.at_,nos.row,by simpa using ena2,_,_,rfl⟩ (fun i σ H' _ h=>SqL.of h.2.1) ?_ ?_⟩
 ·rintro i x σ H3 Tp hx ⟨g3,er3,hrow,en3,o4,o5,rfl⟩ hTp;obtain⟨y,hy,rfl⟩:=vU hx;have hil:i<(LL ts os).length:=by rw[←nos.len];exact(Zj.mp hy).1
  obtain⟨y',hy',ey⟩:=hrow i _ (Zz hil);rw[hy]at hy';cases hy';have g4:=aI hTp (.tup [vn i,.ref y]);have en4:=g4 _ _ en3;have ey4:=g4 _ _ ey;refine(bH Tp _ rfl (SqT.of aB) rfl ⟨ _,(aN _ rfl _ _ rfl ⟨ rfl,?_⟩)⟩);refine(bW _ rfl (.inl ⟨rfl,_,SqL.of en4⟩) _ rfl (aN _ rfl i o rfl (aN _ rfl y _ rfl (cM (.inl (SqL.of ey4)) _ _ rfl rfl (cM (.inl ⟨by decide,by decide⟩) _ _ rfl rfl (bV na _ _ rfl rfl ⟨ en4,?_,?_⟩))))))
  ·simp;exact Yt (by lia:n+i<200) (by decide)
  refine⟨fun b o' h=>by rw[aL (aJ h hna)];exact g4 _ _ (g3 _ _ h),by rw[aL nrr.symm];exact g4 _ _ er3,fun j l hl=>?_,?_,_,_,rfl⟩
  ·obtain⟨x,q1,q2⟩:=hrow j l hl;exact⟨x,q1,by rw[aL (nrx x (Zg q1))];exact g4 _ _ q2⟩
  ·rw[aB,qL,←Yb,Zt (l₂:=[qQ (LL ts os) o i])];have e:qQ (LL ts os) o i=(if i=o then -4 else 4)-2*(((vns (LL ts os)[i]).length:Nat):Int):=by
    unfold qQ;simp[List.getD,hil]
   rw[e];rfl
 rintro σ H3 ⟨g3,er3,hrow,en3,o4,o5,rfl⟩;rw[Zq,nos.len]at en3;have hW3:=hW.mono g3;refine⟨_,(bO rfl _ rfl _ rfl (aG p _ _ _ rfl ⟨ rfl,SqT.of hW3.tp,rfl,(aP wa sA n ts os (eB ss rfl (hWeb.mono g3) g h40 ⟨ hW3.s,hsl,fun c1 nm H4 g4 hc1 num hc=>?_⟩))⟩))⟩;have g34:=g3.trans g4;refine⟨_,rfl,_,rfl,(aP wa p wA bA sA (aP n ts os ws bs (eB ss rfl (hWeb.mono g34) g h40 ⟨ hW.mono g34,hwl',hbl,fun c2 nm' H5 g5 hc2 num' hl=>?_⟩)))⟩;have enm:=oZ.uniq g num num';subst enm;obtain⟨rs1,a1,a2,a3⟩:=hc.mono g5;obtain⟨rs2,b1,b2,b3⟩:=hl;refine(aG c1 c2 _ _ rfl ⟨ rfl,a1,b1,by rw[Zq,Zq,a2,b2];simp;exact Yr (by lia:2*ts.length+2*ts.length≤200) (by decide),fun wl hwl=>?_⟩);have g6:=aI hwl (.lst (rs1.map V.ref++rs2.map V.ref));have g35:=g4.trans g5;refine⟨(by show 2≤ZW;decide),fun r' hr'=>?_⟩;have g7:=aI hr' (.tup [.ref na,.ref wl]);have en6:=g6 _ _ (g35 _ _ en3);refine q r' na wl nm _ (((g3.trans g35).trans g6).trans g7) hna ((g3.trans g35).free hwl) (aJ (g35 _ _ en3) hwl) num ⟨aB,g7 _ _ en6,iA.mono (LR a2 a3 b2 b3 hwl) g7⟩
end K33
namespace AW
open MM
def cT(ts:b9):Ts:=ts.map fun t=>((t.1:Int),(t.2:Int))
def cO(os:bU):Os:=os.map fun o=>o.map fun n:Nat=>(n:Int)
theorem hV(ts:b9):(cT ts).length=ts.length:=Zq _
theorem B9(os:bU):(cO os).length=os.length:=Zq _
theorem C9{ts:b9}{e:Nat}(h:e<2*ts.length):plc (cT ts) e=(place ts e:Int):=by
 have hi:e / 2<ts.length:=by lia
 unfold plc place cT;rw[Zk,Zz hi,Zv,Zz hi];simp only[Option.map_some,Option.getD_some];split<;>rfl
theorem WB{ts:b9}{os:bU}(g:Good ts os):InW os.length (cT ts):=fun t ht=>by
 obtain⟨u,hu,rfl⟩:=Zh.mp ht;obtain⟨i,hi,rfl⟩:=Yy.mp hu;have a:=(g.g.has (2*i) (by lia)).1;have b:=(g.g.has (2*i+1) (by lia)).1;have e1:place ts (2*i)=ts[i].1:=by
  unfold place;rw[if_pos (by lia),show 2*i / 2=i by lia,Zv,Zz hi];rfl
 have e2:place ts (2*i+1)=ts[i].2:=by
  unfold place;rw[if_neg (by lia),show(2*i+1) / 2=i by lia,Zv,Zz hi];rfl
 rw[e1]at a;rw[e2]at b;exact⟨⟨by show(0:Int)≤(ts[i].1:Int);lia,by show(ts[i].1:Int)<_;lia⟩,by show(0:Int)≤(ts[i].2:Int);lia,by show(ts[i].2:Int)<_;lia⟩
theorem cast_inj:∀a b:Nat,(a:Int)=(b:Int)→a=b:=fun a b h=>by lia
theorem VE{ts:b9}{os:bU}(g:Good ts os):Fit (cT ts) (cO os):=fun i o ho=>by
 unfold cO at ho;rw[Zk]at ho;obtain⟨l,hl,rfl⟩:=Xz.mp ho;have er:row os i=l:=by unfold row;rw[Zv,hl];rfl
 refine⟨?_,xB (pI cast_inj (er▸g.g.nd i)) (jA _ _) fun a=>?_⟩
 ·have:=g.g.four i;rw[er]at this;rw[Zq];exact this
 rw[jK,hV,Zh];constructor
 ·rintro⟨e,he,rfl⟩;have:=g.g.ends i e (er.symm▸he);exact⟨⟨by lia,by lia⟩,by rw[Int.toNat_natCast,C9 this.1,this.2]⟩
 ·rintro⟨⟨h0,h1⟩,h2⟩;obtain⟨e,rfl⟩:=Xv h0;have he:e<2*ts.length:=by lia
  rw[Int.toNat_natCast,C9 he]at h2;have hp:place ts e=i:=by lia
  have:=(g.g.has e he).2;rw[hp,er]at this;exact⟨e,this,rfl⟩
theorem NQ:∀{m:Int}{ts:Ts},InW m ts→∃tn:b9,ts=cT tn
 |_,[],_=>⟨[],rfl⟩
 |m,t::ts,h=>by
  obtain⟨tn,rfl⟩:=NQ (ts:=ts) fun x hx=>h x (Zw _ hx);obtain⟨⟨a,_⟩,b,_⟩:=h t Zd;exact⟨(t.1.toNat,t.2.toNat)::tn,by show t::cT tn=((t.1.toNat:Int),(t.2.toNat:Int))::cT tn;rw[Int.toNat_of_nonneg a,Int.toNat_of_nonneg b]⟩
theorem HY:∀{o:List Int},(∀e∈o,0≤e)→∃l:List Nat,o=l.map fun n:Nat=>(n:Int)
 |[],_=>⟨[],rfl⟩
 |a::o,h=>by
  obtain⟨l,rfl⟩:=HY (o:=o) fun e he=>h e (Zw _ he);exact⟨a.toNat::l,by rw[List.map_cons,Int.toNat_of_nonneg (h a Zd)]⟩
theorem NR:∀{os:Os},(∀o∈os,∀e∈o,0≤e)→∃on:bU,os=cO on
 |[],_=>⟨[],rfl⟩
 |o::os,h=>by
  obtain⟨on,rfl⟩:=NR (os:=os) fun x hx=>h x (Zw _ hx);obtain⟨l,rfl⟩:=HY (h o Zd);exact⟨l::on,rfl⟩
theorem QK{m:Int}{ts:Ts}(h1:1≤ts.length)(hw:InW m ts)(w:yX m ts){p:Int}(h0:0≤p)(hp:p<m):∃t∈ts,t.1=p∨t.2=p:=by
 apply ZS;intro z;have no:∀t∈ts,t.1≠p∧t.2≠p:=fun t ht=>⟨fun e=>z ⟨t,ht,.inl e⟩,fun e=>z ⟨t,ht,.inr e⟩⟩
 have r:=w p h0 hp;by_cases e:p=0
 ·subst e;have only:∀q,Rch ts q→q=0:=fun q hq=>by
   induction hq with
   |zero=>rfl
   |fwd ht _ ih=>exact absurd ih (no _ ht).1
   |bwd ht _ ih=>exact absurd ih (no _ ht).2
  have ht:=Zp (l:=ts) (n:=0) (by lia);have hin:=hw _ ht;exact(no _ ht).1 (only _ (w _ hin.1.1 hin.1.2))
 ·cases r with
  |zero=>exact e rfl
  |fwd ht _=>exact(no _ ht).2 rfl
  |bwd ht _=>exact(no _ ht).1 rfl
theorem HZ{m:Int}{ts:Ts}{os:Os}(h:pB m ts os):∃(tn:b9) (on:bU),ts=cT tn∧os=cO on∧m=(on.length:Int)∧Good tn on:=by
 obtain⟨⟨⟨m1,m2⟩,t1,t2⟩,hw,hl,hf,wh⟩:=h;obtain⟨tn,rfl⟩:=NQ hw;obtain⟨on,rfl⟩:=NR (os:=os) fun o ho e he=>by
  obtain⟨i,hi,rfl⟩:=Yy.mp ho;exact(jK.mp ((hf i _ (Zz hi)).2.mem_iff.mp he)).1.1
 rw[B9]at hl;rw[hV]at t1 t2;subst hl;have rw_:∀p,p<on.length→∃l,on[p]?=some l∧row on p=l∧(cO on)[p]?=some (l.map fun n:Nat=>(n:Int)):=fun p hp=>⟨on[p],Zz hp,by unfold row;rw[Zv,Zz hp];rfl,by unfold cO;rw[Zk,Zz hp];rfl⟩
 have off:∀p,¬p<on.length→row on p=[]:=fun p hp=>by unfold row;rw[Zv,Zr (by lia)];rfl
 have mem:∀p e,p<on.length→(e∈row on p↔e<2*tn.length∧place tn e=p):=fun p e hp=>by
  obtain⟨l,a,b,c⟩:=rw_ p hp;have:=(hf p _ c).2.mem_iff (a:=(e:Int));rw[jK,hV,Int.toNat_natCast,Zh]at this;rw[b];constructor
  ·intro he;obtain⟨⟨_,q1⟩,q2⟩:=this.mp ⟨e,he,rfl⟩;have he2:e<2*tn.length:=by lia
   rw[C9 he2]at q2;exact⟨he2,by lia⟩
  ·rintro⟨q1,q2⟩;obtain⟨e',he',ee⟩:=this.mpr ⟨⟨by lia,by lia⟩,by rw[C9 q1,q2]⟩;have:e'=e:=by lia
   exact this▸he'
 have plin:∀e,e<2*tn.length→place tn e<on.length:=fun e he=>by
  have:=M1 hw (e:=(e:Int)) (by lia) (by rw[hV];lia);rw[Int.toNat_natCast,C9 he]at this
  lia
 refine⟨tn,on,rfl,rfl,rfl,⟨⟨fun p e he=>?_,fun e he=>⟨plin e he,(mem _ _ (plin e he)).mpr ⟨he,rfl⟩⟩,fun p=>?_,fun p hp=>?_,fun p=>?_⟩,t1⟩⟩
 ·by_cases hp:p<on.length
  ·exact(mem p e hp).mp he
  ·rw[off p hp]at he;simp at he
 ·by_cases hp:p<on.length
  ·obtain⟨l,a,b,c⟩:=rw_ p hp;have nd:=(hf p _ c).2.nodup_iff.mpr (jA _ _);rw[b];exact(List.pairwise_map.mp nd).imp fun h e=>h (by rw[e])
  ·rw[off p hp];exact List.nodup_nil
 ·obtain⟨t,ht,hh⟩:=QK (by rw[hV];exact t1) hw wh (p:=(p:Int)) (by lia) (by lia);obtain⟨u,hu,rfl⟩:=Zh.mp ht;obtain⟨i,hi,rfl⟩:=Yy.mp hu;intro z;rcases hh with hh | hh
  ·have:2*i∈row on p:=(mem p _ hp).mpr ⟨by lia,by
    have hh:(tn[i].1:Int)=p:=hh;unfold place;rw[if_pos (by lia),show 2*i / 2=i by lia,Zv,Zz hi];show tn[i].1=p;lia⟩
   rw[z]at this;simp at this
  ·have:2*i+1∈row on p:=(mem p _ hp).mpr ⟨by lia,by
    have hh:(tn[i].2:Int)=p:=hh;unfold place;rw[if_neg (by lia),show(2*i+1) / 2=i by lia,Zv,Zz hi];show tn[i].2=p;lia⟩
   rw[z]at this;simp at this
 ·by_cases hp:p<on.length
  ·obtain⟨l,a,b,c⟩:=rw_ p hp;have:=(hf p _ c).1;rw[Zq]at this;rw[b];exact this
  ·rw[off p hp];simp
end AW
namespace L2
open PySem PySem.Spec PyProof.Rows
theorem Q9{P:Program}{w:World}{C:Addr}{X:Cx}:mI (CXr P w C) X (fun _ _ _=>False):=fun _ _ _ _ _ _ _ h=>by
 obtain⟨_,_,_,_,_,_,_,_,_,_,_,_,hE⟩:=h;exact hE.elim
theorem T6{H:Hp}{a:Addr}{tn:MM.b9}(h:TsI H a (AW.cT tn)):iU H a tn:=by
 obtain⟨tr,h1,h2,h3⟩:=h;refine⟨tr,h1,by rw[h2,AW.hV],fun i t e=>h3 i ((t.1:Int),(t.2:Int)) ?_⟩;unfold AW.cT;rw[Zk,e];rfl
theorem UY{H:Hp}{a:Addr}{on:MM.bU}(h:OsI H a (AW.cO on)):uG H a on:=by
 obtain⟨tr,h1,h2,h3⟩:=h;refine⟨tr,h1,by rw[h2,AW.B9],fun i l e=>?_⟩;obtain⟨r,r1,r2⟩:=h3 i (l.map fun n:Nat=>(n:Int)) (by unfold AW.cO;rw[Zk,e];rfl);exact⟨r,r1,by rw[r2,Yh];rfl⟩
theorem tG{H:Hp}{w:Addr}{tn:MM.b9}{on:MM.bU}(h:mH H w on.length (AW.cT tn) (AW.cO on)):iW H w on.length tn on:=let⟨tA,oA,h1,h2,h3⟩:=h;⟨tA,oA,h1,T6 h2,UY h3⟩
end L2
namespace K33
open PySem L2 PyProof.Rows
theorem chO{σ:L2.St}{H:Hp}{Q:VK}{x:Int}{tb tc:TE}(hb:∀R:VK,R (.int x) H→tb σ H R)(h1:¬0≤x→Q (.bl false) H)(h2:0≤x→tc σ H fun v H'=>rI0 (fun i j=>V.bl (decide (i<j))) (.int x) v H' Q) :
  wH (rI0 fun i j=>V.bl (decide (i≤j))) (rI0 fun i j=>V.bl (decide (i<j))) (tC (V.int 0)) tb tc σ H Q:=by
 refine hb _ ⟨_,_,rfl,rfl,_,rfl,?_⟩;by_cases h:0≤x
 ·rw[if_pos (decide_eq_true h)];exact h2 h
 ·rw[if_neg (by simpa using h)];exact h1 h
structure Mp(H:Hp)(wa:Addr)(tn:MM.b9)(on:MM.bU):Prop where
 w:mH H wa on.length (AW.cT tn) (AW.cO on)
 m:AW.pB on.length (AW.cT tn) (AW.cO on)
 g:MM.Good tn on
theorem Mp.same{H H':Hp}{wa:Addr}{tn:MM.b9}{on:MM.bU}(h:Mp H wa tn on)(g:aW H H'):Mp H' wa tn on:=⟨h.w.same g,h.m,h.g⟩
theorem Mp.few{H:Hp}{wa:Addr}{tn:MM.b9}{on:MM.bU}(h:Mp H wa tn on):tn.length≤400:=by have:=h.m.1.2.2;rw[AW.hV]at this;exact this
theorem QO{ts:MM.b9}{os:MM.bU}:flB os.length ts os=true↔MM.Flat ts os:=by
 refine⟨fun h=>?_,DV⟩;have:=V.int.inj (of_decide_eq_true h);unfold MM.Flat
 lia
def Q7:Sp:=fun vs H _ E=>∃(wa:Addr) (m:Int) (ts:AW.Ts) (os:AW.Os),vs=[.ref wa]∧mH H wa m ts os∧ts.length≤1000∧¬AW.pB m ts os∧∀x H',aW H H'→E (.ref x) none H'
def UM:Sp:=fun vs H Q _=>∃(wa:Addr) (tn:MM.b9) (on:MM.bU),vs=[.ref wa]∧Mp H wa tn on∧MM.Flat tn on∧∀H',aW H H'→Q .non H'
def Q6:Sp:=fun vs H _ E=>∃(wa:Addr) (tn:MM.b9) (on:MM.bU),vs=[.ref wa]∧Mp H wa tn on∧¬MM.Flat tn on∧∀x H',aW H H'→E (.ref x) none H'
theorem NO(T:Txt K mg t):bQ P w K mg base CX0 7 t.jD t.jC ["web"] UM:=by
 refine T.eT.F.ok kK (fun vs H Q E h=>?_) (fun cdv A outer s H vs Q E hr h=>?_)
 ·obtain⟨wa,tn,on,rfl,_⟩:=h;rfl
 obtain⟨wa,tn,on,rfl,hM,hF,q⟩:=h;have h4:=hM.few;refine⟨_,(aE (bN (bR (xH T) hr T.kG Q9 (aA (pv 0) aC)))
  (aK (cC (gH (cQ (bR (HW T) hr T.t9 bE (aA (pv 0) aC)) (fun _=>rfl))) kW bJ))),?_⟩
 refine⟨_,rfl,(aG wa _ _ _ rfl ⟨ hM.w,by rw[AW.hV];lia,fun _ H1 g1=>?_,fun z=>absurd hM.m z⟩)⟩;refine⟨_,rfl,(aG wa _ tn on rfl ⟨ tG (hM.w.same g1),hM.g,by lia,fun H2 g2=>⟨_,rfl,eZ (by rw[DV hF];rfl) (q _ (g1.trans g2))⟩⟩)⟩
theorem SU(T:Txt K mg t):bQ P w K mg base (CXr P w t.bI) 7 t.jD t.jC ["web"] Q6:=by
 refine T.eT.F.okX kK (fun vs H Q E h=>?_) (fun cdv A outer s H vs Q E hr h=>?_)
 ·obtain⟨wa,tn,on,rfl,_⟩:=h;rfl
 obtain⟨wa,tn,on,rfl,hM,hF,q⟩:=h;have h4:=hM.few;refine⟨_,(aE (bN (bR (xH T) hr T.kG Q9 (aA (pv 0) aC)))
  (aK (cC (gH (cQ (bR (HW T) hr T.t9 bE (aA (pv 0) aC)) (fun _=>rfl))) (aK (kX T.LO PySem.F.excBase_ValueError T.gX)) bJ))),?_⟩
 refine⟨_,rfl,(aG wa _ _ _ rfl ⟨ hM.w,by rw[AW.hV];lia,fun _ H1 g1=>?_,fun z=>absurd hM.m z⟩)⟩;refine⟨_,rfl,(aG wa _ tn on rfl ⟨ tG (hM.w.same g1),hM.g,by lia,fun H2 g2=>⟨_,rfl,eV (by rw[show flB on.length tn on=false from Bool.eq_false_iff.mpr fun z=>hF (QO.mp z)];rfl) fun x=>q x _ (g1.trans g2)⟩⟩)⟩
theorem SS(T:Txt K mg t):bQ P w K mg base (CXr P w t.bP) 4 t.jD t.jC ["web"] Q7:=by
 refine T.eT.F.okX kK (fun vs H Q E h=>?_) (fun cdv A outer s H vs Q E hr h=>?_)
 ·obtain⟨wa,m,ts,os,rfl,_⟩:=h;rfl
 obtain⟨wa,m,ts,os,rfl,hW,hl,hB,q⟩:=h;refine⟨_,(aE (bN (bR (xH T) hr T.kG M6 (aA (pv 0) aC))) kW),?_⟩;exact⟨_,rfl,(aG wa m ts os rfl ⟨ hW,hl,fun z=>absurd z hB,fun _ x H' g=>q x H' g⟩)⟩
noncomputable abbrev nL(tn:MM.b9)(on:MM.bU):Nat:=(MM.cF (MM.behind tn on) (2*tn.length)).length
def UL:Sp:=fun vs H Q _=>∃(wa:Addr) (o:Int) (tn:MM.b9) (on:MM.bU),vs=[.ref wa,.int o]∧Mp H wa tn on∧MM.Flat tn on∧0≤o∧o<nL tn on∧∀H',aW H H'→Q .non H'
theorem SQ(T:Txt K mg t):bQ P w K mg base CX0 8 t.qA t.pZ ["web","outer"] UL:=by
 refine T.pV.F.ok wM (fun vs H Q E h=>?_) (fun cdv A outer s H vs Q E hr h=>?_)
 ·obtain⟨wa,o,tn,on,rfl,_⟩:=h;rfl
 obtain⟨wa,o,tn,on,rfl,hM,hF,h0,h1,q⟩:=h;have h4:=hM.few;refine⟨_,(aE (bN (bR (NO T) hr T.eT bE (aA (pv 0) aC)))
  (aK (cC (gH (nO rZ fS aH (pv 1) (aT aO rfl T.cP PySem.boot_len (aA (bR (nW T) hr T.pN bE (aA (pv 0) aC)) aC)))) kW bJ))),?_⟩
 refine⟨_,(cU rfl wa tn on rfl ⟨ hM,hF,fun H1 g1=>?_⟩)⟩;dsimp only[L3,JS,OX,OV,CL];refine chO (x:=o) ?h1 ?h2 ?h3
 case h1=>exact fun R h=>⟨_,rfl,h⟩
 case h2=>exact fun z=>absurd h0 z
 intro _;refine⟨_,rfl,(aG wa _ tn on rfl ⟨ tG (hM.w.same g1),hM.g,by lia,fun r rr H2 g2 n2=>⟨r,_,(bB rfl (.inl (SqL.of n2.at_)) _ _ rfl ⟨ rfl,_,rfl,?_⟩)⟩⟩)⟩;have hl:(((rr.map V.ref).length:Nat):Int)=(nL tn on:Int):=by rw[Zq,n2.len]
 rw[hl,decide_eq_true h1];exact dX (q _ (g1.trans g2))
def mn(i j:Int):Int:=if j<i then j else i
def few(ls:List Int)(j:Nat):Int:=at0 ls j-mn (at0 ls j) (at0 ls (MM.oth j))
def qR(ls:List Int)(n:Nat):List V:=(List.range n).map fun j=>.int (few ls j)
theorem DX(ls:List Int)(n:Nat):qR ls (n+1)=qR ls n++[.int (few ls n)]:=by
 unfold qR;rw[List.range_succ,Zt];rfl
theorem GK(ls:List Int)(n:Nat):(qR ls n).length=n:=by unfold qR;simp
def O2(K:PySem.W.Frag):Sp:=fun vs H Q _=>∃(p c l:Addr) (n:Nat) (cs ls:List Int),vs=[.ref p]∧SqT K H p [.ref c,.ref l]∧SqL K H c (cs.map V.int)∧SqL K H l (ls.map V.int)∧ls.length=2*n∧n≤1000 ∧
 ∀(r a b:Addr) (H':Hp),aW H H'→H a=none→H b=none→a≠b→H' r=some (.tup [.ref a,.ref b])→H' a=some (.lst (cs.map V.int))→H' b=some (.lst (qR ls (2*n)))→Q (.ref r) H'
theorem NB(T:Txt K mg t)(E1:bQ P w K mg base CX0 1 t.oU t.oQ ["end"] MF):bQ P w K mg base CX0 2 t.vE t.u5 ["shape"] (O2 K):=by
 refine T.uW.F.ok rK (fun vs H Q E h=>?_) (fun cdv A outer s H vs Q E hr h=>?_)
 ·obtain⟨p,c,l,n,cs,ls,rfl,_⟩:=h;rfl
 obtain⟨p,c,l,n,cs,ls,rfl,hT,hC,hS,hl,hn,q⟩:=h;have nd:=rK.nd;have nd1:(["end","left","lefts"]:List Str).Nodup:=by decide
 refine⟨_,(aE (a7 1 nd (aM aU (pv 0) aH (fun _ _=>rfl)))
  (aE (cN (i:=2) nd rfl (Or.inl rfl)  (N':=["end","left","lefts"]) (js:=[none,none,some 1]) rfl (fN rfl T.dA (aA (pv 1) aC)) (fun _ _ _ _ _=>(mD (K:=K) (n:=2) rfl rfl (aY (aQ (i:=0) nd1 rfl (Or.inl rfl)) (aY (aQ (i:=1) nd1 rfl (Or.inl rfl)) cH)))) (fun _ _ _ _ _=>dN) (fun _ _ _ _ _=>(aX iT (pv 1) (aT (AQ rfl) rfl T.LK boot_min (aA (pv 1) (aA (aM (sI (K:=K) rfl) (pv 2) (bR E1 hr T.iQ bE (aA (pv 0) aC)) (fun _ _=>rfl)) aC))))))
  (aK (bC (bX (aA (dG fH rfl T.lV boot_list (aA (aM aU (pv 0) aH (fun _ _=>rfl)) aC)) (aA (pv 2) aC))))))),?_⟩
 refine⟨_,rfl,(aG p _ _ (.ref l) rfl ⟨ rfl,hT,rfl,?_⟩)⟩;refine(cG _ rfl l rfl ⟨_,hS⟩ (fun D hD=>?_));refine comp_map (2*n) (fun i ys H'=>ys=qR ls i∧H' D=some (.lst ys)∧aW H H') ⟨rfl,aB,aI hD _⟩ ?_ ?_
 ·rintro i ys H' hi ⟨rfl,hD',g1⟩;have hS1:=g1.seq hS;refine⟨⟨_,_,hS1,gM (by lia)⟩,?_⟩;rintro x H'' ⟨T',x',rfl,hT',rfl,hx⟩;have ex:=hx _ hS1;rw[gM (by lia)]at ex;cases ex;have g2:=aI hT' (.tup [.int i,.int (at0 ls i)]);have hS2:=g2.seq hS1;refine(bH T' _ rfl (SqT.of aB) rfl ⟨ _,(aN _ rfl _ _ rfl ⟨ rfl,((Fills.refl _).set _ rfl).set _ rfl,?_⟩)⟩);refine⟨_,(bO rfl _ rfl _ rfl ⟨ _,rfl,i,rfl,(aG l _ _ _ rfl ⟨ rfl,(bB hS2 (dF (j:=MM.oth i) (by rw[hl];exact MM.fR hi) rfl) _ _ rfl (bH _ _ rfl rfl (g2 _ _ hD') ⟨ ?_,?_,aB,?_⟩))⟩)⟩)⟩
  ·rw[GK];exact Yt hi (Yr (by lia:2*n≤2000) (by decide))
  ·rw[DX];rfl
  ·exact fun b o h=>by rw[aL (aJ h hD)];exact g2 _ _ (g1 _ _ h)
 ·rintro ys H' ⟨rfl,hD',g1⟩;refine⟨⟨_,g1.seq hS,by rw[Zq];lia⟩,?_⟩;refine⟨_,rfl,(aG p _ _ (.ref c) rfl ⟨ rfl,(bB (aW.tup g1 hT) rfl c _ rfl ⟨ .inl (g1.seq hC),fun a ha=>?_⟩)⟩)⟩;refine⟨_,rfl,(by show 2≤ZW;decide),fun r hr'=>?_⟩;have g2:=aI ha (.lst (cs.map V.int));have g3:=aI hr' (.tup [.ref a,.ref D]);exact q r a D _ (g1.trans (g2.trans g3)) (g1.free ha) hD (aJ hD' ha).symm aB (g3 _ _ aB) (g3 _ _ (g2 _ _ hD'))
end K33
namespace L2
open PySem PySem.Spec PyProof.Rows
theorem K5(xs:List V)(k:Nat):vO xs (some (k:Int)) none=xs.drop k:=by
 unfold vO;rw[HT.rQ,HT.vS];by_cases h:k≤xs.length
 ·rw[Nat.min_eq_left h,List.take_of_length_le (by rw[Yd];lia)]
 ·rw[Nat.min_eq_right (by lia),List.drop_of_length_le (Nat.le_refl _),List.drop_of_length_le (by lia),List.take_nil]
theorem QT(xs:List V)(k:Nat):vO xs none (some (k:Int))=xs.take k:=by
 unfold vO;rw[HT.rQ,HT.vS,List.drop_zero,Nat.sub_zero];by_cases h:k≤xs.length
 ·rw[Nat.min_eq_left h]
 ·rw[Nat.min_eq_right (by lia),List.take_of_length_le (Nat.le_refl _),List.take_of_length_le (by lia)]
end L2
namespace K33
open PySem L2 PyProof.Rows NM
theorem PJ(n:Nat):(List.replicate n (4:Int)).sum=4*n:=by
 induction n with
 |zero=>rfl
 |succ n ih=>rw[List.replicate_succ,List.sum_cons,ih];lia
theorem G2(f g:Nat→Int):∀l:List Nat,(l.map fun k=>f k-2*g k).sum=(l.map f).sum-2*(l.map g).sum
 |[]=>rfl
 |k::l=>by
  rw[List.map_cons,List.sum_cons,G2 f g l,List.map_cons,List.sum_cons,List.map_cons,List.sum_cons];lia
theorem G3(o:Nat):∀n:Nat,((List.range n).map fun k=>if k=o then (-4:Int) else 4).sum=if o<n then 4*(n:Int)-8 else 4*n
 |0=>rfl
 |n+1=>by
  rw[List.range_succ,Zt,List.sum_append,G3 o n,List.map_cons,List.map_nil,List.sum_cons,List.sum_nil];by_cases h:n=o
  ·subst h;rw[if_pos rfl,if_neg (by lia),if_pos (by lia)];lia
  ·rw[if_neg h];by_cases h2:o<n
   ·rw[if_pos h2,if_pos (by lia)];lia
   ·rw[if_neg h2,if_neg (by lia)];lia
theorem CM:∀l:List Nat,(l.map fun n:Nat=>(n:Int)).sum=((l.sum:Nat):Int)
 |[]=>rfl
 |a::l=>by rw[List.map_cons,List.sum_cons,List.sum_cons,CM l];lia
theorem IB:∀ll:List (List Nat),(ll.map List.length).sum=ll.flatten.length
 |[]=>rfl
 |l::ll=>by rw[List.map_cons,List.sum_cons,IB ll,List.flatten_cons,Zm]
theorem one_le{a:Nat}:∀{l:List Nat},a∈l→a≤l.sum
 |b::l,h=>by
  rw[List.sum_cons];rcases Zn.mp h with rfl | h
  ·lia
  ·have:=one_le h;lia
theorem OL{tn:MM.b9}{on:MM.bU}(g:MM.Good tn on):((LL tn on).map List.length).sum=2*tn.length:=by
 rw[IB,(MM.GD g.maps).length_eq,Yj]
theorem KG{tn:MM.b9}{on:MM.bU}(g:MM.Good tn on)(f:MM.Flat tn on){o:Nat}(ho:o<(LL tn on).length):(kC on.length (LL tn on) o).sum=0:=by
 unfold kC;rw[List.sum_append,PJ];have e:(List.range (LL tn on).length).map (qQ (LL tn on) o)=(List.range (LL tn on).length).map fun k=>(if k=o then (-4:Int) else 4)-2*(((LL tn on).getD k []).length:Int):=rfl;have e2:(List.range (LL tn on).length).map (fun k=>(((LL tn on).getD k []).length:Int))=((LL tn on).map List.length).map fun n:Nat=>(n:Int):=by
  rw[Yh];refine Yp (by simp) fun i h1 h2=>?_;have hi:i<(LL tn on).length:=by simpa using h1
  simp[Zv,Zz hi]
 rw[e,G2 (fun k=>if k=o then (-4:Int) else 4) (fun k=>(((LL tn on).getD k []).length:Int)),G3,if_pos ho,e2,CM,OL g];have:on.length+(LL tn on).length=tn.length+2:=f
 lia
structure LF(ws:List Int)(bs ss:List (Option Int)):Prop where
 w:∀x∈ws,0≤x∧x≤1000
 b:∀x,some x∈bs→0≤x∧x≤1000
 s:∀x,some x∈ss→1≤x∧x≤4
theorem FY{tn:MM.b9}{on:MM.bU}{nm:List Nat}(g:MM.Good tn on)(h:oZ tn on nm){e:Nat}(he:e<2*tn.length):nm.getD e 0<(LL tn on).length:=by
 obtain⟨k,d,q1,q2,_⟩:=MM.oE g.maps he;rw[h.at_ k d e q1 q2];exact(Zj.mp q1).1
theorem ER{ws:List Int}{i:Nat}(h:i<ws.length):at0 ws i∈ws:=by unfold at0;rw[Zv,Zz h];exact Zp h
theorem M8{l:List (Option Int)}{i:Nat}{x:Int}(h:ov l i=some x):some x∈l:=by
 unfold ov at h;rw[Zv]at h;cases hh:l[i]? with
 |none=>rw[hh]at h;cases h
 |some y=>rw[hh]at h;exact h▸Zg hh
theorem SX{tn:MM.b9}{on:MM.bU}{nm:List Nat}{ws:List Int}{bs ss:List (Option Int)}{o:Nat}(g:MM.Good tn on)(f:MM.Flat tn on)(t40:tn.length≤40)(ho:o<(LL tn on).length)(hn:oZ tn on nm)(hl:ws.length=tn.length)(hw:LF ws bs ss) :
  EY (kC on.length (LL tn on) o) (m4 on.length tn nm ws bs ss)∧(kC on.length (LL tn on) o).length=tn.length+2∧(m4 on.length tn nm ws bs ss).length=4*tn.length:=by
 have fl:on.length+(LL tn on).length=tn.length+2:=f;have nl:(kC on.length (LL tn on) o).length=on.length+(LL tn on).length:=by unfold kC;simp
 have wl:(m4 on.length tn nm ws bs ss).length=4*tn.length:=by unfold m4;simp;lia
 have o1:1≤on.length:=by have:=(g.g.has 0 (by have:=g.one;lia)).1;lia
 refine⟨⟨by lia,by lia,by lia,KG g f ho,fun x hx=>?_,fun wy hwy=>?_⟩,by lia,wl⟩
 ·unfold kC at hx;rcases Zf.mp hx with z | z
  ·rw[List.eq_of_mem_replicate z];lia
  ·obtain⟨k,hk,rfl⟩:=Zh.mp z;have hk:=Zs.mp hk;have:((LL tn on).getD k []).length≤2*tn.length:=by
    rw[←OL g,Zv,Zz hk];exact one_le (Yf (Zp hk))
   unfold qQ;split<;>lia
 ·unfold m4 at hwy;rcases Zf.mp hwy with z | z
  ·obtain⟨e,he,rfl⟩:=Zh.mp z;have he:=Zs.mp he;have h1:=(g.g.has (MM.oth e) (MM.fR he)).1;have h2:=FY g hn he;cases hs:ov ss e with
   |none=>unfold mF;rw[hs];exact⟨by show MM.place tn (MM.oth e)<_;lia,by show on.length+nm.getD e 0<_;lia,by show(-1000:Int)≤1∧(1:Int)≤1000;lia,fun h hh=>by cases hh;show(1:Int)≤4∧(4:Int)≤1000;lia,by show(-1000:Int)≤0∧(0:Int)≤1000;lia⟩
   |some x =>
    have:=hw.s x (M8 hs);unfold mF;rw[hs];exact⟨by show MM.place tn (MM.oth e)<_;lia,by show on.length+nm.getD e 0<_;lia,by show(-1000:Int)≤x∧x≤1000;lia,fun h hh=>by cases hh;show x≤x∧x≤1000;lia,by show(-1000:Int)≤0∧(0:Int)≤1000;lia⟩
  ·obtain⟨e,he,rfl⟩:=Zh.mp z;have he:=Zs.mp he;have h1:=FY g hn he;have h2:=FY g hn (MM.fR he);have h3:=hw.w _ (ER (ws:=ws) (i:=e / 2) (by lia));refine⟨by show on.length+nm.getD e 0<_;lia,by show on.length+nm.getD (MM.oth e) 0<_;lia,by show(-1000:Int)≤0∧(0:Int)≤1000;lia,fun h hh=>?_,by show(-1000:Int)≤at0 ws (e / 2)∧at0 ws (e / 2)≤1000;lia⟩;have:=hw.b h (M8 hh);exact this
theorem VH{n:Nat}{tn:MM.b9}{nm:List Nat}{ws:List Int}{bs ss:List (Option Int)}(hl:ws.length=tn.length)(hw:LF ws bs ss):∀w∈m4 n tn nm ws bs ss,0≤w.c:=fun w h=>by
 unfold m4 at h;rcases Zf.mp h with z | z
 ·obtain⟨e,he,rfl⟩:=Zh.mp z;exact Int.le_refl 0
 ·obtain⟨e,he,rfl⟩:=Zh.mp z;have he:=Zs.mp he;exact(hw.w _ (ER (ws:=ws) (i:=e / 2) (by lia))).1
theorem SR(T:Txt K mg t):bQ P w K mg base CX0 5 t.qX t.qV ["net"] wI:=by
 exact DF T (NN T) (FW T (NJ T (BM T))) (KC T (P9 T (BM T) (NC T) (NL T)) (ND T (BM T) (FX T) (HU T) (SJ T)) (NF T) (P5 T (FX T)) (P3 T (FX T) (HU T)))
def Told(H0 H:Hp)(r:Addr)(n:Nat):Prop:=(∃la,H r=some (.tup [.str "none",.ref la]))∨∃(v a b ra:Addr) (cs ls:List Int),H r=some (.tup [.str "shape",.ref v,.ref ra])∧EX H v a b cs ls∧ls.length=2*n∧H0 a=none∧H0 b=none
def V1:Sp:=fun vs H Q _=>∃(wa p wA bA sA:Addr) (o:Nat) (tn:MM.b9) (on:MM.bU) (ws:List Int) (bs ss:List (Option Int)),vs=[.ref wa,vn o,.ref p]∧Mp H wa tn on∧MM.Flat tn on∧tn.length≤40∧on.length≤40∧o<nL tn on∧zF H p wA bA sA ws bs ss∧ws.length=tn.length∧bs.length=tn.length∧ss.length=2*tn.length∧LF ws bs ss ∧
 ∀(r:Addr) (H':Hp),aW H H'→Told H H' r tn.length→Q (.ref r) H'
theorem U1(T:Txt K mg t):bQ P w K mg base CX0 9 t.EV t.EF ["web","outer","wishes"] V1:=by
 have EZ:=NB (P:=P) (w:=w) (base:=base) T (r8 T);refine T.D5.F.ok zS (fun vs H Q E h=>?_) (fun cdv A outer s H vs Q E hr h=>?_)
 ·obtain⟨wa,p,wA,bA,sA,o,tn,on,ws,bs,ss,rfl,_⟩:=h;rfl
 obtain⟨wa,p,wA,bA,sA,o,tn,on,ws,bs,ss,rfl,hM,hF,t40,o40,ho,hW,l1,l2,l3,hok,q⟩:=h;have nd:=zS.nd;refine⟨_,(aE (bN (bR (SQ T) hr T.pV bE (aA (pv 0) (aA (pv 1) aC))))
  (aE (a7 3 nd (bR (SR T) hr T.x9 bE (aA (bR (NH T) hr T.DZ bE (aA (pv 0) (aA (pv 1) (aA (pv 2) aC)))) aC)))
  (aE (cC (aZ fK (aM aU (pv 3) aH (fun _ _=>rfl)) dR (bD _)) (aK (bC (pv 3))) bJ)
  (aE (a7 4 nd (aX dW aH (aT aO rfl T.cP PySem.boot_len (aA (aM aU (pv 0) aH (fun _ _=>rfl)) aC))))
  (aE (a7 5 nd (bR EZ hr T.uW bE (aA (bX (aA (rX vR (aM aU (pv 3) aH (fun _ _=>rfl)) vW (vV (pv 4))) (aA (rX vR (aM aU (pv 3) aH (fun _ _=>rfl)) (vV (pv 4)) vW) aC))) aC)))
  (aK (bC (bX (aA dR (aA (pv 5) (aA (aM aU (pv 3) aH (fun _ _=>rfl)) aC))))))))))),?_⟩
 refine⟨_,rfl,_,rfl,(aG wa o tn on rfl ⟨ hM,hF,by lia,by lia,fun H1 g1=>?_⟩)⟩;have hM1:=hM.same g1;dsimp only;refine E7 (fun σ' H'=>∃r:Addr,σ'=[some (.ref wa),some (vn o),some (.ref p),some (.ref r),none,none]∧aW H H'∧((∃la,H' r=some (.tup [.str "none",.ref la]))∨∃(z:Str) (ga ra:Addr) (gs:List Int),H' r=some (.tup [.str z,.ref ga,.ref ra])∧decide (V.str z=V.str (ZT "none"))=false∧H' ga=some (.lst (gs.map V.int))∧gs.length=4*tn.length)) (fun N n1=>?_) ?_
 ·refine⟨_,(bO rfl _ rfl _ rfl (aP wa p wA bA sA (aP on.length o tn on ws (bH bs ss rfl (tG hM1.w) hM.g (bG t40 o40 ho (hW.mono g1) l1 ⟨ l2,l3,fun rn na wl nm H2 g2 _ _ _ hnum hN=>?_⟩)))))⟩;obtain⟨nok,nlen,wlen⟩:=SX hM.g hF t40 ho hnum l1 hok (bs:=bs) (ss:=ss);have g02:=g1.trans g2;refine(aP rn na wl _ _ (bG rfl hN nok (VH l1 hok) (by lia) ⟨ fun r la H3 g3 f0=>?_,fun r ga pb gs H3 g3 f0 f1 G=>?_⟩))
  ·exact n1 _ _ ⟨r,rfl,g02.trans g3,.inl ⟨_,f0⟩⟩
  ·exact n1 _ _ ⟨r,rfl,g02.trans g3,.inr (aG _ ga pb gs f0 ⟨ by decide +kernel,f1,by rw[G,wlen]⟩)⟩
 rintro σ H3 ⟨r,rfl,g3,⟨la,f0⟩ | ⟨z,ga,ra,gs,f0,fz,f1,hg⟩⟩
 ·exact⟨_,rfl,(aG r _ 0 _ rfl ⟨ rfl,(aR (SqT.of f0) rfl rfl _ rfl (eV (by rfl) ⟨_,rfl,q _ _ g3 (.inl ⟨_,f0⟩)⟩))⟩)⟩
 obtain⟨tA,oA,e1,⟨tr,e2,e3,e4⟩,_⟩:=(hM.same g3).w;refine⟨_,rfl,(aG r _ 0 _ rfl ⟨ rfl,(aR (SqT.of f0) rfl rfl _ rfl (eZ fz ?_))⟩)⟩;refine⟨_,rfl,(aG wa _ 1 _ rfl ⟨ rfl,(bB (SqT.of e1) rfl tA _ rfl (cM (.inl (SqL.of e2)) _ _ rfl rfl ⟨ .inl ⟨by decide,by decide⟩,?_⟩))⟩)⟩;have em:2*(((tr.map V.ref).length:Nat):Int)=((2*tn.length:Nat):Int):=by rw[Zq,e3,AW.hV];lia
 show jN 4 (V.int (2*(((tr.map V.ref).length:Nat):Int))) _ _ _;rw[em];dsimp only[jN];refine⟨_,rfl,(aG r _ 1 _ rfl (aR rfl (SqT.of f0) rfl _ rfl (aN _ rfl ga _ rfl ⟨ SqL.of f1,fun c hc=>?_⟩)))⟩;rw[QT];have k4:=aI hc (.lst ((gs.map V.int).take (2*tn.length)));refine⟨_,rfl,(aG r _ 1 _ rfl (aR rfl (SqT.of (k4 _ _ f0)) rfl _ rfl (aN _ rfl ga _ rfl ⟨ SqL.of (k4 _ _ f1),fun d hd=>?_⟩)))⟩;rw[K5];have k5:=aI hd (.lst ((gs.map V.int).drop (2*tn.length)));refine⟨(by show 2≤ZW;decide),fun u hu=>?_⟩;have k6:=aI hu (.tup [.ref c,.ref d]);refine(aP u c d tn.length (gs.take (2*tn.length)) (eB (gs.drop (2*tn.length)) rfl (SqT.of aB) (SqL.of (k6 _ _ (k5 _ _ (by rw[aB,List.map_take])))) (SqL.of (k6 _ _ (by rw[aB,List.map_drop]))) ⟨ by rw[Yd];lia,by lia,fun v a b H4 g4 na nb _ v1 v2 v3=>?_⟩));have g46:=k4.trans (k5.trans (k6.trans g4));refine⟨_,rfl,_,rfl,(aG r _ 2 _ rfl ⟨ rfl,SqT.of (g46 _ _ f0),rfl,(by show 3≤ZW;decide),fun y hy=>q _ _ (g3.trans (g46.trans (aI hy _))) (.inr (aP v a b ra _ (eB ((List.range (2*tn.length)).map (few (gs.drop (2*tn.length)))) aB ⟨aI hy _ _ _ v1,aI hy _ _ _ v2,by rw[Yh];exact aI hy _ _ _ v3⟩ (by simp) ((g3.trans (k4.trans (k5.trans k6))).free na) ((g3.trans (k4.trans (k5.trans k6))).free nb))))⟩)⟩
end K33
namespace K33
open PySem L2 PyProof.Rows
def sum2(ls:List Int)(k:Nat):Int:=at0 ls (2*k)+at0 ls (2*k+1)
def O1:Sp:=fun vs H Q _=>∃(p c l:Addr) (n:Nat) (cs ls:List Int),vs=[.ref p]∧EX H p c l cs ls∧ls.length=2*n∧n≤1000 ∧
 ∀(r:Addr) (us:List Int) (H':Hp),aW H H'→us.length=n→H' r=some (.lst (us.map V.int))→Q (.ref r) H'
theorem NA(T:Txt K mg t):bQ P w K mg base CX0 1 t.JH t.I0 ["shape"] O1:=by
 refine T.IM.F.ok CT (fun vs H Q E h=>?_) (fun cdv A outer s H vs Q E hr h=>?_)
 ·obtain⟨p,c,l,n,cs,ls,rfl,_⟩:=h;rfl
 obtain⟨p,c,l,n,cs,ls,rfl,hT,hl,hn,q⟩:=h;have nd:=CT.nd;have nd_first_lefts:(["first","lefts"]:List Str).Nodup:=by decide
 refine⟨_,(aE (a7 1 nd (aM aU (pv 0) aH (fun _ _=>rfl)))
  (aK (bC (fO (N':=["first","lefts"]) (js:=[none,some 1]) rfl (J4 rfl T.eA (aA aH (aA (aT aO rfl T.cP PySem.boot_len (aA (pv 1) aC)) (aA aH aC)))) (fun _ _ _ _ _=>(aQ (i:=0) nd_first_lefts rfl (Or.inl rfl))) (fun _ _ _ _ _=>dN) (fun _ _ _ _ _=>(aX cV (aM (sI (K:=K) rfl) (pv 1) (pv 0) (fun _ _=>rfl)) (aM (sI (K:=K) rfl) (pv 1) (aX cV (pv 0) aH) (fun _ _=>rfl)))))))),?_⟩
 refine⟨_,rfl,(aG p _ _ (.ref l) rfl ⟨ rfl,SqT.of hT.tp,rfl,?_⟩)⟩;refine(aN _ rfl l _ rfl ⟨ .inl (SqL.of hT.l),n,by rw[Zq,hl];push_cast;rfl,by lia,fun D hD=>?_⟩);refine fG n (fun j=>.int (sum2 ls j)) hD (by lia) (fun i H' hi _=>hi) (fun H' _=>Nat.le_refl _) ?_ ?_
 ·rintro i H' x H'' k hi g1 ⟨rfl,rfl⟩ hk;have hS':SqL K H'' l (ls.map V.int):=SqL.of (g1 _ _ hT.l);refine⟨(Fills.refl _).set _ rfl,?_⟩;refine⟨_,rfl,_,rfl,(aG l _ _ _ rfl (aR rfl hS' (dF (j:=2*i) (by lia) (by lia)) _ rfl (aN _ rfl _ _ rfl ⟨ rfl,(aG l _ _ _ rfl ⟨ rfl,(bB hS' (dF (j:=2*i+1) (by lia) (by lia)) _ _ rfl ⟨ rfl,hk _ (aW.refl _)⟩)⟩)⟩)))⟩
 ·intro H' g1 e;exact q D ((List.range n).map (sum2 ls)) H' g1 (by simp) (by rw[Yh];exact e)
def RS:Sp:=fun vs H Q _=>∃(p wa ba sa p2 ca la:Addr) (n:Nat) (ws:List Int) (bs ss:List (Option Int)) (cs ls:List Int),vs=[.ref p,.ref p2]∧zF H p wa ba sa ws bs ss∧EX H p2 ca la cs ls∧ls.length=2*n∧ws.length=n∧n≤1000∧(∀x∈ws,0≤x∧x≤1000) ∧
 ∀(z:Int) (H':Hp),aW H H'→Q (.int z) H'
theorem HX(T:Txt K mg t):bQ P w K mg base CX0 2 t.OJ t.OA ["wishes","shape"] RS:=by
 refine T.GM.F.ok PD (fun vs H Q E h=>?_) (fun cdv A outer s H vs Q E hr h=>?_)
 ·obtain⟨p,wa,ba,sa,p2,ca,la,n,ws,bs,ss,cs,ls,rfl,_⟩:=h;rfl
 obtain⟨p,wa,ba,sa,p2,ca,la,n,ws,bs,ss,cs,ls,rfl,hW,hT,hl,hw,hn,hwb,q⟩:=h;have nd_many_weight:(["many","weight"]:List Str).Nodup:=by decide
 refine⟨_,(aK (bC (aT (AO rfl) rfl T.QY boot_sum (aA (fO (N':=["many","weight"]) (js:=[none,none]) rfl (FR rfl T.LJ (aA (bR (NA T) hr T.IM bE (aA (pv 1) aC)) (aA (aM aU (pv 0) aH (fun _ _=>rfl)) aC))) (fun _ _ _ _ _=>(mD (K:=K) (n:=2) rfl rfl (aY (aQ (i:=0) nd_many_weight rfl (Or.inl rfl)) (aY (aQ (i:=1) nd_many_weight rfl (Or.inl rfl)) cH)))) (fun _ _ _ _ _=>dN) (fun _ _ _ _ _=>(aX dW (pv 0) (pv 1)))) aC)))),?_⟩;refine⟨_,rfl,(aP p2 ca la n cs (eB ls rfl hT hl hn (fun r us H1 g1 hu e1=>?_)))⟩;refine⟨_,rfl,(aG p _ _ _ rfl ⟨ rfl,SqT.of (g1 _ _ hW.tp),rfl,(aG r wa _ _ rfl ⟨ e1,g1 _ _ hW.w,fun D hD=>?_⟩)⟩)⟩;have lw:∀{i:Nat},i<n→(ws.map V.int)[i]?=some (.int (at0 ws i)):=fun hi=>gM (by lia);have lr:∀{i:Nat},i<n→(us.map V.int)[i]?=some (.int (at0 us i)):=fun hi=>gM (by lia);refine fG n (fun k=>.int (at0 us k*at0 ws k)) hD (by lia) (fun i H' hi g2=>(aG _ _ _ _ (g2 _ _ e1) ⟨ g2 _ _ (g1 _ _ hW.w),lr hi,lw hi⟩)) (fun H' g2=>⟨_,_,g2 _ _ e1,g2 _ _ (g1 _ _ hW.w),.inl (by rw[Zq];lia)⟩) ?_ ?_
 ·rintro i H' x H'' k hi g2 ⟨Tp,x',y',rfl,hTp,rfl,y1,y2⟩ hk;have ex:=y1 _ (g2 _ _ e1);rw[lr hi]at ex;cases ex;have ey:=y2 _ (g2 _ _ (g1 _ _ hW.w));rw[lw hi]at ey;cases ey;have hb:=hwb _ (sW (ls:=ws) (j:=i) (by lia));refine(bH Tp _ rfl (SqT.of aB) rfl ⟨ _,(aN _ rfl _ _ rfl ⟨ rfl,((Fills.refl _).set _ rfl).set _ rfl,?_⟩)⟩);exact⟨_,rfl,(aN _ rfl _ _ rfl ⟨ rfl,.inr ⟨by lia,by lia⟩,hk _ (aI hTp _)⟩)⟩
 ·intro H' g2 e;exact⟨D,(List.range n).map (fun k=>at0 us k*at0 ws k),rfl,SqL.of (by rw[Yh];exact e),q _ _ (g1.trans g2)⟩
def UH:Sp:=fun vs H Q _=>∃(H0:Hp) (r:Addr) (n:Nat),vs=[.ref r]∧Told H0 H r n∧∀(p:Addr) (H':Hp),aW H H'→Q (.ref p) H'
theorem SK(T:Txt K mg t):bQ P w K mg base CX0 1 t.yS t.yG ["told"] UH:=by
 refine T.xY.F.ok CY (fun vs H Q E h=>?_) (fun cdv A outer s H vs Q E hr h=>?_)
 ·obtain⟨H0,r,n,rfl,_⟩:=h;rfl
 obtain⟨H0,r,n,rfl,hT,q⟩:=h;refine⟨_,(aE (cC (aZ fK (aM aU (pv 0) aH (fun _ _=>rfl)) dR (bD _)) (aK (bC (bX (aA dR (aA (aM aU (pv 0) aH (fun _ _=>rfl)) aC))))) bJ)
  (aK (bC (bX (aA dR (aA (aM aU (pv 0) aH (fun _ _=>rfl)) aC)))))),?_⟩
 rcases hT with⟨la,f0⟩ | ⟨v,a,b,ra,cs,ls,f0,_⟩
 ·refine⟨_,rfl,(aG r _ 0 _ rfl ⟨ rfl,(aR (SqT.of f0) rfl rfl _ rfl (eZ (by decide +kernel) ?_))⟩)⟩;exact⟨_,rfl,(aG r _ 1 _ rfl ⟨ rfl,SqT.of f0,rfl,(by show 2≤ZW;decide),fun p hp=>q p _ (aI hp _)⟩)⟩
 ·refine⟨_,rfl,(aG r _ 0 _ rfl ⟨ rfl,(aR (SqT.of f0) rfl rfl _ rfl (eV (by decide +kernel) ?_))⟩)⟩;exact⟨_,rfl,(aG r _ 2 _ rfl ⟨ rfl,SqT.of f0,rfl,(by show 2≤ZW;decide),fun p hp=>q p _ (aI hp _)⟩)⟩
def UO:Sp:=fun vs H Q _=>∃(wa p wA bA sA:Addr) (tn:MM.b9) (on:MM.bU) (ws:List Int) (bs ss:List (Option Int)),vs=[.ref wa,.ref p]∧Mp H wa tn on∧MM.Flat tn on∧tn.length≤40∧on.length≤40∧zF H p wA bA sA ws bs ss∧ws.length=tn.length∧bs.length=tn.length∧ss.length=2*tn.length∧LF ws bs ss ∧
 ∀(r:Addr) (H':Hp),aW H H'→Q (.ref r) H'
def E4(H:Hp)(pA:Addr)(n:Nat)(b s:V):Prop:=(b=.non∧s=.non)∨∃(k:Nat) (v x y:Addr) (cs ls:List Int),b=vn k∧s=.ref v∧EX H v x y cs ls∧ls.length=2*n∧x≠pA∧y≠pA
theorem E4.mono{H H':Hp}{pA:Addr}{n:Nat}{b s:V}(h:E4 H pA n b s)(g:∀x u,x≠pA→H x=some u→H' x=some u)(z:∃l,H pA=some (.lst l)):E4 H' pA n b s:=h.imp id fun ⟨k,v,x,y,cs,ls,h1,h2,h3,h4,h5,h6⟩=>⟨k,v,x,y,cs,ls,h1,h2,⟨g _ _ (fun e=>by obtain⟨l,z⟩:=z;have:=h3.tp;rw[e,z]at this;cases this) h3.tp,g _ _ h5 h3.c,g _ _ h6 h3.l⟩,h4,h5,h6⟩
theorem U3(T:Txt K mg t):bQ P w K mg base CX0 10 t.gN t.gK ["web","wishes"] UO:=by
 refine T.gJ.F.ok iC (fun vs H Q E h=>?_) (fun cdv A outer s H vs Q E hr h=>?_)
 ·obtain⟨wa,p,wA,bA,sA,tn,on,ws,bs,ss,rfl,_⟩:=h;rfl
 obtain⟨wa,p,wA,bA,sA,tn,on,ws,bs,ss,rfl,hM,hF,t40,o40,hW,l1,l2,l3,hok,q⟩:=h;have nd:=iC.nd;refine⟨_,(aE (bN (bR (NO T) hr T.eT bE (aA (pv 0) aC)))
  (aE (a7 2 nd eP)
  (aE (a7 3 nd eP)
  (aE (a7 4 nd (bS aC))
  (aE (cY PassesOwn.never rfl (dI rfl T.eA (aA (aT aO rfl T.cP PySem.boot_len (aA (bR (nW T) hr T.pN bE (aA (pv 0) aC)) aC)) aC)) (aQ (i:=5) nd rfl (Or.inl rfl)) (aE (a7 6 nd (bR (U1 T) hr T.D5 bE (aA (pv 0) (aA (pv 5) (aA (pv 1) aC)))))
  (aE (bN (kO mAp cD (pv 4) (aA (bR (SK T) hr T.xY bE (aA (pv 6) aC)) aC)))
  (aK (cC (PW.pt (gS (aZ fK (aM aU (pv 6) aH (fun _ _=>rfl)) dR (bD _)) (gG (PW.pt (rT (aZ nV (pv 2) eP (bD _)) (nN (aZ fS (bR (HX T) hr T.GM bE (aA (pv 1) (aA (aM aU (pv 6) aH (fun _ _=>rfl)) aC))) (bR (HX T) hr T.GM bE (aA (pv 1) (aA (pv 3) aC))) (bD _)))))))) (aE (a7 2 nd (pv 5))
  (aK (a7 3 nd (aM aU (pv 6) aH (fun _ _=>rfl))))) bJ)))))
  (aK (bC (bX (aA (pv 2) (aA (pv 3) (aA (pv 4) aC))))))))))),?_⟩
 refine⟨_,(cU rfl wa tn on rfl ⟨ hM,hF,fun H1 g1=>?_⟩)⟩;refine⟨(by show 0≤ZW;decide),fun pA hpA=>?_⟩;have g2:=g1.trans (aI hpA (.lst []));have h0:H pA=none:=g1.free hpA;have hp2:upd H1 pA (.lst []) pA=some (.lst []):=aB;generalize upd H1 pA (.lst [])=H2 at g2 hp2;refine⟨_,rfl,(aG wa _ tn on rfl ⟨ tG (hM.same g2).w,hM.g,by lia,fun la rr H3 g3 n3=>?_⟩)⟩;have ll:(rr.map V.ref).length=nL tn on:=by rw[Zq,n3.len]
 have lb:nL tn on≤100:=by
  have:on.length+nL tn on=tn.length+2:=hF
  lia
 refine⟨la,(bW _ rfl (.inl (SqL.of n3.at_)) _ rfl ⟨ by lia,by lia,?_⟩)⟩;refine fX (lo:=0) (n:=(((rr.map V.ref).length:Nat):Int).toNat) (fun i σ H'=>∃(b s:V) (xs:List V) (o5 o6:Option V),σ=[some (.ref wa),some (.ref p),some b,some s,some (.ref pA),o5,o6]∧aW H H'∧E4 H' pA tn.length b s∧H' pA=some (.lst xs)∧xs.length=i) (aP _ _ _ _ _ ⟨ rfl,g2.trans g3,.inl ⟨rfl,rfl⟩,g3 _ _ hp2,rfl⟩) ?_ ?_
 ·rintro i σ H4 hi ⟨b,s,xs,o5,o6,rfl,g4,hb,hp4,hx⟩;refine⟨_,(bO rfl _ rfl _ rfl (aP wa p wA bA sA (aP i tn on ws bs (eB ss (by rw[Int.zero_add];rfl) (hM.same g4) hF t40 (bG o40 (by lia) (hW.mono g4) l1 l2 ⟨ l3,hok,fun r H5 g5 hT=>?_⟩)))))⟩;have g45:=g4.trans g5;refine(bW _ rfl (.inl ⟨rfl,_,SqL.of (g5 _ _ hp4)⟩) _ rfl (bV H4 r _ rfl hT (fun pp H6 g6=>?_)));have hp6:=g6 _ _ (g5 _ _ hp4);refine(bV pA _ _ rfl rfl ⟨ hp6,Ys (show xs.length≤100 by lia) (by decide),?_⟩);have g7:aW H (upd H6 pA (.lst (xs++[.ref pp]))):=(g45.trans g6).fresh h0 _;have kp:∀x u,x≠pA→H6 x=some u→upd H6 pA (.lst (xs++[.ref pp])) x=some u:=fun x u n h=>by rw[aL n];exact h
  have hb7:E4 (upd H6 pA (.lst (xs++[.ref pp]))) pA tn.length b s:=hb.mono (fun x u n h=>kp x u n ((g5.trans g6) _ _ h)) ⟨_,hp4⟩;have hp7:upd H6 pA (.lst (xs++[.ref pp])) pA=some (.lst (xs++[.ref pp])):=aB;have hx7:(xs++[V.ref pp]).length=i+1:=by rw[Zm,hx];rfl
  generalize upd H6 pA (.lst (xs++[.ref pp]))=H7 at *;rcases hT with⟨la,f0⟩ | ⟨v,x,y,ra,cs,ls,f0,f1,f2,f3,f4⟩
  ·have f7:=kp _ _ (fun z=>by rw[z,g5 _ _ hp4]at f0;cases f0) (g6 _ _ f0);exact⟨_,rfl,(aG r _ 0 _ rfl ⟨ rfl,(aR (SqT.of f7) rfl rfl _ rfl (eZ (by decide +kernel) (dX (aP b s _ _ _ ⟨ rfl,g7,hb7,hp7,hx7⟩))))⟩)⟩
  have f7:=kp _ _ (fun z=>by rw[z,g5 _ _ hp4]at f0;cases f0) (g6 _ _ f0);have nx:x≠pA:=fun z=>by rw[z,hp4]at f3;cases f3
  have ny:y≠pA:=fun z=>by rw[z,hp4]at f4;cases f4
  have s7:EX H7 v x y cs ls:=⟨kp _ _ (fun z=>by have:=f1.tp;rw[z,g5 _ _ hp4]at this;cases this) (g6 _ _ f1.tp),kp _ _ nx (g6 _ _ f1.c),kp _ _ ny (g6 _ _ f1.l)⟩
  have w7:=hW.mono g7;refine⟨_,rfl,(aG r _ 0 _ rfl ⟨ rfl,(aR (SqT.of f7) rfl rfl _ rfl (eV (by decide +kernel) ?_))⟩)⟩;rcases hb7 with⟨rfl,rfl⟩ | ⟨k,v2,x2,y2,cs2,ls2,rfl,rfl,s2,m2,n2,n3⟩
  ·refine(bW _ rfl rfl _ rfl (eV rfl (eV rfl ?_)));exact⟨_,rfl,_,rfl,(aG r _ 1 _ rfl ⟨ rfl,SqT.of f7,rfl,(aP _ _ _ _ _ ⟨ rfl,g7,.inr (aP i v x y cs (eB ls (by rw[Int.zero_add]) rfl s7 f2 ⟨ nx,ny⟩)),hp7,hx7⟩)⟩)⟩
  ·refine(bW _ rfl rfl _ rfl (eZ rfl ?_));refine⟨_,rfl,_,rfl,(aG r _ 1 _ rfl ⟨ rfl,SqT.of f7,rfl,(aP p wA bA sA v (aP x y tn.length ws bs (bV ss cs ls rfl w7 (bG s7 f2 l1 (by lia) hok.w (fun z H8 g8=>?_)))))⟩)⟩;refine⟨_,rfl,_,rfl,(aP p wA bA sA v2 (aP x2 y2 tn.length ws bs (bV ss cs2 ls2 rfl (w7.mono g8) (bG (s2.mono g8) m2 l1 (by lia) hok.w (fun z2 H9 g9=>?_)))))⟩;have gz:=g8.trans g9;refine⟨_,(bW _ rfl rfl _ rfl (eY (fun _=>?_) (fun _=>?_)))⟩
   ·exact⟨_,rfl,_,rfl,(aG r _ 1 _ rfl ⟨ rfl,SqT.of (gz _ _ f7),rfl,(aP _ _ _ _ _ ⟨ rfl,g7.trans gz,.inr (aP i v x y cs (eB ls (by rw[Int.zero_add]) rfl (s7.mono gz) f2 ⟨ nx,ny⟩)),gz _ _ hp7,hx7⟩)⟩)⟩
   ·exact(aP _ _ _ _ _ ⟨ rfl,g7.trans gz,.inr (aP k v2 x2 y2 cs2 (eB ls2 rfl rfl (s2.mono gz) m2 ⟨ n2,n3⟩)),gz _ _ hp7,hx7⟩)
 ·rintro σ H4 ⟨b,s,xs,o5,o6,rfl,g4,hb,hp4,hx⟩;exact⟨_,(bO rfl _ rfl _ rfl ⟨ (by show 3≤ZW;decide),fun r hr'=>q r _ (g4.trans (aI hr' _))⟩)⟩
theorem SV(T:Txt K mg t):bQ P w K mg base (CXr P w t.bP) 5 t.gN t.gK ["web","wishes"] (fun vs H Q E=>∃wa v,vs=[.ref wa,v]∧Q7 [.ref wa] H (fun _ _=>False) E):=by
 refine T.gJ.F.okX iC (fun vs H Q E h=>?_) (fun cdv A outer s H vs Q E hr h=>?_)
 ·obtain⟨wa,v,rfl,_⟩:=h;rfl
 obtain⟨wa,v,rfl,h⟩:=h;refine⟨_,(aE (bN (bR (SS T) hr T.eT M6 (aA (pv 0) aC))) kW),?_⟩;exact⟨_,rfl,h⟩
theorem SW(T:Txt K mg t):bQ P w K mg base (CXr P w t.bI) 8 t.gN t.gK ["web","wishes"] (fun vs H Q E=>∃wa v,vs=[.ref wa,v]∧Q6 [.ref wa] H (fun _ _=>False) E):=by
 refine T.gJ.F.okX iC (fun vs H Q E h=>?_) (fun cdv A outer s H vs Q E hr h=>?_)
 ·obtain⟨wa,v,rfl,_⟩:=h;rfl
 obtain⟨wa,v,rfl,h⟩:=h;refine⟨_,(aE (bN (bR (SU T) hr T.eT M6 (aA (pv 0) aC))) kW),?_⟩;exact⟨_,rfl,h⟩
end K33
namespace L2
open PySem PyProof.Rows
def dTI(ts:AW.Ts):List PyData:=ts.map fun t=>.tuple [.int t.1,.int t.2]
def dOI(os:AW.Os):List PyData:=os.map fun l=>.list (l.map PyData.int)
def dWI(m:Int)(ts:AW.Ts)(os:AW.Os):PyData:=.tuple [.int m,.list (dTI ts),.list (dOI os)]
theorem CB{K:PySem.W.Frag}{H:Hp}:∀(xs:List V) (ds:List PyData),xs.length=ds.length→(∀(i:Nat) x d,xs[i]?=some x→ds[i]?=some d→Bd K H x d)→Bds K H xs ds
 |[],[],_,_=>.nil
 |[],_::_,h,_=>by cases h
 |_::_,[],h,_=>by cases h
 |x::xs,d::ds,h,f=>.cons (f 0 x d rfl rfl) (CB xs ds (by simpa using h) fun i x' d' h1 h2=>f (i+1) x' d' h1 h2)
theorem JE{K:PySem.W.Frag}{H:Hp}{w:Addr}{m:Int}{ts:AW.Ts}{os:AW.Os}(h:mH H w m ts os):Bd K H (.ref w) (dWI m ts os):=by
 obtain⟨tA,oA,h1,⟨tr,t1,t2,t3⟩,⟨rr,o1,o2,o3⟩⟩:=h;refine .tup (SqT.of h1) (.cons (.int _) (.cons (.lst (SqL.of t1) (CB _ _ (by rw[dTI,Zq,Zq,t2]) fun i x d hx hd=>?_)) (.cons (.lst (SqL.of o1) (CB _ _ (by rw[dOI,Zq,Zq,o2]) fun i x d hx hd=>?_)) .nil)))
 ·obtain⟨t,r,e1,rfl,e2⟩:=TsI.nth (a:=tA) t2 t3 hx;rw[dTI,Zk,e1]at hd;cases hd;exact .tup (SqT.of e2) (.cons (.int _) (.cons (.int _) .nil))
 ·obtain⟨l,r,e1,rfl,e2⟩:=OsI.nth o2 o3 hx;rw[dOI,Zk,e1]at hd;cases hd;exact gL e2
theorem m3(m:Int)(ts:AW.Ts)(os:AW.Os):SeqAt.shaped (dWI m ts os)=true:=by
 have h1:PyData.canLayAll0 (dTI ts)=true∧PyData.depthAll (dTI ts)≤3:=sG 3 fun d hd=>by
  obtain⟨n,_,rfl⟩:=Zh.mp hd;exact⟨rfl,by simp[PyData.depth,PyData.depthAll]⟩
 have h2:PyData.canLayAll0 (dOI os)=true∧PyData.depthAll (dOI os)≤3:=sG 3 fun d hd=>by
  obtain⟨n,_,rfl⟩:=Zh.mp hd;have:=lay_ints n;exact⟨this.1,by rw[PyData.depth];lia⟩
 have h:PyData.canLayAll0 [PyData.int m,.list (dTI ts),.list (dOI os)]=true∧PyData.depthAll [PyData.int m,.list (dTI ts),.list (dOI os)]≤4:=sG 4 fun d hd=>by
  simp only[Zn,List.not_mem_nil,or_false]at hd;rcases hd with rfl | rfl | rfl
  ·exact⟨rfl,by simp[PyData.depth]⟩
  ·exact⟨h1.1,by rw[PyData.depth];lia⟩
  ·exact⟨h2.1,by rw[PyData.depth];lia⟩
 unfold SeqAt.shaped;rw[Xw];refine⟨h.1,decide_eq_true ?_⟩;unfold dWI;rw[PyData.depth]
 lia
theorem LQ(m:Int)(ts:AW.Ts)(os:AW.Os):PyData.eqv (dWI m ts os) (dWI m ts os)=true:=SeqAt.eqv_refl _ (SeqAt.canLay_of_shaped (m3 m ts os))
end L2
namespace AW
def rws:Nat→Os→List (Int×Int)
 |_,[]=>[]
 |i,o::os=>o.map (fun e=>(e,(i:Int)))++rws (i+1) os
theorem C4(o:List Int):∀(os:Os) (i:Nat),rws i (os++[o])=rws i os++o.map fun e=>(e,((i+os.length:Nat):Int))
 |[],i=>by simp[rws]
 |a::os,i=>by
  rw[List.cons_append,rws,rws,C4 o os,Yb,Yq,show i+1+os.length=i+(os.length+1) by lia]
theorem vT:∀(os:Os) (i:Nat),(rws i os).map Prod.fst=os.flatten
 |[],_=>rfl
 |o::os,i=>by
  rw[rws,Zt,vT os,Yh,List.flatten_cons];congr 1;exact List.map_id' _
theorem BI:∀(os:Os) (i:Nat) (u:Int×Int),u∈rws i os↔∃(k:Nat) (o:List Int),os[k]?=some o∧u.1∈o∧u.2=((i+k:Nat):Int)
 |[],i,u=>by simp[rws]
 |a::os,i,u=>by
  rw[rws,Zf,BI os];constructor
  ·rintro(h | ⟨k,o,h1,h2,h3⟩)
   ·obtain⟨e,he,rfl⟩:=Zh.mp h;exact⟨0,a,rfl,he,rfl⟩
   ·exact⟨k+1,o,h1,h2,by rw[h3];lia⟩
  ·rintro⟨k,o,h1,h2,h3⟩;cases k with
   |zero=>cases h1;exact .inl (Zh.mpr ⟨u.1,h2,by rw[show u=(u.1,u.2) from rfl,h3];rfl⟩)
   |succ k=>exact .inr ⟨k,o,h1,h2,by rw[h3];lia⟩
def prs(ts:Ts):List (Int×Int):=(all2 ts).map fun e=>(e,plc ts e.toNat)
theorem C6{ts:Ts}{os:Os}:(rws 0 os).Perm (prs ts)↔os.flatten.Perm (all2 ts)∧∀(i:Nat) o,os[i]?=some o→∀e∈o,plc ts e.toNat=i:=by
 constructor
 ·intro h;refine⟨?_,fun i o ho e he=>?_⟩
  ·have:=h.map Prod.fst;rw[vT,prs,Yh]at this
   rwa [show(Prod.fst∘fun e:Int=>(e,plc ts e.toNat))=id from rfl,List.map_id]at this
  ·have:=h.mem_iff.mp ((BI os 0 (e,(i:Int))).mpr ⟨i,o,ho,he,by simp⟩);obtain⟨x,_,hx⟩:=Zh.mp this;obtain⟨rfl,h2⟩:=Prod.mk.inj hx;exact h2
 ·rintro⟨h,g⟩;have e:rws 0 os=os.flatten.map fun e=>(e,plc ts e.toNat):=by
   rw[←vT os 0,Yh];refine(List.map_id' _).symm.trans (Ym fun u hu=>?_);obtain⟨k,o,h1,h2,h3⟩:=(BI os 0 u).mp hu;exact Prod.ext rfl (by rw[h3];show _=plc ts u.1.toNat;rw[g k o h1 _ h2,Nat.zero_add])
  rw[e];exact h.map _
def ky(u:Int×Int):List Int:=[u.1,u.2]
theorem M7{a b:List (Int×Int)}(h:a.Perm b)(h1:a.Pairwise fun x y=>SO.lx (ky y) (ky x)=false)(h2:b.Pairwise fun x y=>SO.lx (ky y) (ky x)=false):a=b :=
 List.Perm.eq_of_pairwise (fun x y _ _ z1 z2=>by
  have:=SO.xO _ _ z2 z1;unfold ky at this;simp only[List.cons.injEq,and_true]at this;exact Prod.ext this.1 this.2) h1 h2 h
theorem R8(ts:Ts):(prs ts).Pairwise fun x y=>SO.lx (ky y) (ky x)=false:=by
 unfold prs all2;rw[Yh,List.pairwise_map];refine List.pairwise_lt_range.imp fun {a b} h=>?_;show(if (b:Int)=a then SO.lx [_] [_] else decide ((b:Int)<a))=false;rw[if_neg (by lia),decide_eq_false (by lia)]
def opn(ts:Ts)(C:List Int):Nat:=ts.countP fun t=>!(decide (t.1∈C)&&decide (t.2∈C))
theorem AN{α:Type}{p q:α→Bool}:∀{l:List α},(∀x∈l,p x=true→q x=true)→(∃x∈l,q x=true∧p x=false)→l.countP p<l.countP q
 |a::l,h,⟨x,hx,h1,h2⟩=>by
  have hl:=List.countP_mono_left (l:=l) fun y hy=>h y (Zw _ hy);rw[List.countP_cons,List.countP_cons];rcases Zn.mp hx with rfl | hx
  ·rw[h1,h2,if_pos rfl,if_neg (by decide)];lia
  ·have:=AN (l:=l) (fun y hy=>h y (Zw _ hy)) ⟨x,hx,h1,h2⟩;by_cases hp:p a=true
   ·rw[if_pos hp,if_pos (h a Zd hp)];lia
   ·rw[if_neg hp];split<;>lia
def both(ts:Ts):Ts:=ts++ts.map fun t=>(t.2,t.1)
theorem OG{ts:Ts}{u:Int×Int}(h:u∈both ts):∃t∈ts,t=u∨t=(u.2,u.1):=by
 rcases Zf.mp h with h | h
 ·exact⟨u,h,.inl rfl⟩
 ·obtain⟨t,ht,rfl⟩:=Zh.mp h;exact⟨t,ht,.inr rfl⟩
def Pas(m:Nat)(ts:Ts)(C0 C:List Int)(k:Nat):Prop :=
 pQ m ts C∧((C=C0∧∀(j:Nat) u,j<k→(both ts)[j]?=some u→u.1∈C0→u.2∈C0)∨(¬G1 ts C0∧opn ts C<opn ts C0))
theorem Pas.next{m:Nat}{ts:Ts}{C0 C:List Int}{k:Nat}{u:Int×Int}(h:Pas m ts C0 C k)(hw:InW m ts)(hu:(both ts)[k]?=some u):Pas m ts C0 (half C u.1 u.2) (k+1):=by
 obtain⟨t,ht,hh⟩:=OG (Zg hu);have hn:u.2∈nbs ts u.1:=pJ.mpr ⟨t,ht,hh.elim (fun e=>.inl ⟨by rw[e],by rw[e]⟩) fun e=>.inr ⟨by rw[e],by rw[e]⟩⟩;refine⟨KW h.1 hw hn,?_⟩;by_cases c:u.1∈C∧u.2∉C
 ·have lt:opn ts (C++[u.2])<opn ts C:=by
   refine AN (fun x _ hx=>?_) ⟨t,ht,?_,?_⟩
   ·simp only[Bool.not_eq_true',Bool.and_eq_false_iff,decide_eq_false_iff_not,Zf]at hx ⊢;exact hx.imp (fun z y=>z (.inl y)) fun z y=>z (.inl y)
   ·rcases hh with rfl | rfl<;>simp[c.1,c.2]
   ·rcases hh with rfl | rfl<;>simp[c.1]
  unfold half;rw[if_pos c]
  right
  rcases h.2 with⟨rfl,_⟩ | ⟨h1,h2⟩
  ·exact⟨fun z=>c.2 (hh.elim (fun e=>(e▸z t ht).mp c.1) fun e=>(e▸z t ht).mpr c.1),lt⟩
  ·exact⟨h1,by lia⟩
 ·unfold half;rw[if_neg c];refine h.2.imp (fun ⟨e,f⟩=>⟨e,fun j x hj hx h1=>?_⟩) id;by_cases hjk:j<k
  ·exact f j x hjk hx h1
  ·have:j=k:=by lia
   subst this;rw[hu]at hx;cases hx;subst e;exact ZS fun z=>c ⟨h1,z⟩
def Psd(m:Nat)(ts:Ts)(C:List Int)(k:Nat):Prop:=pQ m ts C∧(G1 ts C∨opn ts C+k≤ts.length)
theorem Psd.start{m:Nat}{ts:Ts}(h:0<m):Psd m ts [0] 0:=⟨pQ.start h,.inr List.countP_le_length⟩
theorem Pas.done{m:Nat}{ts:Ts}{C0 C:List Int}{k:Nat}(h0:Psd m ts C0 k)(h:Pas m ts C0 C (both ts).length):Psd m ts C (k+1):=by
 refine⟨h.1,?_⟩;rcases h.2 with⟨rfl,hc⟩ | ⟨h1,h2⟩
 ·left
  have al:∀u∈both ts,u.1∈C→u.2∈C:=fun u hu=>by
   obtain⟨j,hj,rfl⟩:=Yy.mp hu;exact hc j _ hj (Zz hj)
  exact fun t ht=>⟨al t (List.mem_append_left _ ht),al (t.2,t.1) (List.mem_append_right _ (Zh.mpr ⟨t,ht,rfl⟩))⟩
 ·exact .inr (h0.2.elim (fun z=>absurd z h1) fun z=>by lia)
theorem Psd.whole{m:Nat}{ts:Ts}{C:List Int}(h:Psd m ts C ts.length):C.length=m↔yX m ts:=by
 refine⟨h.1.whole,h.1.full ?_⟩;rcases h.2 with z | z
 ·exact z
 ·intro t ht;have:opn ts C=0:=by lia
  have:=List.countP_eq_zero.mp this t ht;simp only[Bool.not_eq_true',Bool.not_eq_false,Xw,decide_eq_true_eq]at this;simp[this.1,this.2]
end AW
namespace L2
open PySem PyProof.Rows
theorem TsI.put{H:Hp}{a r:Addr}{ts:AW.Ts}{tr:List Addr}(h0:H a=some (.lst (tr.map V.ref)))(h1:tr.length=ts.length)(h2:∀(i:Nat) t,ts[i]?=some t→∃r,tr[i]?=some r∧H r=some (.tup [.int t.1,.int t.2]))
  {x y:Int}(hr:H r=some (.tup [.int x,.int y])) (k:Nat):TsI (upd H a (.lst ((tr.map V.ref).set k (.ref r)))) a (ts.set k (x,y)):=by
 have ne:∀{b:Addr}{l:List V},H b=some (.tup l)→b≠a:=fun hb z=>by rw[z,h0]at hb;cases hb
 refine⟨tr.set k r,by rw[←List.map_set];exact aB,by rw[List.length_set,List.length_set,h1],fun i t e=>?_⟩;by_cases q:k=i
 ·subst q;by_cases hk:k<ts.length
  ·rw[List.getElem?_set_self hk]at e;cases e;exact⟨r,List.getElem?_set_self (by lia),by rw[aL (ne hr)];exact hr⟩
  ·rw[Zr (by rw[List.length_set];lia)]at e;cases e
 ·rw[List.getElem?_set_ne q]at e;obtain⟨b,q1,q2⟩:=h2 i t e;exact⟨b,by rw[List.getElem?_set_ne q];exact q1,by rw[aL (ne q2)];exact q2⟩
theorem TsI.more{H:Hp}{a l:Addr}{ts:AW.Ts}{tr:List Addr}(h1:tr.length=ts.length)(h2:∀(i:Nat) t,ts[i]?=some t→∃r,tr[i]?=some r∧H r=some (.tup [.int t.1,.int t.2]))
  {r:Addr}{x y:Int}(hl:H l=some (.lst (tr.map V.ref++[.ref r]))) (hr:H r=some (.tup [.int x,.int y])):TsI H l (ts++[(x,y)]):=by
 refine⟨tr++[r],by rw[hl,Zt];rfl,by simp[h1],fun i t e=>?_⟩;by_cases q:i<ts.length
 ·rw[Zx q]at e;obtain⟨b,q1,q2⟩:=h2 i t e;exact⟨b,by rw[Zx (by lia)];exact q1,q2⟩
 ·have hi:i=ts.length:=by
   have z:=(Zj.mp e).1;simp at z;lia
  subst hi;rw[Yx]at e;cases e;exact⟨r,by rw[←h1,Yx],hr⟩
end L2
theorem AW.flat_row(os:AW.Os)(p:Nat)(h:p<os.length):os[p].length≤os.flatten.length:=by
 have:=AW.jO os p [] h;rw[List.length_nil]at this;lia
theorem L2.rows_vv(os:AW.Os):((List.range os.length).map fun i=>(os.getD i []).map L2.V.int)=L2.vv os:=by
 refine Yn fun i=>?_;rw[Zk,Zk];by_cases hi:i<os.length
 ·rw[Yk hi,Zz hi];show some ((os.getD i []).map L2.V.int)=some (os[i].map L2.V.int);rw[Zv,Zz hi];rfl
 ·rw[Zr (by simpa using hi),Zr (by simpa using hi)];rfl
namespace K33
open PySem L2 PyProof.Rows
end K33
namespace L2
open PySem PySem.Spec PyProof.Rows
theorem yL{J:It}{js:List (Option Nat)}{σ:St}{H1:Hp}{R:Hp→Prop}{D:Addr}{g:TG}{te:TE}(n:Nat)(fs:Nat→Int×Int)(hD:H1 D=none)(hn:n≤100000)
  (go:∀i H',i<n→aW H1 H'→J.go i H') (stop:∀H',aW H1 H'→J.stop n H')
  (hs:∀i H' x H'' (k:V→Hp→Prop),i<n→aW H1 H'→J.yld i H' x H''→(∀a H4,aW H' H4→H4 a=some (.tup [.int (fs i).1,.int (fs i).2])→k (.ref a) H4)→g x (inner js σ) H'' fun σ2 H2=>Fills (inner js σ) σ2∧te σ2 H2 k)
  (hd:∀H',TsI H' D ((List.range n).map fs)→aW H1 H'→R H') :
  ∃W:Nat→Nat→List V→Hp→Prop,(∃m,W 0 m [] (upd H1 D (.lst []))) ∧
   ∀i m ys H,W i m ys H→(J.stop i H∧R H)∨(J.go i H∧∃N:List V→Hp→Prop,(∀ys' H',N ys' H'→∃m',m' < m∧W (i+1) m' ys' H')∧∀x H',J.yld i H x H'→g x (inner js σ) H' fun σ2 H2=>Fills (inner js σ) σ2∧wG σ2 H2 fun b H3 =>
    if b=true then te σ2 H3 fun y H4=>H4 D=some (.lst ys)∧ys.length<ZW∧N (ys++[y]) (upd H4 D (.lst (ys++[y]))) else N ys H3):=by
 refine comp_map n (fun i ys H'=>H' D=some (.lst ys)∧TsI H' D ((List.range i).map fs)∧aW H1 H') ⟨aB,⟨[],aB,rfl,fun i t h=>by simp at h⟩,aI hD _⟩ ?_ ?_
 ·rintro i ys H' hi ⟨hy,⟨tr,t1,t2,t3⟩,g1⟩;rw[hy]at t1;cases t1;have hl:tr.length=i:=by rw[t2];simp
  refine⟨go i H' hi g1,fun x H'' hyl=>hs i H' x H'' _ hi g1 hyl fun a H4 g4 e4=>⟨g4 _ _ hy,?_,aB,?_,(g1.trans g4).fresh hD _⟩⟩
  ·rw[Zq,hl];exact Yt hi (Yr hn (by decide))
  ·have ne:∀{b:Addr}{l:List V},H4 b=some (.tup l)→b≠D:=fun hb z=>by rw[z,g4 _ _ hy]at hb;cases hb
   rw[List.range_succ,Zt];exact TsI.more (a:=D) t2 (fun j t e=>let⟨r,r1,r2⟩:=t3 j t e;⟨r,r1,by rw[aL (ne (g4 _ _ r2))];exact g4 _ _ r2⟩) aB (by rw[aL (ne e4)];exact e4)
 ·rintro ys H' ⟨_,ht,g1⟩;exact⟨stop H' g1,hd H' ht g1⟩
theorem TsI.cat{H:Hp}{l:Addr}{ts us:AW.Ts}{tr ur:List Addr}(h1:tr.length=ts.length)(h2:∀(i:Nat) t,ts[i]?=some t→∃r,tr[i]?=some r∧H r=some (.tup [.int t.1,.int t.2]))(g1:ur.length=us.length)(g2:∀(i:Nat) t,us[i]?=some t→∃r,ur[i]?=some r∧H r=some (.tup [.int t.1,.int t.2]))
  (hl:H l=some (.lst (tr.map V.ref++ur.map V.ref))):TsI H l (ts++us):=by
 refine⟨tr++ur,by rw[hl,Zt],by simp[h1,g1],fun i t e=>?_⟩;by_cases q:i<ts.length
 ·rw[Zx q]at e;obtain⟨b,q1,q2⟩:=h2 i t e;exact⟨b,by rw[Zx (by lia)];exact q1,q2⟩
 ·rw[Zy (by lia)]at e;obtain⟨b,q1,q2⟩:=g2 _ t e;exact⟨b,by rw[Zy (by lia),h1];exact q1,q2⟩
def FQ(H:Hp)(q:Addr):Int×Int:=match H q with
 |some (.tup [.int a,.int b])=>(a,b)
 |_=>(0,0)
theorem HM{H:Hp}{q:Addr}{a b:Int}(h:H q=some (.tup [.int a,.int b])):FQ H q=(a,b):=by unfold FQ;rw[h]
theorem TsI.at_{H:Hp}{a:Addr}{ts:AW.Ts}(h:TsI H a ts):∃tr:List Addr,H a=some (.lst (tr.map V.ref))∧ts=tr.map (FQ H)∧∀q∈tr,H q=some (.tup [.int (FQ H q).1,.int (FQ H q).2]):=by
 obtain⟨tr,h1,h2,h3⟩:=h;refine⟨tr,h1,Yp (by simp[h2]) fun i i1 i2=>?_,fun q hq=>?_⟩
 ·obtain⟨r,r1,r2⟩:=h3 i _ (Zz i1);obtain⟨_,r1⟩:=Zj.mp r1;rw[List.getElem_map,r1,HM r2]
 ·obtain⟨i,hi,rfl⟩:=Yy.mp hq;obtain⟨r,r1,r2⟩:=h3 i _ (Zz (by lia));obtain⟨_,r1⟩:=Zj.mp r1;rw[r1,HM r2];exact r2
theorem TsI.of{H:Hp}{a:Addr}{tr:List Addr}(h1:H a=some (.lst (tr.map V.ref))){f:Addr→Int×Int}(h2:∀q∈tr,H q=some (.tup [.int (f q).1,.int (f q).2])):TsI H a (tr.map f):=by
 refine⟨tr,h1,by simp,fun i t e=>?_⟩;rw[Zk]at e;obtain⟨r,r1,rfl⟩:=Xz.mp e;exact⟨r,r1,h2 r (Zg r1)⟩
section
variable{X:Cx}
theorem B6:fC X (.builtin "sorted") (fun xs H Q=>∃(p:Addr) (ts:AW.Ts),xs=[.ref p]∧TsI H p ts∧ts.length<64 ∧
  ∀(l:Addr) (us:AW.Ts) (H':Hp),aW H H'→us.Perm ts→(us.Pairwise fun a b=>SO.lx (AW.ky b) (AW.ky a)=false)→TsI H' l us→Q (.ref l) H'):=by
 intro pins s σ H xs us Q I r h;obtain⟨p,ts,rfl,hT,h64,q⟩:=h;obtain⟨tr,h1,rfl,h3⟩:=hT.at_;refine B5 pins s σ H _ us Q I r ⟨p,tr,fun q=>AW.ky (FQ H q),rfl,SqL.of h1,fun q hq=>⟨List.cons_ne_nil _ _,SqT.of (h3 q hq)⟩,by simpa using h64,fun l ps hl hp hs=>?_⟩;have g:=aI hl (.lst (ps.map V.ref));exact q l (ps.map (FQ H)) _ g (hp.map _) (List.pairwise_map.mpr hs) (TsI.of aB fun x hx=>g _ _ (h3 x (hp.mem_iff.mp hx)))
end
theorem IT:∀a b:AW.Ts,PyData.eqvAll (dTI a) (dTI b)=decide (a=b)
 |[],[]=>rfl
 |[],_::_=>rfl
 |_::_,[]=>rfl
 |x::a,y::b=>by
  show(PyData.eqv (.tuple [.int x.1,.int x.2]) (.tuple [.int y.1,.int y.2])&&PyData.eqvAll (dTI a) (dTI b))=_;rw[IT a b,Xx];simp only[PyData.eqv,PyData.eqvAll];simp[Prod.ext_iff]
theorem QR(a b:AW.Ts):PyData.eqv (.list (dTI a)) (.list (dTI b))=decide (a=b):=IT a b
theorem TsI.bd{K:PySem.W.Frag}{H:Hp}{a:Addr}{ts:AW.Ts}(h:TsI H a ts):Bd K H (.ref a) (.list (dTI ts)):=by
 obtain⟨tr,t1,t2,t3⟩:=h;refine .lst (SqL.of t1) (CB _ _ (by rw[dTI,Zq,Zq,t2]) fun i x d hx hd=>?_);obtain⟨t,r,e1,rfl,e2⟩:=TsI.nth (a:=a) t2 t3 hx;rw[dTI,Zk,e1]at hd;cases hd;exact .tup (SqT.of e2) (.cons (.int _) (.cons (.int _) .nil))
theorem rJ(ts:AW.Ts):SeqAt.shaped (.list (dTI ts))=true:=by
 have h1:PyData.canLayAll0 (dTI ts)=true∧PyData.depthAll (dTI ts)≤3:=sG 3 fun d hd=>by
  obtain⟨n,_,rfl⟩:=Zh.mp hd;exact⟨rfl,by simp[PyData.depth,PyData.depthAll]⟩
 unfold SeqAt.shaped;rw[Xw];refine⟨h1.1,decide_eq_true ?_⟩;rw[PyData.depth]
 lia
theorem EN{x y e:Int}:atI [V.int x,V.int y] (e%2)=some (.int (if e%2=0 then x else y)):=by
 have h:e%2=0∨e%2=1:=by lia
 rcases h with h | h
 ·rw[h];rfl
 ·rw[h];rfl
end L2
theorem AW.map_getD{α:Type}(o:List Int)(f:Int→α):(List.range o.length).map (fun j=>f (o.getD j 0))=o.map f:=by
 refine Yp (by simp) fun i h1 h2=>?_;have hi:i<o.length:=by simpa using h1
 simp[Zv,Zz hi]
namespace K33
open PySem L2 PyProof.Rows
def MD:Sp:=fun vs H Q _=>∃(a:Addr) (ts:AW.Ts) (n:Nat),vs=[.ref a,vn n]∧TsI H a ts∧n<2*ts.length∧Q (.int (AW.plc ts n)) H
theorem KB(T:Txt K mg t):bQ P w K mg base CX0 1 t.uE t.uC ["_law_ties","_law_end"] MD:=by
 refine T.jG.F.ok wK (fun vs H Q E h=>?_) (fun cdv A outer s H vs Q E hr h=>?_)
 ·obtain⟨a,ts,n,rfl,_⟩:=h;rfl
 obtain⟨a,ts,n,rfl,⟨tr,e1,e2,e3⟩,h1,q⟩:=h;have hn:n / 2<ts.length:=by lia
 obtain⟨r,f1,f2⟩:=e3 (n / 2) ts[n / 2] (Zz hn);refine⟨_,(aK (bC (aM oH (aM aV (pv 0) (aX eQ (pv 1) aH) (fun _ _=>rfl)) (aX dE (pv 1) aH) (fun _ _=>rfl)))),?_⟩;refine⟨_,rfl,(aN _ rfl _ _ rfl ⟨ rfl,⟨by decide,by decide⟩,(aG a _ _ (.ref r) rfl ⟨ rfl,SqL.of e1,(by show atI _ ((n:Int) / 2)=_;rw[show(n:Int) / 2=((n / 2:Nat):Int) by lia];exact c9 (by rw[Zk,f1];rfl)),?_⟩)⟩)⟩;refine(aN _ rfl _ _ rfl ⟨ rfl,(by show(0:Int)<2;decide),.inr (.inl (aG r _ _ _ rfl ⟨ rfl,SqT.of f2,EN,?_⟩))⟩);have e:(if (n:Int)%2=0 then ts[n / 2].1 else ts[n / 2].2)=AW.plc ts n:=by
  unfold AW.plc;rw[Zz hn];simp only[Option.map_some,Option.getD_some];by_cases c:n%2=0
  ·rw[if_pos c,if_pos (by lia)]
  ·rw[if_neg c,if_neg (by lia)]
 rw[e];exact q
def V3:Sp:=fun vs H Q _=>∃(wa:Addr) (m:Int) (ts:AW.Ts) (os:AW.Os),vs=[.ref wa]∧mH H wa m ts os∧1≤ts.length∧ts.length≤100∧m≤200∧os.flatten.length≤63 ∧
 ∀(b:Bool) (H':Hp),aW H H'→(b=true↔AW.pB m ts os)→Q (.bl b) H'
theorem U0(T:Txt K mg t):bQ P w K mg base CX0 2 t.yU t.yI ["_law_web"] V3:=by
 refine T.xZ.F.ok uM (fun vs H Q E h=>?_) (fun cdv A outer s H vs Q E hr h=>?_)
 ·obtain⟨wa,m,ts,os,rfl,_⟩:=h;rfl
 obtain⟨wa,m,ts,os,rfl,⟨tA,oA,hw,hT,hO⟩,ht1,ht2,hm2,hfl,q⟩:=h;have nd:=uM.nd;have nd_l_one_l_other_here:(["_law_one","_law_other_here"]:List Str).Nodup:=by decide
 have nd_l_end_l_ties:(["_law_end","_law_ties"]:List Str).Nodup:=by decide
 have nd_l_end_l_place_here:(["_law_end","_law_place_here"]:List Str).Nodup:=by decide
 have nd_l_order:(["_law_order"]:List Str).Nodup:=by decide
 refine⟨_,(aE (l7 (pv 0) (dU rfl (aY (aQ (i:=1) nd rfl (Or.inl rfl)) (aY (aQ (i:=2) nd rfl (Or.inr rfl)) (aY (aQ (i:=3) nd rfl (Or.inl rfl)) cH)))))
  (aE (cC (PW.pt (rT (aZ fS (pv 1) aH (bD _)) (rT (aZ xD (aT aO rfl T.cP PySem.boot_len (aA (pv 3) aC)) (pv 1) (bD _)) (nN (aZ zZ (aT (LA rfl) rfl T.QZ boot_max (aA (fO (N':=["_law_order"]) (js:=[none]) rfl (cK (pv 3)) (fun _ _ _ _ _=>(aQ (i:=0) nd_l_order rfl (Or.inl rfl))) (fun _ _ _ _ _=>dN) (fun _ _ _ _ _=>(aT (KP (K:=K) rfl) rfl T.cP PySem.boot_len (aA (pv 0) aC)))) aC)) aH (bD _)))))) (aK (bC pT)) bJ)
  (aE (cY PassesOwn.never rfl (cK (pv 2)) (dU rfl (aY (aQ (i:=4) nd rfl (Or.inl rfl)) (aY (aQ (i:=5) nd rfl (Or.inl rfl)) cH))) (aK (cC (PW.pt (rT (aZ fS (aT (AQ rfl) rfl T.LK boot_min (aA (pv 4) (aA (pv 5) aC))) aH (bD _)) (nN (aZ M9 (aT (LB rfl) rfl T.QZ boot_max (aA (pv 4) (aA (pv 5) aC))) (pv 1) (bD _))))) (aK (bC pT)) bJ)))
  (aE (a7 6 nd (bS aC))
  (aE (cY PassesOwn.never rfl (fN rfl T.dA (aA (pv 3) aC)) (dU rfl (aY (aQ (i:=7) nd rfl (Or.inr rfl)) (aY (aQ (i:=8) nd rfl (Or.inl rfl)) cH))) (aK (a7 6 nd (aX tW (pv 6) (fO (N':=["_law_end","_law_place_here"]) (js:=[none,some 7]) rfl (cK (pv 8)) (fun _ _ _ _ _=>(aQ (i:=0) nd_l_end_l_place_here rfl (Or.inl rfl))) (fun _ _ _ _ _=>dN) (fun _ _ _ _ _=>(bX (aA (pv 0) (aA (pv 1) aC)))))))))
  (aE (cC (aZ (qO hr.units) (aT B6 rfl T.qZ boot_sorted (aA (pv 6) aC)) (fO (N':=["_law_end","_law_ties"]) (js:=[none,some 2]) rfl (dI rfl T.eA (aA (aX dW aH (aT aO rfl T.cP PySem.boot_len (aA (pv 2) aC))) aC)) (fun _ _ _ _ _=>(aQ (i:=0) nd_l_end_l_ties rfl (Or.inl rfl))) (fun _ _ _ _ _=>dN) (fun _ _ _ _ _=>(bX (aA (pv 0) (aA (bR (KB T) hr T.jG bE (aA (pv 1) (aA (pv 0) aC))) aC))))) (bD _)) (aK (bC pT)) bJ)
  (aE (a7 9 nd (bS (aA aH aC)))
  (aE (cY PassesOwn.never rfl (cK (pv 2)) (aQ (i:=10) nd rfl (Or.inl rfl)) (aK (cY PassesOwn.never rfl (cK (aX tW (pv 2) (fO (N':=["_law_one","_law_other_here"]) (js:=[none,none]) rfl (cK (pv 2)) (fun _ _ _ _ _=>(mD (K:=K) (n:=2) rfl rfl (aY (aQ (i:=0) nd_l_one_l_other_here rfl (Or.inl rfl)) (aY (aQ (i:=1) nd_l_one_l_other_here rfl (Or.inl rfl)) cH)))) (fun _ _ _ _ _=>dN) (fun _ _ _ _ _=>(bX (aA (pv 1) (aA (pv 0) aC))))))) (dU rfl (aY (aQ (i:=4) nd rfl (Or.inl rfl)) (aY (aQ (i:=5) nd rfl (Or.inl rfl)) cH))) (aK (cC (PW.pt (gS (aZ J9 (pv 4) (pv 9) rfl) (gG (aZ rY (pv 5) (pv 9) rfl)))) (aK (bN (kO mAp cD (pv 9) (aA (pv 5) aC)))) bJ)))))
  (aK (bC (iY fK (aT aO rfl T.cP PySem.boot_len (aA (pv 9) aC)) (pv 1) (bD _)))))))))))),?_⟩
 obtain⟨tr,e1,e2,e3⟩:=id hT;obtain⟨or,o1,o2,o3⟩:=id hO;have no:∀{H'},aW H H'→¬AW.pB m ts os→Q (.bl false) H':=fun g z=>q false _ g ⟨fun y=>Bool.noConfusion y,fun y=>absurd y z⟩;refine(aN _ rfl wa _ rfl (bB (SqT.of hw) rfl _ _ rfl ⟨ _,(aN _ rfl _ _ rfl ⟨ rfl,?_⟩)⟩));refine(aN _ rfl _ _ rfl ⟨ rfl,_,rfl,eY (fun c=>gO ?_) (fun c1=>?_)⟩)
 ·exact no (aW.refl _) fun z=>by have:=z.1.1;have:=of_decide_eq_true c;lia
 have c1:1≤m:=by simpa using c1
 refine(aN _ rfl oA _ rfl ⟨ .inl (SqL.of o1),(bW _ rfl rfl _ rfl ?_)⟩);rw[Zq,o2];by_cases c5:(os.length:Int)=m
 case neg =>
  rw[show(!decide ((V.int (os.length:Nat))=V.int m))=true by rw[decide_eq_false (fun z=>c5 (V.int.inj z))];rfl];exact gO (gO (no (aW.refl _) fun z=>c5 z.2.2.1))
 rw[show(!decide ((V.int (os.length:Nat))=V.int m))=false by rw[decide_eq_true (congrArg V.int c5)];rfl];refine dX ?_;obtain⟨n,rfl⟩:=Xv (show 0≤m by lia);have c5:os.length=n:=Int.ofNat.inj c5;refine(cG _ rfl oA rfl ⟨_,SqL.of o1⟩ (fun D hD=>?_));refine fG n (fun i=>.int ((os.getD i []).length:Nat)) hD (by lia) (fun i H' hi g=>⟨_,.ref (or[i]'(by lia)),SqL.of (g _ _ o1),by rw[Zk,Zz (by lia)];rfl⟩) (fun H' g=>⟨_,SqL.of (g _ _ o1),by rw[Zq,o2,c5];exact Nat.le_refl _⟩) ?_ ?_
 ·rintro i H' x H'' k hi g ⟨rfl,hx⟩ hk;obtain⟨o,r,eo,rfl,er⟩:=OsI.nth o2 o3 (hx _ (SqL.of (g _ _ o1)));refine⟨(Fills.refl _).set _ rfl,(aN _ rfl r _ rfl ⟨ .inl (SqL.of (g _ _ er)),?_⟩)⟩;rw[Zq,show o=os.getD i [] by rw[Zv,eo];rfl];exact hk _ (aW.refl _)
 intro H1 g1 hD1;refine(bH D ((List.range n).map fun i=>((os.getD i []).length:Int)) rfl (SqL.of (by rw[Yh];exact hD1)) (by simp;lia) (fun mx mx1 mx2=>?_));refine⟨_,(bW _ rfl rfl _ rfl (eY (fun c=>?_) (fun c4=>?_)))⟩
 ·refine no g1 fun z=>?_;obtain⟨i,hi,rfl⟩:=Zh.mp mx1;have hi:i<os.length:=by rw[c5];exact Zs.mp hi
  have:=(z.2.2.2.1 i os[i] (Zz hi)).1;have c:=of_decide_eq_true c;rw[Zv,Zz hi,Option.getD_some]at c
  lia
 have c4:∀(i:Nat) o,os[i]?=some o→o.length≤4:=fun i o ho=>by
  have hi:=(Zj.mp ho).1;have:=mx2 _ (Zh.mpr ⟨i,Zs.mpr (by lia),rfl⟩);rw[Zv,ho,Option.getD_some]at this;have:=of_decide_eq_false (Bool.eq_false_iff.mpr c4)
  lia
 clear mx1 mx2 hD1;refine(cG _ rfl tA rfl ⟨_,SqL.of (g1 _ _ e1)⟩ (fA (K:=K) (a:=tA) (xs:=tr.map V.ref) (fun k σ H'=>(∃v4 v5,σ=[some (.ref wa),some (vn n),some (.ref tA),some (.ref oA),v4,v5,none,none,none,none,none])∧H1=H'∧∀(i:Nat) t,i<k→ts[i]?=some t→(0≤t.1∧t.1<n)∧0≤t.2∧t.2<n) ⟨⟨_,_,rfl⟩,rfl,fun i t hi=>by lia⟩ ?_ ?_ ?_))
 ·rintro i σ H' hi ⟨_,rfl,_⟩;exact SqL.of (g1 _ _ e1)
 ·rintro i x σ H' hx ⟨⟨v4,v5,rfl⟩,rfl,ih⟩;obtain⟨⟨u,v⟩,r,et,rfl,er⟩:=TsI.nth (a:=tA) e2 e3 hx;refine(bH r _ rfl (SqT.of (g1 _ _ er)) rfl ⟨ _,(aN _ rfl _ _ rfl ⟨ rfl,?_⟩)⟩);have bad:¬((0≤u∧u<n)∧0≤v∧v<n)→Q (.bl false) H1:=fun z=>no g1 fun y=>z (y.2.1 _ (Zg et));refine⟨_,rfl,(aN _ rfl _ _ rfl ⟨ _,(bW _ rfl rfl _ rfl (eY (fun c=>gO (bad fun z=>?_)) (fun d1=>?_)))⟩)⟩
  ·have:=of_decide_eq_true c;split at this<;>omega
  refine⟨_,rfl,(aN _ rfl _ _ rfl (aN _ rfl _ _ rfl ⟨ rfl,_,rfl,eY (fun c=>bad fun z=>?_) (fun d2=>?_)⟩))⟩
  ·have:=of_decide_eq_true c;split at this<;>omega
  have d1:=of_decide_eq_false (Bool.eq_false_iff.mpr d1);have d2:=of_decide_eq_false (Bool.eq_false_iff.mpr d2);refine⟨⟨_,_,rfl⟩,rfl,fun j t hj ht=>?_⟩;by_cases hj2:j<i
  ·exact ih j t hj2 ht
  ·have:j=i:=by lia
   subst this;rw[et]at ht;cases ht;show(0≤u∧u<n)∧0≤v∧v<n;split at d1<;>split at d2<;>omega
 rintro σ H' ⟨⟨v4,v5,rfl⟩,rfl,hin⟩;have c6:AW.InW n ts:=fun t ht=>by
  obtain⟨i,hi,rfl⟩:=Yy.mp ht;exact hin i _ (by rw[Zq,e2];exact hi) (Zz hi)
 clear hin;have lrw:∀k,(AW.rws 0 (os.take k)).length≤63:=fun k=>by
  have h1:(AW.rws 0 (os.take k)).length=(os.take k).flatten.length:=by rw[←AW.vT (os.take k) 0,Zq]
  have h2:(os.take k).flatten.length≤os.flatten.length:=by
   conv=>rhs;rw[←List.take_append_drop k os]
   rw[List.flatten_append,Zm]
   lia
  lia
 refine⟨(by show 0≤ZW;decide),fun rA hrA=>?_⟩;refine(cG _ rfl oA rfl ⟨_,SqL.of (aI hrA _ _ _ (g1 _ _ o1))⟩ (gI (K:=K) (a:=oA) (xs:=or.map V.ref) (fun k σ H'=>(∃rA v7 v8,σ=[some (.ref wa),some (vn n),some (.ref tA),some (.ref oA),v4,v5,some (.ref rA),v7,v8,none,none]∧TsI H' rA (AW.rws 0 (os.take k)))∧aW H H') ⟨⟨rA,(wB _ _ rfl ([]) aB ⟨ rfl,fun i t h=>by simp[AW.rws]at h⟩)⟩,g1.trans (aI hrA _)⟩ ?_ ?_ ?_))
 ·rintro i σ H' hi ⟨_,g⟩;exact SqL.of (g _ _ o1)
 ·rintro i x σ H' Tp hx ⟨⟨rA,v7,v8,rfl,hR⟩,g⟩ hTp;obtain⟨o,r,eo,rfl,er⟩:=OsI.nth o2 o3 hx;have g4:=g.trans (aI hTp (.tup [vn i,.ref r]));have hR4:=hR.same (aI hTp (.tup [vn i,.ref r]));refine(bH Tp _ rfl (SqT.of aB) rfl ⟨ _,(aN _ rfl _ _ rfl ⟨ rfl,?_⟩)⟩);have hol:=c4 i o eo;have ot:os.take (i+1)=os.take i++[o]:=by rw[List.take_add_one,eo];rfl
  refine⟨_,(bO rfl _ rfl r rfl ⟨ ⟨_,SqL.of (g4 _ _ er)⟩,fun D hD=>?_⟩)⟩;refine yL o.length (fun j=>(o.getD j 0,(i:Int))) hD (by lia) (fun j H5 hj g5=>⟨_,.int o[j],SqL.of (g5 _ _ (g4 _ _ er)),by rw[Zk,Zz hj];rfl⟩) (fun H5 g5=>⟨_,SqL.of (g5 _ _ (g4 _ _ er)),by rw[Zq];exact Nat.le_refl _⟩) ?_ ?_
  ·rintro j H5 x H6 k hj g5 ⟨rfl,hx⟩ hk;have ex:=hx _ (SqL.of (g5 _ _ (g4 _ _ er)));rw[Zk,Zz hj]at ex;cases ex;exact(bO ((Fills.refl _).set _ rfl) _ rfl _ rfl ⟨ (by show 2≤ZW;decide),fun a ha=>hk a _ (aI ha _) (by rw[aB,Zv,Zz hj];rfl)⟩)
  intro H5 hN g5;obtain⟨pr,p1,p2,p3⟩:=hR4.same g5;obtain⟨ur,u1,u2,u3⟩:=hN;refine(aG rA D _ _ rfl ⟨ rfl,p1,u1,?_,fun p hp=>⟨⟨p,_,_,rfl,?_⟩,(g4.trans g5).trans (aI hp _)⟩⟩)
  ·rw[Zq,Zq,p2,u2,Zq,Yj];have:=lrw i;exact Yr (show _≤100 by lia) (by decide)
  ·have k:=aI hp (.lst (pr.map V.ref++ur.map V.ref));have il:(os.take i).length=i:=by rw[Yw];have:=(Zj.mp eo).1;lia
   rw[ot,AW.C4,il,Nat.zero_add,←AW.map_getD o fun e=>(e,(i:Int))];exact TsI.cat p2 (fun j t e=>let⟨r,r1,r2⟩:=p3 j t e;⟨r,r1,k _ _ r2⟩) u2 (fun j t e=>let⟨r,r1,r2⟩:=u3 j t e;⟨r,r1,k _ _ r2⟩) aB
 rintro σ H2 ⟨⟨rA,v7,v8,rfl,hR⟩,g2⟩;rw[Zq,o2,Yv]at hR;have lR:(AW.rws 0 os).length<64:=by have:=lrw os.length;rw[Yv]at this;lia
 refine(aN _ rfl rA _ rfl ⟨ hR,lR,fun sA us H3 g3 sp ss hS=>?_⟩);have g03:=g2.trans g3;refine(aN _ rfl tA _ rfl (cM (.inl (SqL.of (g03 _ _ e1))) _ _ rfl rfl ⟨ .inl ⟨by decide,by decide⟩,?_⟩));rw[Zq,e2];refine⟨_,rfl,by lia,by lia,fun D hD=>?_⟩;refine yL (2*ts.length) (fun j=>((j:Int),AW.plc ts j)) hD (by lia) (fun j H5 hj g5=>(by show j<(2*((ts.length:Nat):Int)).toNat;lia)) (fun H5 g5=>(by show(2*((ts.length:Nat):Int)).toNat≤2*ts.length;lia)) ?_ ?_
 ·rintro j H5 x H6 k hj g5 ⟨rfl,rfl⟩ hk;refine(bO ((Fills.refl _).set _ rfl) _ rfl _ rfl ⟨ _,(cU rfl tA ts j ?_ ⟨ hT.same (g03.trans g5),hj,(by show 2≤ZW;decide),fun a ha=>hk a _ (aI ha _) ?_⟩)⟩)
  ·rw[Int.zero_add];rfl
  ·rw[aB,Int.zero_add]
 intro H5 hN g5;have hN:TsI H5 D (AW.prs ts):=by
  have e:(List.range (2*ts.length)).map (fun j:Nat=>((j:Int),AW.plc ts j))=AW.prs ts:=by unfold AW.prs AW.all2;rw[Yh];rfl
  rw[←e];exact hN
 have g05:=g03.trans g5;refine(bH _ _ ((hS.same g5).bd) hN.bd (rJ _) ⟨ rJ _,_,rfl,?_⟩);rw[QR];by_cases c7:us=AW.prs ts
 case neg =>
  rw[decide_eq_false c7];refine gO (no g05 fun z=>c7 ?_);have f:=(AW.BY c6 z.2.2.1).mp z.2.2.2.1;exact AW.M7 (sp.trans (AW.C6.mpr ⟨f.1,fun i o ho=>(f.2 i o ho).2⟩)) ss (AW.R8 ts)
 rw[decide_eq_true c7];have c8:=AW.C6.mp (c7▸sp.symm);have c8:AW.Fit ts os:=(AW.BY c6 (congrArg Int.ofNat c5)).mpr ⟨c8.1,fun i o ho=>⟨c4 i o ho,c8.2 i o ho⟩⟩;refine dX ?_;clear c7 sp ss hS hN g5 g3 lR hR;refine⟨(by show 1≤ZW;decide),fun cA hcA=>?_⟩;have c0:H cA=none:=g05.free hcA;refine(cG _ rfl tA rfl ⟨_,SqL.of (aI hcA _ _ _ (g05 _ _ e1))⟩ (fA (K:=K) (a:=tA) (xs:=tr.map V.ref) (fun k σ H'=>(∃v4 v5 v10,σ=[some (.ref wa),some (vn n),some (.ref tA),some (.ref oA),v4,v5,some (.ref rA),v7,v8,some (.ref cA),v10])∧aW H H'∧∃C:List Int,H' cA=some (.lst (C.map V.int))∧AW.Psd n ts C k) ⟨⟨_,_,_,rfl⟩,g05.trans (aI hcA _),[0],aB,.start (by lia)⟩ ?_ ?_ ?_))
 ·rintro i σ H' hi ⟨_,g,_⟩;exact SqL.of (g _ _ e1)
 ·rintro i x σ H' hx ⟨⟨v4',v5',v10,rfl⟩,g,C0,hC0,hp⟩;refine⟨_,(bO rfl _ rfl tA rfl ⟨ ⟨_,SqL.of (g _ _ e1)⟩,fun D hD=>?_⟩)⟩;refine yL ts.length (fun j=>((ts.getD j (0,0)).2,(ts.getD j (0,0)).1)) hD (by lia) (fun j H5 hj g5=>⟨_,.ref (tr[j]'(by lia)),SqL.of (g5 _ _ (g _ _ e1)),by rw[Zk,Zz (by lia)];rfl⟩) (fun H5 g5=>⟨_,SqL.of (g5 _ _ (g _ _ e1)),by rw[Zq,e2];exact Nat.le_refl _⟩) ?_ ?_
  ·rintro j H5 x H6 k hj g5 ⟨rfl,hx⟩ hk;obtain⟨⟨u,v⟩,r,et,rfl,er⟩:=TsI.nth (a:=tA) e2 e3 (hx _ (SqL.of (g5 _ _ (g _ _ e1))));exact(bH r _ rfl (SqT.of (g5 _ _ (g _ _ er))) rfl ⟨ _,(aN _ rfl _ _ rfl ⟨ rfl,(bO (((Fills.refl _).set _ rfl).set _ rfl) _ rfl _ rfl ⟨ (by show 2≤ZW;decide),fun a ha=>hk a _ (aI ha _) (by rw[aB,Zv,et];rfl)⟩)⟩)⟩)
  intro H5 hN g5;obtain⟨ur,u1,u2,u3⟩:=hN;have g5':=g.trans g5;have e5:=g5' _ _ e1;refine(aG tA D _ _ rfl ⟨ rfl,e5,u1,?_,fun bA hbA=>?_⟩)
  ·rw[Zq,Zq,u2,Zq,Yj];exact Yr (show _≤1000 by lia) (by decide)
  have k6:=aI hbA (.lst (tr.map V.ref++ur.map V.ref));have hB:TsI (upd H5 bA (.lst (tr.map V.ref++ur.map V.ref))) bA (AW.both ts):=by
   unfold AW.both;rw[show(ts.map fun t=>(t.2,t.1))=(List.range ts.length).map fun j=>((ts.getD j (0,0)).2,(ts.getD j (0,0)).1) by
    refine Yp (by simp) fun i h1 h2=>?_;have hi:i<ts.length:=by simpa using h1
    simp[Zv,Zz hi]]
   exact TsI.cat e2 (fun j t e=>let⟨r,r1,r2⟩:=e3 j t e;⟨r,r1,k6 _ _ (g5' _ _ r2)⟩) u2 (fun j t e=>let⟨r,r1,r2⟩:=u3 j t e;⟨r,r1,k6 _ _ r2⟩) aB
  have g6:=g5'.trans k6;have hC6:=(g5.trans k6) _ _ hC0;have cb:cA≠bA:=fun z=>by rw[z]at hC0;rw[g5 _ _ hC0]at hbA;cases hbA
  generalize upd H5 bA (.lst (tr.map V.ref++ur.map V.ref))=H6 at hB g6 hC6;obtain⟨br,b1,b2,b3⟩:=id hB;refine⟨bA,rfl,⟨_,SqL.of b1⟩,fA (K:=K) (a:=bA) (xs:=br.map V.ref) (fun k σ H7=>(∃v4 v5,σ=[some (.ref wa),some (vn n),some (.ref tA),some (.ref oA),v4,v5,some (.ref rA),v7,v8,some (.ref cA),some x])∧aW H H7∧TsI H7 bA (AW.both ts)∧H7 bA=some (.lst (br.map V.ref))∧∃C:List Int,H7 cA=some (.lst (C.map V.int))∧AW.Pas n ts C0 C k) ⟨⟨_,_,rfl⟩,(aR g6 hB b1 C0 hC6 ⟨ hp.1,.inl ⟨rfl,fun j t hj=>absurd hj (Nat.not_lt_zero _)⟩⟩)⟩ ?_ ?_ ?_⟩
  ·rintro k σ H7 hk ⟨_,_,_,h,_⟩;exact SqL.of h
  ·rintro k y σ H7 hy ⟨⟨v4'',v5'',rfl⟩,g7,hB7,b7,C,hC,hP⟩;obtain⟨br',q1,q2,q3⟩:=id hB7;rw[b7]at q1;obtain rfl:br=br':=(List.map_inj_right fun a b e=>V.ref.inj e).mp (HO.lst.inj (Option.some.inj q1));obtain⟨⟨u,v⟩,r,et,rfl,er⟩:=TsI.nth (a:=bA) q2 q3 hy;have hP2:=hP.next c6 et;have l1:=hP.1.le;refine(bH r _ rfl (SqT.of er) rfl ⟨ _,(aN _ rfl _ _ rfl ⟨ rfl,?_⟩)⟩);refine⟨_,rfl,(aN _ rfl cA _ rfl (aR (.inl (SqL.of hC)) rfl (AG _) _ rfl ?_))⟩;by_cases d1:u∈C
   case neg =>
    refine eZ (by simp[sJ,d1]) (dX ⟨⟨_,_,rfl⟩,(aR g7 hB7 b7 _ ?_ hP2)⟩);rw[show AW.half C u v=C by unfold AW.half;rw[if_neg (fun z=>d1 z.1)]];exact hC
   refine eV (by simp[sJ,d1]) ⟨_,rfl,(aN _ rfl cA _ rfl (aR (.inl (SqL.of hC)) rfl (AG _) _ rfl ?_))⟩;by_cases d2:v∈C
   ·refine eZ (by simp[sJ,d2]) ⟨⟨_,_,rfl⟩,(aR g7 hB7 b7 _ ?_ hP2)⟩;rw[show AW.half C u v=C by unfold AW.half;rw[if_neg (fun z=>z.2 d2)]];exact hC
   ·refine eV (by simp[sJ,d2]) (bW _ rfl (.inl ⟨rfl,_,SqL.of hC⟩) _ rfl (bV cA _ _ rfl rfl (bG hC (Ys (show _≤200 by rw[Zq];lia) (by decide)) ⟨_,_,rfl⟩ (g7.fresh c0 _) ?_ ⟨ by rw[aL cb.symm];exact b7,_,?_,hP2⟩)))
    ·exact⟨br,by rw[aL cb.symm];exact b7,q2,fun j t e=>let⟨r,r1,r2⟩:=q3 j t e;⟨r,r1,by rw[aL (show r≠cA from fun z=>by rw[z,hC]at r2;cases r2)];exact r2⟩⟩
    ·rw[show AW.half C u v=C++[v] by unfold AW.half;rw[if_pos ⟨d1,d2⟩],Zt];exact aB
  ·rintro σ H7 ⟨⟨v4'',v5'',rfl⟩,g7,_,_,C,hC,hP⟩;rw[Zq,b2]at hP;exact⟨⟨_,_,_,rfl⟩,g7,C,hC,hP.done hp⟩
 rintro σ H6 ⟨⟨v4',v5',v10,rfl⟩,g6,C,hC,hp⟩;rw[Zq,e2]at hp;refine(aN _ rfl cA _ rfl ⟨ .inl (SqL.of hC),_,rfl,rfl,q _ _ g6 ?_⟩);have hz:=hp.whole;rw[Zq,decide_eq_true_iff];exact⟨fun z=>⟨⟨⟨c1,hm2⟩,ht1,by lia⟩,c6,congrArg Int.ofNat c5,c8,hz.mp (Int.ofNat.inj (V.int.inj z))⟩,fun z=>congrArg (fun i:Nat=>V.int (i:Int)) (hz.mpr z.2.2.2.2)⟩
end K33
namespace L2
open PySem PySem.Spec PyProof.Rows
section
variable{X:Cx}{pos:Pos}
def T8(i j k:Nat)(ta:TA):TS:=fun D σ H=>ta σ H fun vs H1=>∃u v w,vs=[u,v,w]∧D.nx (((σ.set i (some u)).set j (some v)).set k (some w)) H1
theorem PQ{i j k:Nat}{x y z:Str}{a b c:Expr}{ta:TA}{px py pz pt:Pos}{kt k2 pt2}(hc:X.calm=true)(hN:X.N.Nodup)(hi:X.N[i]?=some x)(hj:X.N[j]?=some y)(hk:X.N[k]?=some z)(hij:i≠j)(hik:i≠k)(hjk:j≠k)
  (hx:X.env.scope.names.lookup x=some .local) (hy:X.env.scope.names.lookup y=some .local) (hz:X.env.scope.names.lookup z=some .local) (ha:PA X [a,b,c] ta)
  (hw:swappedStores [.Tuple [.Name x px,.Name y py,.Name z pz] kt pt] (.Tuple [a,b,c] k2 pt2) X.env=pure (some [x,y,z]))
  (hs:swapsWithSole [.Tuple [.Name x px,.Name y py,.Name z pz] kt pt] (.Tuple [a,b,c] k2 pt2) pos.line X.env=pure false) :
  PS X (.Assign [.Tuple [.Name x px,.Name y py,.Name z pz] kt pt] (.Tuple [a,b,c] k2 pt2) pos) (T8 i j k ta):=by
 intro pins s σ H D I h;rw[exec_Assign_arm];refine ZZ (wpAny_standAt ?_);rw[hs];refine ZZ (ZY ?_);rw[if_neg (by decide)];refine ZZ (Tuple_ (thn (ha _ pins s σ H _ I h) fun us s1 z1=>?_));obtain⟨vs,H1,I1,r1,u,v,w,e1,q1⟩:=z1;subst e1;cases r1 with | cons r1 r=>cases r with | cons r2 r=>cases r with | cons r3 r =>
 cases r
 rename_i u1 u2 u3
 refine wpAny_newObj_type ?_ (show 3≤ZW by decide);have I2:Inv X pins σ H1 { s1 with heap:=s1.heap.push { cls:=.type "tuple",data:=.seq [u1,u2,u3].toArray } }:=I1.kept (t':=s1.toks) fun _ _ e=>Heap.get?_push_of_some _ e;rw[hw];refine ZZ (ZY ?_);show wpAny (model X.prog X.w) X.A (do
  rule "assign.swapped-stores"
  let items ←unpackItems (.ref s1.heap.objs.size) 3 none
  assignInOrder [fun v=>bindName X.env z v,fun v=>bindName X.env y v,fun v=>bindName X.env x v] items.reverse
  pure Flow.next) _ _ _
 refine ZZ (wpAny_rule (ZZ (unpackItems_tuple (items:=#[u1,u2,u3]) (I.ok.hd hc) (IsTup.new s1.heap _) fun h' hx'=>?_)));have I3:=I2.kept (h':=h') (t':=s1.toks) fun b o e=>hx' b o (Nat.ne_of_lt (Heap.lt_size e)) e;show wpAny _ _ (assignInOrder [fun v=>bindName X.env z v,fun v=>bindName X.env y v,fun v=>bindName X.env x v] [u3,u2,u1] >>= fun _=>pure Flow.next) _ _ _;refine ZZ (assignInOrder_cons (wpAny_bindName (iM I3 hN hk (.inl hz) r3 (fun s2 I4=>?_) (.inr hz))));refine assignInOrder_cons (wpAny_bindName (iM I4 hN hj (.inl hy) r2 (fun s3 I5=>?_) (.inr hy)));refine assignInOrder_cons (wpAny_bindName (iM I5 hN hi (.inl hx) r1 (fun s4 I6=>assignInOrder_nil (ZY ⟨_,H1,?_,q1⟩)) (.inr hx)))
 rwa [List.set_comm _ _ (Ne.symm hij),List.set_comm _ _ (Ne.symm hik),List.set_comm _ _ (Ne.symm hjk)]at I6
end
end L2
namespace L2
open PySem PySem.Spec PyProof.Rows
structure Bk(H H1:Hp)(lT D:Addr)(rr:List Addr)(ts:AW.Ts)(os:AW.Os)(H':Hp):Prop where
 same:aW H H'
 sm1:aW H H1
 tI:TsI H' lT ts
 newT:H lT=none
 oldT:∃u,H1 lT=some u
 oN:gE H1 H' D rr (vv os)
theorem Bk.keep{H H1 H' H2:Hp}{lT D:Addr}{rr:List Addr}{ts:AW.Ts}{os:AW.Os}(b:Bk H H1 lT D rr ts os H')(g:aW H' H2):Bk H H1 lT D rr ts os H2:=⟨b.same.trans g,b.sm1,b.tI.same g,b.newT,b.oldT,b.oN.keep g⟩
theorem Bk.wrT{H H1 H':Hp}{lT D:Addr}{rr:List Addr}{ts ts':AW.Ts}{os:AW.Os}(b:Bk H H1 lT D rr ts os H'){u:HO}(t:TsI (upd H' lT u) lT ts'):Bk H H1 lT D rr ts' os (upd H' lT u):=by
 obtain⟨v,hv⟩:=b.oldT;exact⟨b.same.fresh b.newT _,b.sm1,t,b.newT,b.oldT,b.oN.other (fun z=>by rw[z,b.oN.new]at hv;cases hv) (fun z=>by rw[b.oN.news _ z]at hv;cases hv) _⟩
theorem Bk.setR{H H1 H':Hp}{lT D x:Addr}{ts:AW.Ts}{os:AW.Os}{rr:List Addr}(b:Bk H H1 lT D rr ts os H'){p:Nat}(hx:rr[p]?=some x)(l:List Int):Bk H H1 lT D rr ts (os.set p l) (upd H' x (.lst (l.map V.int))):=by
 obtain⟨v,hv⟩:=b.oldT;have n1:H1 x=none:=b.oN.news x (Zg hx);have nx:lT≠x:=fun z=>by rw[z,n1]at hv;cases hv
 obtain⟨tr,t1,t2,t3⟩:=b.tI;obtain⟨y,hy⟩:∃y,H' x=some (.lst y):=by
  have hp:p<(vv os).length:=by rw[←b.oN.len];exact(Zj.mp hx).1
  obtain⟨z,z1,z2⟩:=b.oN.row p _ (Zz hp);rw[hx]at z1;cases z1;exact⟨_,z2⟩
 exact⟨b.same.fresh (b.sm1.free n1) _,b.sm1,⟨tr,by rw[aL nx];exact t1,t2,fun i t e=>let⟨r,q1,q2⟩:=t3 i t e;⟨r,q1,by rw[aL (show r≠x from fun z=>by rw[z,hy]at q2;cases q2)];exact q2⟩⟩,b.newT,b.oldT,b.oN.setI hx l⟩
theorem Bk.web{H H1 H':Hp}{lT D r:Addr}{rr:List Addr}{m:Int}{ts:AW.Ts}{os:AW.Os}(b:Bk H H1 lT D rr ts os H')(hr:H' r=none):mH (upd H' r (.tup [.int m,.ref lT,.ref D])) r m ts os:=by
 have g:=aI hr (.tup [.int m,.ref lT,.ref D]);exact⟨lT,D,aB,b.tI.same g,b.oN.os.same g⟩
theorem Bk.row{H H1 H':Hp}{lT D:Addr}{rr:List Addr}{ts:AW.Ts}{os:AW.Os}(b:Bk H H1 lT D rr ts os H'){p:Nat}{x:Addr}(hx:rr[p]?=some x):∃hp:p<os.length,H' x=some (.lst (os[p].map V.int)):=by
 have hp:p<os.length:=by have:=b.oN.len;rw[Zq]at this;rw[←this];exact(Zj.mp hx).1
 obtain⟨y,a1,b1,_⟩:=b.oN.at' hp;rw[hx]at a1;cases a1;exact⟨hp,b1⟩
end L2
namespace K33
open PySem L2 PyProof.Rows
def V4:Sp:=fun vs H Q _=>∃(wa:Addr) (m pk:Int) (ts:AW.Ts) (os:AW.Os),vs=[.ref wa,.int pk]∧mH H wa m ts os∧0<m∧m≤1000∧0<ts.length∧ts.length≤40∧0<os.length∧os.length≤40∧os.flatten.length≤60∧0≤pk ∧
 ∀(r:Addr) (m':Int) (ts':AW.Ts) (os':AW.Os) (H':Hp),aW H H'→mH H' r m' ts' os'→m'≤m+1→ts'.length=ts.length→os'.length=os.length→os'.flatten.length≤os.flatten.length+1→Q (.ref r) H'
theorem U2(T:Txt K mg t):bQ P w K mg base CX0 1 t.EU t.EE ["_law_web","_law_number"] V4:=by
 refine T.D4.F.ok zQ (fun vs H Q E h=>?_) (fun cdv A outer s H vs Q E hr h=>?_)
 ·obtain⟨wa,m,pk,ts,os,rfl,_⟩:=h;rfl
 obtain⟨wa,m,pk,ts,os,rfl,hW,hm0,hm1,ht0,ht1,ho0,ho1,hf,hpk,q⟩:=h;have nd:=zQ.nd;have nd_l_order:(["_law_order"]:List Str).Nodup:=by decide
 refine⟨_,(aE (PQ (i:=2) (j:=3) (k:=4) rfl nd rfl rfl rfl (by decide) (by decide) (by decide) rfl rfl rfl (aA (aM aU (pv 0) aH (fun _ _=>rfl)) (aA (dG fH rfl T.lV boot_list (aA (aM aU (pv 0) aH (fun _ _=>rfl)) aC)) (aA (fO (N':=["_law_order"]) (js:=[none]) rfl (cK (aM aU (pv 0) aH (fun _ _=>rfl))) (fun _ _ _ _ _=>(aQ (i:=0) nd_l_order rfl (Or.inl rfl))) (fun _ _ _ _ _=>dN) (fun _ _ _ _ _=>(dG (xS (K:=K) rfl) rfl T.lV boot_list (aA (pv 0) aC)))) aC))) rfl rfl)
  (aE (a7 5 nd (aX dE (pv 1) aH))
  (aE (a7 6 nd (aX eQ (pv 1) aH))
  (aE (a7 7 nd (aM aV (pv 4) (aX dE (pv 6) (aT aO rfl T.cP PySem.boot_len (aA (pv 4) aC))) (fun _ _=>rfl)))
  (aE (cC (aZ fK (pv 5) aH (bD _)) (aK (a7 2 nd (aX cV (pv 2) (aM aV (bS (aA aH (aA (mO iS aH) aC))) (aX dE (pv 6) aH) (fun _ _=>rfl))))) bJ)
  (aE (cC (PW.pt (gS (aZ fK (pv 5) aH (bD _)) (gG (aZ (qO hr.units) (pv 7) (bS aC) (bD _))))) (aK (bN (FT PySem.F.plainAttrs_list PySem.F.slot_list_pop PySem.F.type_list_pop F3 (pv 7)))) bJ)
  (aE (cC (PW.pt (gS (aZ fK (pv 5) aH (bD _)) (gG (aZ (qO hr.units) (pv 7) (bS aC) (bD _))))) (aK (bN (kO mAp cD (pv 7) (aA (aM aV (pv 7) aH (fun _ _=>rfl)) aC)))) bJ)
  (aE (cC (PW.pt (gS (aZ fK (pv 5) aH (bD _)) (gS (aZ (qO hr.units) (pv 7) (bS aC) (bD _)) (gG (aZ (qO hr.units) (aM aV (pv 4) aH (fun _ _=>rfl)) (bS aC) (bD _)))))) (aK (l7 (bX (aA (aM aV (aM aV (pv 4) aH (fun _ _=>rfl)) (mO iS aH) (fun _ _=>rfl)) (aA (aM aV (pv 7) aH (fun _ _=>rfl)) aC))) (dU rfl (aY (kN (pv 7) aH set_list) (aY (kN (aM aV (pv 4) aH (fun _ _=>rfl)) (mO iS aH) set_list) cH))))) bJ)
  (aE (cC (PW.pt (gS (aZ fK (pv 5) aH (bD _)) (gG (aZ zZ (aT aO rfl T.cP PySem.boot_len (aA (pv 7) aC)) aH (bD _))))) (aK (l7 (bX (aA (aM aV (pv 7) aH (fun _ _=>rfl)) (aA (aM aV (pv 7) aH (fun _ _=>rfl)) aC))) (dU rfl (aY (kN (pv 7) aH set_list) (aY (kN (pv 7) aH set_list) cH))))) bJ)
  (aE (cC (aZ fK (pv 5) aH (bD _)) (aK (l7 (bX (aA (aM aU (aM aV (pv 3) (aX dE (pv 6) (aT aO rfl T.cP PySem.boot_len (aA (pv 3) aC))) (fun _ _=>rfl)) aH (fun _ _=>rfl)) (aA (aM aV (bS (aA (pv 2) (aA (mO iS aH) (aA (aX dE (aX eQ (pv 6) aH) (pv 2)) aC)))) (aX dE (aX eQ (pv 6) aH) aH) (fun _ _=>rfl)) aC))) (kN (pv 3) (aX dE (pv 6) (aT aO rfl T.cP PySem.boot_len (aA (pv 3) aC))) set_list))) bJ)
  (aK (bC (bX (aA (pv 2) (aA (pv 3) (aA (pv 4) aC)))))))))))))))),?_⟩
 obtain⟨tA,oA,w1,⟨tr,t1,t2,t3⟩,⟨orr,o1,o2,o3⟩⟩:=hW;refine⟨_,rfl,(aG wa _ _ (.int m) rfl (aR rfl (SqT.of w1) rfl _ rfl (aG wa _ _ (.ref tA) rfl ⟨ rfl,(bB (SqT.of w1) rfl tA _ rfl ⟨ .inl (SqL.of t1),fun lT hlT=>?_⟩)⟩)))⟩;have g1:=aI hlT (.lst (tr.map V.ref));have hl1:upd H lT (.lst (tr.map V.ref)) lT=some (.lst (tr.map V.ref)):=aB;generalize upd H lT (.lst (tr.map V.ref))=H1 at g1 hl1;refine⟨_,rfl,(aG wa _ _ (.ref oA) rfl (aR rfl (SqT.of (g1 _ _ w1)) rfl oA rfl ⟨ ⟨_,SqL.of (g1 _ _ o1)⟩,fun D hD=>?_⟩))⟩;refine pO os.length (fun i=>(os.getD i []).map V.int) hD (by lia) (fun i H' hi g2=>?_) (fun H' g2=>?_) ?_ ?_
 ·exact⟨_,.ref (orr[i]'(by lia)),SqL.of (g2 _ _ (g1 _ _ o1)),by rw[Zk,Zz (by lia)];rfl⟩
 ·exact⟨_,SqL.of (g2 _ _ (g1 _ _ o1)),by rw[Zq,o2];exact Nat.le_refl _⟩
 ·rintro i H' x H'' k hi g2 hy hk;obtain⟨e,y⟩:=hy;subst e;obtain⟨l,r,el,rfl,er⟩:=OsI.nth o2 o3 (y _ (SqL.of (g2 _ _ (g1 _ _ o1))));refine⟨(Fills.refl _).set _ rfl,(aN _ rfl r _ rfl ⟨ .inl (SqL.of (g2 _ _ (g1 _ _ er))),fun a ha=>hk a _ ha (aI ha _) ?_⟩)⟩;rw[show os.getD i []=l by rw[Zv,el];rfl];exact aB
 intro rr H2 w2 g2;rw[rows_vv]at w2;refine⟨_,_,_,rfl,?_⟩;have b0:Bk H H1 lT D rr ts os H2:=⟨g1.trans g2,g1,⟨tr,g2 _ _ hl1,t2,fun i u e=>let⟨x,x1,x2⟩:=t3 i u e;⟨x,x1,g2 _ _ (g1 _ _ x2)⟩⟩,hlT,⟨_,hl1⟩,w2⟩
 clear w2 g2 hl1 hlT g1 t1 t2 t3 o1 o2 o3 w1;have hlen:((rr.map V.ref).length:Nat)=os.length:=by rw[Zq,b0.oN.len,Zq]
 refine(aN _ rfl _ _ rfl ⟨ rfl,(by show(0:Int)<6;decide),?_⟩);refine(aN _ rfl _ _ rfl ⟨ rfl,⟨by decide,by decide⟩,?_⟩);dsimp only;have hs0:0≤pk / 6:=by lia
 have hw0:=Xj pk (show(6:Int)≠0 by decide);generalize pk / 6=sm at hs0 ⊢;generalize pk%6=wy at hw0 ⊢;obtain⟨p,ep,hpl⟩:∃p:Nat,sm%((rr.map V.ref).length:Nat)=(p:Int)∧p<os.length:=by
  rw[hlen];have h1:=Xj sm (show(os.length:Int)≠0 by lia);have h2:=Xk sm (show 0<(os.length:Int) by lia);exact⟨(sm%(os.length:Int)).toNat,by lia,by lia⟩
 obtain⟨x,a1,_,_,d1⟩:=b0.oN.at' hpl;refine⟨_,(bO rfl _ rfl _ rfl ⟨ D,_,(bB rfl (.inl (SqL.of b0.oN.at_)) _ _ rfl ⟨ rfl,(by show(0:Int)<((rr.map V.ref).length:Nat);lia),(aG D _ _ _ rfl ⟨ rfl,SqL.of b0.oN.at_,by rw[ep];exact d1,?_⟩)⟩)⟩)⟩;dsimp only
 let S:Int→L2.St:=fun mm=>[some (.ref wa),some (.int pk),some (.int mm),some (.ref lT),some (.ref D),some (.int wy),some (.int sm),some (.ref x)]
 have is:∀{n:Int},decide (V.int wy=V.int n)=true→wy=n:=fun h=>V.int.inj (of_decide_eq_true h);have sz:∀{l:List Int},l.length≤100→(l.map V.int).length<ZW:=fun h=>by rw[Zq];exact Ys h (by decide)
 refine E7 (fun σ' H'=>∃mm,σ'=S mm∧Bk H H1 lT D rr ts os H'∧mm≤m+1∧(wy≠0→mm=m)) (fun _ r1=>?_) ?_
 ·refine(bW _ rfl rfl _ rfl (eY (fun c=>?_) (fun c=>r1 _ _ ⟨m,rfl,b0,by lia,fun _=>rfl⟩)));refine(cG _ rfl _ rfl (by show 2≤ZW;decide) (fun l hl=>(aN _ rfl _ _ rfl ⟨ rfl,(by show(0:Int)<2;decide),(aG l _ _ _ rfl ⟨ rfl,(bB (SqL.of aB) EN _ _ rfl ⟨ rfl,r1 _ _ ⟨_,rfl,b0.keep (aI hl _),?_,fun z=>absurd (is c) z⟩⟩)⟩)⟩)));split<;>lia
 rintro σ' H3 ⟨mm,rfl,b1,hm2,hm3⟩;clear b0;refine E7 (fun σ' H'=>σ'=S mm∧∃os',Bk H H1 lT D rr ts os' H'∧os'.length=os.length∧os'.flatten.length≤os.flatten.length) (fun _ r1=>?_) ?_
 ·refine(bW _ rfl rfl _ rfl (eY (fun c=>?_) (fun c=>dX (r1 _ _ ⟨rfl,os,b1,rfl,Nat.le_refl _⟩))));obtain⟨hp,hx⟩:=b1.row a1;refine⟨_,rfl,(by show 0≤ZW;decide),fun nA hnA=>?_⟩;have k:=aI hnA (.lst (([]:List Int).map V.int));refine(bH _ _ (gL (k _ _ hx)) (gL (ns:=[]) aB) (shaped_ints _) ⟨ shaped_ints _,_,rfl,?_⟩);rw[lL];by_cases e:os[p]=[]
  ·rw[decide_eq_true e];exact dX (r1 _ _ ⟨rfl,os,b1.keep k,rfl,Nat.le_refl _⟩)
  rw[decide_eq_false e];have e0:0<os[p].length:=List.length_pos_iff.mpr e;refine gO ⟨_,rfl,(cU (.inl ⟨rfl,_,SqL.of (k _ _ hx)⟩) x _ (.int (os[p][os[p].length-1])) rfl ⟨ rfl,k _ _ hx,?_,r1 _ _ ⟨rfl,os.set p os[p].dropLast,?_,by simp,?_⟩⟩)⟩
  ·rw[Zq,Zk,Zz (by lia)];rfl
  ·rw[←List.map_dropLast];exact(b1.keep k).setR a1 _
  ·have:=AW.jO os p os[p].dropLast hp;rw[List.length_dropLast]at this
   lia
 clear b1;rintro σ' H3 ⟨rfl,os2,b1,n2,f2⟩;refine E7 (fun σ' H'=>σ'=S mm∧∃os',Bk H H1 lT D rr ts os' H'∧os'.length=os.length∧os'.flatten.length≤os.flatten.length+1) (fun _ r1=>?_) ?_
 ·refine(bW _ rfl rfl _ rfl (eY (fun c=>?_) (fun c=>dX (r1 _ _ ⟨rfl,os2,b1,n2,by lia⟩))));obtain⟨hp,hx⟩:=b1.row a1;refine⟨_,rfl,(by show 0≤ZW;decide),fun nA hnA=>?_⟩;have k:=aI hnA (.lst (([]:List Int).map V.int));refine(bH _ _ (gL (k _ _ hx)) (gL (ns:=[]) aB) (shaped_ints _) ⟨ shaped_ints _,_,rfl,?_⟩);rw[lL];by_cases e:os2[p]=[]
  ·rw[decide_eq_true e];exact dX (r1 _ _ ⟨rfl,os2,b1.keep k,n2,by lia⟩)
  rw[decide_eq_false e];have e0:0<os2[p].length:=List.length_pos_iff.mpr e;have hr2:=AW.flat_row os2 p hp;refine gO (bW _ rfl (.inl ⟨rfl,_,SqL.of (k _ _ hx)⟩) _ rfl (aG x _ _ _ rfl ⟨ rfl,SqL.of (k _ _ hx),(cU (c9 (j:=0) (by rw[Zk,Zz e0];rfl)) x _ _ rfl ⟨ rfl,k _ _ hx,sz (by lia),r1 _ _ ⟨rfl,os2.set p (os2[p]++[os2[p][0]]),?_,by simpa using n2,?_⟩⟩)⟩))
  ·rw[show os2[p].map V.int++[V.int os2[p][0]]=(os2[p]++[os2[p][0]]).map V.int by rw[Zt];rfl];exact(b1.keep k).setR a1 _
  ·have:=AW.jO os2 p (os2[p]++[os2[p][0]]) hp;rw[Zm,ZQ]at this
   lia
 clear b1 n2 f2 os2;rintro σ' H3 ⟨rfl,os2,b1,n2,f2⟩;refine E7 (fun σ' H'=>σ'=S mm∧∃os',Bk H H1 lT D rr ts os' H'∧os'.length=os.length∧os'.flatten.length≤os.flatten.length+1) (fun _ r1=>?_) ?_
 ·refine(bW _ rfl rfl _ rfl (eY (fun c=>?_) (fun c=>dX (r1 _ _ ⟨rfl,os2,b1,n2,f2⟩))));obtain⟨hp,hx⟩:=b1.row a1;refine⟨_,rfl,(by show 0≤ZW;decide),fun nA hnA=>?_⟩;have k:=aI hnA (.lst []);refine(bH _ _ (gL (k _ _ hx)) (gL (ns:=[]) aB) (shaped_ints _) ⟨ shaped_ints _,_,rfl,?_⟩);rw[lL];by_cases e:os2[p]=[]
  ·rw[decide_eq_true e];exact dX (dX (r1 _ _ ⟨rfl,os2,b1.keep k,n2,f2⟩))
  rw[decide_eq_false e];have e0:0<os2[p].length:=List.length_pos_iff.mpr e;have b2:=b1.keep k;have hx:=k _ _ hx;clear b1;refine gO ?_;generalize upd H3 nA (.lst [])=H4 at b2 hx ⊢;clear k hnA;obtain⟨x0,a0,h0,_,d0⟩:=b2.oN.at' (p:=0) (by lia);refine⟨_,rfl,(aG D _ _ _ rfl ⟨ rfl,SqL.of b2.oN.at_,d0,(by show 0≤ZW;decide),fun nB hnB=>?_⟩)⟩;have k:=aI hnB (.lst []);refine(bH _ _ (gL (k _ _ h0)) (gL (ns:=[]) aB) (shaped_ints _) ⟨ shaped_ints _,_,rfl,?_⟩);rw[lL];by_cases e':os2[0]=[]
  ·rw[decide_eq_true e'];exact dX (r1 _ _ ⟨rfl,os2,b2.keep k,n2,f2⟩)
  rw[decide_eq_false e'];have e0':0<os2[0].length:=List.length_pos_iff.mpr e';have b3:=b2.keep k;have hx:=k _ _ hx;have h0:=k _ _ h0;clear b2;refine gO ?_;generalize upd H4 nB (.lst [])=H5 at b3 hx h0 ⊢;clear k hnB;refine⟨_,rfl,(aG D _ _ _ rfl (aR rfl (SqL.of b3.oN.at_) d0 _ rfl (aG x0 _ _ (.int (os2[0][os2[0].length-1])) rfl (aR rfl (SqL.of h0) (sU ?_) _ rfl (aG x _ _ _ rfl ⟨ rfl,SqL.of hx,c9 (j:=0) (by rw[Zk,Zz e0];rfl),(by show 2≤ZW;decide),fun tp htp=>?_⟩)))))⟩
  ·rw[List.getLast?_eq_getElem?,Zq,Zk,Zz (by omega)];rfl
  have kt:=aI htp (.tup [.int (os2[0][os2[0].length-1]),.int os2[p][0]]);refine(bH tp _ rfl (SqT.of aB) rfl (wB _ _ rfl _ rfl (aG x _ _ 0 rfl ⟨ rfl,kt _ _ hx,jL (by rw[Zq];exact e0) rfl,?_⟩)));rw[←List.map_set];have b4:=(b3.keep kt).setR a1 (os2[p].set 0 (os2[0][os2[0].length-1]));have hf1:=AW.jO os2 p (os2[p].set 0 (os2[0][os2[0].length-1])) hp;rw[List.length_set]at hf1;have hn:(os2.set p (os2[p].set 0 (os2[0][os2[0].length-1]))).length=os2.length:=List.length_set;have e6:∀l,(os2.set p (os2[p].set 0 (os2[0][os2[0].length-1])))[0]?=some l→0<l.length:=fun l hl=>by
   by_cases z:p=0
   ·subst z;rw[List.getElem?_set_self hp]at hl;cases hl;rw[List.length_set];exact e0
   ·rw[List.getElem?_set_ne z,Zz (by lia)]at hl;cases hl;exact e0'
  obtain⟨os3,b4,hf1,hn,e6⟩:∃os3:AW.Os,Bk H H1 lT D rr ts os3 (upd (upd H5 tp (.tup [.int (os2[0][os2[0].length-1]),.int os2[p][0]])) x (.lst ((os2[p].set 0 (os2[0][os2[0].length-1])).map V.int)))∧os3.flatten.length=os2.flatten.length∧os3.length=os2.length∧∀l,os3[0]?=some l→0<l.length:=⟨_,b4,by lia,hn,e6⟩
  generalize upd (upd H5 tp _) x _=H6 at b4 ⊢;obtain⟨hp0,h6⟩:=b4.row a0;have e6:=e6 _ (Zz hp0);refine(wB _ _ rfl _ rfl (aG D _ _ _ rfl (aR rfl (SqL.of b4.oN.at_) d0 _ rfl (aG x0 _ _ (os3[0].length-1) rfl ⟨ rfl,h6,?_,rfl,r1 _ _ ⟨rfl,os3.set 0 (os3[0].set (os3[0].length-1) os2[p][0]),?_,by rw[List.length_set];lia,?_⟩⟩))))
  ·rw[Zq];unfold ixN;rw[if_neg (by decide),if_pos (by lia)];congr 1
   lia
  ·rw[←List.map_set];exact b4.setR a0 _
  ·have:=AW.jO os3 0 (os3[0].set (os3[0].length-1) os2[p][0]) hp0;rw[List.length_set]at this
   lia
 clear b1 n2 f2 os2;rintro σ' H3 ⟨rfl,os2,b1,n2,f2⟩;refine E7 (fun σ' H'=>σ'=S mm∧∃os',Bk H H1 lT D rr ts os' H'∧os'.length=os.length∧os'.flatten.length≤os.flatten.length+1) (fun _ r1=>?_) ?_
 ·refine(bW _ rfl rfl _ rfl (eY (fun c=>?_) (fun c=>dX (r1 _ _ ⟨rfl,os2,b1,n2,f2⟩))));obtain⟨hp,hx⟩:=b1.row a1;refine(aN _ rfl x _ rfl (cM (.inl (SqL.of hx)) _ _ rfl rfl ⟨ _,rfl,eY (fun d=>?_) (fun _=>r1 _ _ ⟨rfl,os2,b1,n2,f2⟩)⟩));have d:2<os2[p].length:=by have:=of_decide_eq_true d;rw[Zq]at this;lia
  have at_:∀{j:Nat}(h:j<os2[p].length),atI (os2[p].map V.int) (j:Int)=some (.int os2[p][j]):=fun h=>c9 (by rw[Zk,Zz h];rfl);refine⟨_,rfl,(aG x _ _ _ rfl (aR rfl (SqL.of hx) (at_ (j:=1) (by lia)) _ rfl (aG x _ _ _ rfl ⟨ rfl,SqL.of hx,at_ (j:=0) (by lia),(by show 2≤ZW;decide),fun tp htp=>?_⟩)))⟩;have kt:=aI htp (.tup [.int os2[p][1],.int os2[p][0]]);refine(bH tp _ rfl (SqT.of aB) rfl (wB _ _ rfl _ rfl (aG x _ _ 0 rfl ⟨ rfl,kt _ _ hx,jL (by rw[Zq];lia) rfl,?_⟩)));rw[←List.map_set];have b4:=(b1.keep kt).setR a1 (os2[p].set 0 os2[p][1]);have h4:upd (upd H3 tp (.tup [.int os2[p][1],.int os2[p][0]])) x (.lst ((os2[p].set 0 os2[p][1]).map V.int)) x=some (.lst ((os2[p].set 0 os2[p][1]).map V.int)):=aB;refine(wB _ _ rfl _ rfl (aG x _ _ 1 rfl ⟨ rfl,h4,jL (by rw[Zq,List.length_set];lia) rfl,rfl,r1 _ _ ⟨rfl,(os2.set p (os2[p].set 0 os2[p][1])).set p ((os2[p].set 0 os2[p][1]).set 1 os2[p][0]),?_,by rw[List.length_set,List.length_set];exact n2,?_⟩⟩))
  ·rw[←List.map_set];exact b4.setR a1 _
  ·rw[List.set_set];have:=AW.jO os2 p ((os2[p].set 0 os2[p][1]).set 1 os2[p][0]) hp;rw[List.length_set,List.length_set]at this
   lia
 clear b1 n2 f2 os2;rintro σ' H3 ⟨rfl,os2,b1,n2,f2⟩;refine E7 (fun σ' H'=>σ'=S mm∧∃ts',Bk H H1 lT D rr ts' os2 H'∧ts'.length=ts.length) (fun _ r1=>?_) ?_
 ·refine(bW _ rfl rfl _ rfl (eY (fun c=>?_) (fun c=>r1 _ _ ⟨rfl,ts,b1,rfl⟩)));have em:mm=m:=hm3 (by have:=is c;lia);obtain⟨tr',t1,t2,t3⟩:=id b1.tI;have tl:(tr'.map V.ref).length=ts.length:=by rw[Zq,t2]
  obtain⟨j,ej,hj⟩:∃j:Nat,sm%((tr'.map V.ref).length:Nat)=(j:Int)∧j<ts.length:=by
   rw[tl];have h1:=Xj sm (show(ts.length:Int)≠0 by lia);have h2:=Xk sm (show 0<(ts.length:Int) by lia);exact⟨(sm%(ts.length:Int)).toNat,by lia,by lia⟩
  obtain⟨r,r1',r2⟩:=t3 j ts[j] (Zz hj);have pos:(0:Int)<((tr'.map V.ref).length:Nat):=by lia
  obtain⟨z,hz⟩:∃z,atI [V.int mm,V.int (-1),V.int (sm / 16%mm)] (sm / 512%3)=some (.int z):=by
   have h:sm / 512%3=0∨sm / 512%3=1∨sm / 512%3=2:=by lia
   rcases h with h | h | h<;>rw[h]<;>exact⟨_,rfl⟩
  have aj:atI (tr'.map V.ref) (j:Int)=some (.ref r):=c9 (by rw[Zk,r1'];rfl);refine⟨_,(bO rfl _ rfl _ rfl ⟨ lT,_,(bB rfl (.inl (SqL.of t1)) _ _ rfl ⟨ rfl,pos,(aG lT _ _ (.ref r) rfl ⟨ rfl,SqL.of t1,(by rw[ej];exact aj),(aG r _ _ (.int ts[j].1) rfl ⟨ rfl,SqT.of r2,rfl,?_⟩)⟩)⟩)⟩)⟩;refine⟨_,(bO rfl _ rfl _ rfl (bH _ _ rfl rfl ⟨by decide,by decide⟩ (aN _ rfl _ _ rfl ⟨ rfl,(by show 0<mm;lia),(by show 3≤ZW;decide),fun lA hlA=>?_⟩)))⟩;refine(aN _ rfl _ _ rfl (bB rfl ⟨by decide,by decide⟩ _ _ rfl ⟨ rfl,(by show(0:Int)<3;decide),(aG lA _ _ (.int z) rfl ⟨ rfl,SqL.of aB,hz,(by show 2≤ZW;decide),fun tp htp=>?_⟩)⟩));have k:=(aI hlA (.lst [V.int mm,V.int (-1),V.int (sm / 16%mm)])).trans (aI htp (.tup [V.int ts[j].1,.int z]));have hp7:upd (upd H3 lA (.lst [V.int mm,V.int (-1),V.int (sm / 16%mm)])) tp (.tup [V.int ts[j].1,.int z]) tp=some (.tup [V.int ts[j].1,.int z]):=aB;have b7:=b1.keep k;have t7:=k _ _ t1;have u7:∀(i:Nat) t,ts[i]?=some t→∃r,tr'[i]?=some r∧upd (upd H3 lA (.lst [V.int mm,V.int (-1),V.int (sm / 16%mm)])) tp (.tup [V.int ts[j].1,.int z]) r=some (.tup [.int t.1,.int t.2]):=fun i t e=>let⟨r,q1,q2⟩:=t3 i t e;⟨r,q1,k _ _ q2⟩;exact⟨_,(bO rfl _ rfl _ rfl ⟨ lT,_,(bB rfl (.inl (SqL.of t7)) _ _ rfl ⟨ rfl,pos,(aG lT _ _ j rfl ⟨ rfl,t7,(by rw[ej];exact jL (by lia) rfl),r1 _ _ ⟨rfl,ts.set j (ts[j].1,z),b7.wrT (TsI.put t7 t2 u7 hp7 j),List.length_set⟩⟩)⟩)⟩)⟩
 clear b1;rintro σ' H3 ⟨rfl,ts2,b1,t2⟩;exact⟨_,(bO rfl _ rfl _ rfl ⟨ (by show 3≤ZW;decide),fun r hr=>q r mm ts2 os2 _ (b1.same.trans (aI hr _)) (b1.web hr) hm2 t2 n2 f2⟩)⟩
inductive Due(m:Int)(ts:AW.Ts)(os:AW.Os):Str→Prop
 |map:¬AW.pB m ts os→Due m ts os (ZT "map")
 |flat (tn:MM.b9) (on:MM.bU):m=(on.length:Int)→ts=AW.cT tn→os=AW.cO on→AW.pB m ts os→MM.Good tn on→¬MM.Flat tn on→Due m ts os (ZT "flat")
 |ok (tn:MM.b9) (on:MM.bU):m=(on.length:Int)→ts=AW.cT tn→os=AW.cO on→AW.pB m ts os→MM.Good tn on→MM.Flat tn on→Due m ts os (ZT "ok")
def UK:Sp:=fun vs H Q _=>∃(wa:Addr) (m:Int) (ts:AW.Ts) (os:AW.Os),vs=[.ref wa]∧mH H wa m ts os∧1≤ts.length∧ts.length≤100∧m≤200∧os.flatten.length≤63 ∧
 ∀(z:Str) (H':Hp),aW H H'→Due m ts os z→Q (.str z) H'
theorem SN(T:Txt K mg t):bQ P w K mg base CX0 4 t.JL t.JD ["_law_web"] UK:=by
 refine T.IS.F.ok MQ (fun vs H Q E h=>?_) (fun cdv A outer s H vs Q E hr h=>?_)
 ·obtain⟨wa,m,ts,os,rfl,_⟩:=h;rfl
 obtain⟨wa,m,ts,os,rfl,hW,h1,h2,h3,hfl,q⟩:=h;refine⟨_,(aE (cC (gH (cQ (bR (U0 T) hr T.xZ bE (aA (pv 0) aC)) (fun _=>rfl))) (aK (bC dR)) bJ)
  (aK (bC (aM aV (bS (aA dR (aA dR aC))) (dG lP rfl T.CI boot_int (aA (iY fK (aX cV (aM aU (pv 0) aH (fun _ _=>rfl)) (aT aO rfl T.cP PySem.boot_len (aA (bR (AA T) hr T.t8 bE (aA (aM aU (pv 0) aH (fun _ _=>rfl)) (aA (aM aU (pv 0) aH (fun _ _=>rfl)) aC))) aC))) (aX cV (aT aO rfl T.cP PySem.boot_len (aA (aM aU (pv 0) aH (fun _ _=>rfl)) aC)) aH) (bD _)) aC)) (fun _ _=>rfl))))),?_⟩
 refine⟨_,rfl,(aG wa m ts os rfl (bG hW h1 h2 h3 hfl (fun b H1 g1 hb=>⟨b,rfl,?_⟩)))⟩;cases b with
 |false=>exact gO (q _ _ g1 (.map fun z=>Bool.noConfusion (hb.mpr z)))
 |true =>
  have hm:=hb.mp rfl;obtain⟨tn,on,rfl,rfl,rfl,hg⟩:=AW.HZ hm;refine dX ?_;obtain⟨tA,oA,w1,hT,hO⟩:=tG (hW.same g1);obtain⟨trr,t1,t2,t3⟩:=id hT;have tl:tn.length≤100:=by rw[AW.hV]at h2;exact h2
  refine⟨(by show 2≤ZW;decide),fun lA hlA=>?_⟩;have k:=aI hlA (.lst [V.str "flat",V.str "ok"]);have hl:upd H1 lA (.lst [V.str "flat",V.str "ok"]) lA=some (.lst [V.str "flat",V.str "ok"]):=aB;generalize upd H1 lA (.lst [V.str "flat",V.str "ok"])=H2 at k hl ⊢;refine⟨_,rfl,(aG wa _ _ (.int on.length) rfl (aR rfl (SqT.of (k _ _ w1)) rfl _ rfl (aG wa _ _ (.ref tA) rfl (aR rfl (SqT.of (k _ _ w1)) rfl _ rfl (aG wa _ _ (.ref oA) rfl ⟨ rfl,SqT.of (k _ _ w1),rfl,(aG tA oA tn on rfl ⟨ k.ts hT,k.os hO,hg,by lia,fun r rr H3 g3 hN=>?_⟩)⟩)))))⟩;have kg:=k.trans g3;have nl:(rr.map V.ref).length=nL tn on:=by rw[Zq,hN.len]
  refine⟨r,_,(bB rfl (.inl (SqL.of hN.at_)) _ _ rfl ⟨ rfl,?_⟩)⟩;refine⟨_,rfl,(aG wa _ _ (.ref tA) rfl ⟨ rfl,(bB (SqT.of (kg _ _ w1)) rfl tA _ rfl (cM (.inl (SqL.of (kg _ _ t1))) _ _ rfl rfl ⟨ rfl,.inr ⟨_,rfl,?_⟩⟩))⟩)⟩;rw[nl,Zq,t2];have gz:=g1.trans kg;have lz:=g3 _ _ hl;have en:nL tn on=(MM.cF (MM.behind tn on) (2*tn.length)).length:=rfl;by_cases c:MM.Flat tn on
  ·have c':=c;unfold MM.Flat MM.xJ at c';refine(aG lA _ _ _ rfl ⟨ rfl,SqL.of lz,?_,q _ _ gz (.ok tn on rfl rfl rfl hm hg c)⟩);rw[decide_eq_true (congrArg V.int (by lia))];rfl
  ·refine(aG lA _ _ _ rfl ⟨ rfl,SqL.of lz,?_,q _ _ gz (.flat tn on rfl rfl rfl hm hg c)⟩);rw[decide_eq_false fun z=>c (by unfold MM.Flat MM.xJ;have:=V.int.inj z;lia)];rfl
def RU(sp:Sp)(wd:String):Sp:=fun vs H Q _=>vs.length=2∧(∀R:VK,sp vs H R fun _ _ H2=>aW H H2)∧∀H',aW H H'→Q (.str (ZT wd)) H'
theorem HL(T:Txt K mg t){C:Addr}{wd:String}{sp:Sp}(G:bQ P w K mg base (CXr P w C) 8 t.gN t.gK ["web","wishes"] sp)(up:L2.GZ K C t.dZ)(ve:PySem.W.subIn K (.ref C) (.type "ValueError")=some true)(xK:L2.uI K C)
  (n0:L2.dS K C t.fJ) (n1:L2.dS K C t.dQ) (n2:L2.dS K C t.eO) (n3:L2.dS K C t.cX) (n4:L2.dS K C t.fI) (n5:L2.dS K C t.eL) (n6:L2.dS K C t.dP) (n7:L2.dS K C t.eM) (b0:PySem.W.kitOne K (.ref C) (.ref t.bP)=some (wd=="map")) (b1:PySem.W.kitOne K (.ref C) (.ref t.bI)=some (wd=="flat")) (hw:wd="map"∨wd="flat") :
  bQ P w K mg base CX0 9 t.kJ t.kI ["_law_web","_law_wishes"] (RU sp wd):=by
 refine T.oP.F.ok iX (fun vs H Q E h=>h.1) (fun cdv A outer s H vs Q E hr h=>?_);obtain⟨hl,h,q⟩:=h;have nd:=iX.nd
 match vs,hl with
 |[v1,v2],_ =>
 refine⟨_,(aE (a7 2 nd eP)
  (aE (C8 (i:=3) (C:=C) (E:=fun _ _ H2=>aW H H2) rfl rfl rfl rfl T.fU rfl up.exm nd rfl rfl (fun pn xe hx=>(aK (bN (bR G hr T.gJ hx (aA (pv 0) (aA (pv 1) aC)))))) (fun pn xe e=>(aK (a7 2 nd (pv 3)))))
  (aE (cC (aZ nV (pv 2) eP (bD _)) (aK (bC dR)) bJ)
  (aE (cC (PW.pt (rT (cQ (aT mG rfl T.cS boot_isinstance (aA (pv 2) (aA (bX (aA (cE (v:=.ref t.eO) rfl T.lE rfl) (aA (cE (v:=.ref t.fJ) rfl T.pL rfl) (aA (cE (v:=.ref t.cX) rfl T.fT rfl) (aA (cE (v:=.ref t.fI) rfl T.pK rfl) (aA (cE (v:=.ref t.eL) rfl T.lC rfl) (aA (cE (v:=.ref t.dP) rfl T.jE rfl) aC))))))) aC))) (fun _=>rfl)) (nN (gH (cQ (aT fZ rfl T.cS boot_isinstance (aA (pv 2) (aA (HN (v:=.ty "ValueError") rfl T.fD PyProof.Rows.Boot.«ValueError» rfl) aC))) (fun _=>rfl)))))) (aK (bC dR)) bJ)
  (aE (cC (PW.pt (rT (cQ (aT mG rfl T.cS boot_isinstance (aA (pv 2) (aA (bX (aA (cE (v:=.ref t.eM) rfl T.lD rfl) (aA (cE (v:=.ref t.dQ) rfl T.jF rfl) aC))) aC))) (fun _=>rfl)) (nN (aZ fK (aT fZ rfl T.cS boot_isinstance (aA (pv 2) (aA (cE (v:=.ref t.bP) rfl T.fF rfl) aC))) (aT fZ rfl T.cS boot_isinstance (aA (pv 2) (aA (cE (v:=.ref t.bI) rfl T.gX rfl) aC))) (bD _))))) (aK (bC dR)) bJ)
  (aK (bC (aM aV (bS (aA dR (aA dR aC))) (dG lP rfl T.CI boot_int (aA (aT fZ rfl T.cS boot_isinstance (aA (pv 2) (aA (cE (v:=.ref t.bP) rfl T.fF rfl) aC))) aC)) (fun _ _=>rfl))))))))),?_⟩
 refine⟨⟨_,rfl,_,rfl,h _⟩,?_⟩;rintro x σ' H1 hlen g1 hx
 match σ',hlen with
 |[s0,s1,s2,s3],_ =>
 have hx2:upd H1 x (yB C x) x=some (yB C x):=aB;refine⟨_,rfl,_,rfl,rfl,_,rfl,dX ?_⟩;refine⟨_,rfl,(by show 6≤ZW;decide),fun tp htp=>?_⟩;have k1:=aI htp (.tup ([t.eO,t.fJ,t.cX,t.fI,t.eL,t.dP].map V.ref));refine⟨x,C,tp,_,false,rfl,k1 _ _ hx2,aB,xK,oG (cs:=[t.eO,t.fJ,t.cX,t.fI,t.eL,t.dP]) (by simp only[Zn,List.not_mem_nil,or_false];rintro D (rfl | rfl | rfl | rfl | rfl | rfl)<;>assumption),_,rfl,dX ?_⟩;refine⟨_,rfl,x,C,_,_,true,rfl,.inr ⟨_,rfl,rfl⟩,k1 _ _ hx2,xK,SY ve,_,rfl,dX ?_⟩;refine⟨_,rfl,(by show 2≤ZW;decide),fun tq htq=>?_⟩;have k2:=k1.trans (aI htq (.tup ([t.eM,t.dQ].map V.ref)));refine⟨x,C,tq,_,false,rfl,k2 _ _ hx2,aB,xK,oG (cs:=[t.eM,t.dQ]) (by simp only[Zn,List.not_mem_nil,or_false];rintro D (rfl | rfl)<;>assumption),_,rfl,dX ?_⟩;have g2:=(g1.trans (aI hx (yB C x))).trans k2;refine⟨_,rfl,x,C,_,_,_,rfl,.inl ⟨_,rfl,rfl⟩,k2 _ _ hx2,xK,b0,_,rfl,x,C,_,_,_,rfl,.inl ⟨_,rfl,rfl⟩,k2 _ _ hx2,xK,b1,rfl,_,rfl,?_⟩;rcases hw with rfl | rfl
 ·refine dX ⟨(by show 2≤ZW;decide),fun lA hlA=>⟨_,rfl,x,C,_,_,_,rfl,.inl ⟨_,rfl,rfl⟩,aI hlA _ _ _ (k2 _ _ hx2),xK,b0,.inr ⟨_,rfl,lA,_,_,_,rfl,rfl,SqL.of aB,rfl,q _ (g2.trans (aI hlA _))⟩⟩⟩
 ·refine dX ⟨(by show 2≤ZW;decide),fun lA hlA=>⟨_,rfl,x,C,_,_,_,rfl,.inl ⟨_,rfl,rfl⟩,aI hlA _ _ _ (k2 _ _ hx2),xK,b0,.inr ⟨_,rfl,lA,_,_,_,rfl,rfl,SqL.of aB,rfl,q _ (g2.trans (aI hlA _))⟩⟩⟩
theorem US(T:Txt K mg t):bQ P w K mg base CX0 11 t.kJ t.kI ["_law_web","_law_wishes"] (fun vs H Q E=>UO vs H (fun _ H'=>Q (.str (ZT "ok")) H') E):=by
 have G0:=U3 (P:=P) (w:=w) (base:=base) T;refine T.oP.F.ok iX (fun vs H Q E h=>?_) (fun cdv A outer s H vs Q E hr h=>?_)
 ·obtain⟨wa,p,wA,bA,sA,tn,on,ws,bs,ss,rfl,_⟩:=h;rfl
 obtain⟨wa,p,wA,bA,sA,tn,on,ws,bs,ss,rfl,hM,hF,t40,o40,hws,l1,l2,l3,hok,q⟩:=h;have nd:=iX.nd;refine⟨_,(aE (a7 2 nd eP)
  (aE (C8 (i:=3) (C:=t.bP) (E:=fun _ _ _=>False) rfl rfl rfl rfl T.fU rfl T.JM.exm nd rfl rfl (fun pn xe hx=>(aK (bN (bR G0 hr T.gJ bE (aA (pv 0) (aA (pv 1) aC)))))) (fun pn xe e=>(aK (a7 2 nd (pv 3)))))
  (aE (cC (aZ nV (pv 2) eP (bD _)) (aK (bC dR)) bJ)
  (aE (cC (PW.pt (rT (cQ (aT mG rfl T.cS boot_isinstance (aA (pv 2) (aA (bX (aA (cE (v:=.ref t.eO) rfl T.lE rfl) (aA (cE (v:=.ref t.fJ) rfl T.pL rfl) (aA (cE (v:=.ref t.cX) rfl T.fT rfl) (aA (cE (v:=.ref t.fI) rfl T.pK rfl) (aA (cE (v:=.ref t.eL) rfl T.lC rfl) (aA (cE (v:=.ref t.dP) rfl T.jE rfl) aC))))))) aC))) (fun _=>rfl)) (nN (gH (cQ (aT fZ rfl T.cS boot_isinstance (aA (pv 2) (aA (HN (v:=.ty "ValueError") rfl T.fD PyProof.Rows.Boot.«ValueError» rfl) aC))) (fun _=>rfl)))))) (aK (bC dR)) bJ)
  (aE (cC (PW.pt (rT (cQ (aT mG rfl T.cS boot_isinstance (aA (pv 2) (aA (bX (aA (cE (v:=.ref t.eM) rfl T.lD rfl) (aA (cE (v:=.ref t.dQ) rfl T.jF rfl) aC))) aC))) (fun _=>rfl)) (nN (aZ fK (aT fZ rfl T.cS boot_isinstance (aA (pv 2) (aA (cE (v:=.ref t.bP) rfl T.fF rfl) aC))) (aT fZ rfl T.cS boot_isinstance (aA (pv 2) (aA (cE (v:=.ref t.bI) rfl T.gX rfl) aC))) (bD _))))) (aK (bC dR)) bJ)
  (aK (bC (aM aV (bS (aA dR (aA dR aC))) (dG lP rfl T.CI boot_int (aA (aT fZ rfl T.cS boot_isinstance (aA (pv 2) (aA (cE (v:=.ref t.bP) rfl T.fF rfl) aC))) aC)) (fun _ _=>rfl))))))))),?_⟩
 refine⟨⟨_,rfl,_,rfl,wa,p,wA,bA,sA,tn,on,ws,bs,ss,rfl,hM,hF,t40,o40,hws,l1,l2,l3,hok,fun r H1 g1=>⟨_,rfl,rfl,_,rfl,gO (q r _ g1)⟩⟩,fun x σ' H1 _ z=>z.elim⟩
def V2:Sp:=fun vs H Q _=>∃(wa p wA bA sA:Addr) (m:Int) (ts:AW.Ts) (os:AW.Os) (z:Str) (ws:List Int) (bs ss:List (Option Int)),vs=[.ref wa,.ref p]∧mH H wa m ts os∧ts.length≤40∧os.length≤40∧Due m ts os z∧zF H p wA bA sA ws bs ss∧ws.length=ts.length∧bs.length=ts.length∧ss.length=2*ts.length∧LF ws bs ss ∧
 ∀H',aW H H'→Q (.str z) H'
theorem UZ(T:Txt K mg t):bQ P w K mg base CX0 11 t.kJ t.kI ["_law_web","_law_wishes"] V2:=by
 refine⟨fun vs H Q E h=>?_,fun A outer s H args us vs Q E hr he hb hv h=>?_⟩
 ·obtain⟨wa,p,wA,bA,sA,m,ts,os,z,ws,bs,ss,rfl,_⟩:=h;rfl
 obtain⟨wa,p,wA,bA,sA,m,ts,os,z,ws,bs,ss,rfl,hW,t40,o40,hd,hws,l1,l2,l3,hok,q⟩:=h;cases hd with
 |map h=>exact(HL T (wd:="map") ((SV T).mono (by decide)) T.JM T.LP T.x_K T.rH T.kU T.mZ T.iL T.rG T.mX T.kT T.mY DP T.kS.one (.inl rfl)).run A outer s H args us _ Q E (hr.mono (by decide)) he hb hv ⟨rfl,fun _=>⟨wa,_,rfl,(aG wa m ts os rfl ⟨ hW,by lia,h,fun x H1 g1=>g1⟩)⟩,q⟩
 |flat tn on e1 e2 e3 hm hg hF =>
  subst e1 e2 e3;exact(HL T (wd:="flat") (SW T) T.LN T.LM T.y_K T.rE T.kR T.mV T.iK T.rB T.mS T.kQ T.mT T.rF.one DP (.inr rfl)).run A outer s H args us _ Q E (hr.mono (by decide)) he hb hv ⟨rfl,fun _=>⟨wa,_,(cU rfl wa tn on rfl ⟨ ⟨hW,hm,hg⟩,hF,fun x H1 g1=>g1⟩)⟩,q⟩
 |ok tn on e1 e2 e3 hm hg hF =>
  subst e1 e2 e3;rw[AW.hV]at t40 l1 l2 l3;rw[AW.B9]at o40;exact(US T).run A outer s H args us _ Q E hr he hb hv (aP wa p wA bA sA (aP tn on ws bs ss (bG rfl ⟨hW,hm,hg⟩ hF t40 o40 (bG hws l1 l2 l3 hok (fun r H1 g1=>q _ g1)))))
end K33
namespace L2
open PySem PyProof.Rows
theorem iU.toI{H:Hp}{a:Addr}{ts:MM.b9}(h:iU H a ts):TsI H a (AW.cT ts):=by
 obtain⟨tr,h1,h2,h3⟩:=h;refine⟨tr,h1,by rw[h2,AW.cT,Zq],fun i t e=>?_⟩;rw[AW.cT,Zk]at e;cases c:ts[i]? with
 |none=>rw[c]at e;cases e
 |some u=>rw[c]at e;cases e;exact h3 i u c
theorem uG.toI{H:Hp}{a:Addr}{os:MM.bU}(h:uG H a os):OsI H a (AW.cO os):=by
 obtain⟨tr,h1,h2,h3⟩:=h;refine⟨tr,h1,by rw[h2,AW.cO,Zq],fun i t e=>?_⟩;rw[AW.cO,Zk]at e;cases c:os[i]? with
 |none=>rw[c]at e;cases e
 |some u =>
  rw[c]at e;cases e;obtain⟨r,q1,q2⟩:=h3 i u c;exact⟨r,q1,by rw[q2,Yh];rfl⟩
theorem T5{H:Hp}{r tA oA:Addr}{ts:MM.b9}{os:MM.bU}(h1:H r=some (.tup [vn os.length,.ref tA,.ref oA]))(h2:iU H tA ts)(h3:uG H oA os):mH H r os.length (AW.cT ts) (AW.cO os):=⟨tA,oA,h1,h2.toI,h3.toI⟩
theorem OE{a b:MM.b9}(h:AW.cT a=AW.cT b):a=b:=by
 unfold AW.cT at h;refine(List.map_inj_right fun x y e=>?_).mp h;have e1:=congrArg Prod.fst e;have e2:=congrArg Prod.snd e;exact Prod.ext (by dsimp only at e1;lia) (by dsimp only at e2;lia)
theorem OF{a b:MM.bU}(h:AW.cO a=AW.cO b):a=b:=by
 unfold AW.cO at h;exact(List.map_inj_right fun x y e=>(List.map_inj_right fun u v z=>by lia).mp e).mp h
theorem repl{n:Nat}{v:V}:(List.replicate n [v]).flatten=List.replicate n v:=by
 induction n with
 |zero=>rfl
 |succ n ih=>rw[List.replicate_succ,List.flatten_cons,ih];rfl
end L2
namespace K33
open PySem L2 PyProof.Rows
theorem Due.ex(m:Int)(ts:AW.Ts)(os:AW.Os):∃z,Due m ts os z:=by
 by_cases h:AW.pB m ts os
 ·obtain⟨tn,on,e1,e2,e3,hg⟩:=AW.HZ h;by_cases f:MM.Flat tn on
  ·exact⟨_,.ok tn on e3 e1 e2 h hg f⟩
  ·exact⟨_,.flat tn on e3 e1 e2 h hg f⟩
 ·exact⟨_,.map h⟩
theorem Due.one{m:Int}{ts:AW.Ts}{os:AW.Os}{y z:Str}(h:Due m ts os y)(k:Due m ts os z):y=z:=by
 cases h with
 |map h=>cases k with
  |map _=>rfl
  |flat _ _ _ _ _ a=>exact absurd a h
  |ok _ _ _ _ _ a=>exact absurd a h
 |flat tn on e1 e2 e3 a g f=>cases k with
  |map b=>exact absurd a b
  |flat=>rfl
  |ok tn' on' f1 f2 f3 _ _ f'=>obtain rfl:=OE (e2.symm.trans f2);obtain rfl:=OF (e3.symm.trans f3);exact absurd f' f
 |ok tn on e1 e2 e3 a g f=>cases k with
  |map b=>exact absurd a b
  |flat tn' on' f1 f2 f3 _ _ f'=>obtain rfl:=OE (e2.symm.trans f2);obtain rfl:=OF (e3.symm.trans f3);exact absurd f f'
  |ok=>rfl
def HC(K:PySem.W.Frag):Sp:=fun vs H Q _=>∃(sa:Addr) (ns:List Int),vs=[.ref sa]∧SqL K H sa (ns.map V.int)∧ns.length≤63∧∀H',Q (.bl true) H'
theorem SL(T:Txt K mg t):bQ P w K mg base CX0 lawK t.RE t.RD ["_law_script"] (HC K):=by
 refine T.VF.F.ok MP (fun vs H Q E h=>?_) (fun cdv A outer s H vs Q E hr h=>?_)
 ·obtain⟨sa,ns,rfl,_⟩:=h;rfl
 obtain⟨sa,ns,rfl,hS,_,q⟩:=h;have nd:=MP.nd;have nd_l_order:(["_law_order"]:List Str).Nodup:=by decide
 refine⟨_,(aE (a7 1 nd (bR (NK T) hr T.IR bE (aA (pv 0) (aA aH (aA aH aC)))))
  (aE (cY PassesOwn.never rfl (dI rfl T.eA (aA (aX dE (aX dE (bR (l8 T) hr T.iG bE (aA (bR (r9 T) hr T.fY bE (aA (pv 0) (aA aH aC))) (aA aH aC))) aH) aH) aC)) (aQ (i:=2) nd rfl (Or.inl rfl)) (aK (cC (aZ zZ (aM aU (pv 1) aH (fun _ _=>rfl)) aH (bD _)) (aK (a7 1 nd (bR (U2 T) hr T.D4 bE (aA (pv 1) (aA (bR (l8 T) hr T.iG bE (aA (bR (r9 T) hr T.fY bE (aA (pv 0) (aA (aX cV aH (pv 2)) aC))) (aA aH aC))) aC))))) bJ)))
  (aE (a7 3 nd (bX (aA (aX FU (bS (aA aH aC)) (aT aO rfl T.cP PySem.boot_len (aA (aM aU (pv 1) aH (fun _ _=>rfl)) aC))) (aA (aX FU (bS (aA eP aC)) (aT aO rfl T.cP PySem.boot_len (aA (aM aU (pv 1) aH (fun _ _=>rfl)) aC))) (aA (aX FU (bS (aA eP aC)) (aX dW aH (aT aO rfl T.cP PySem.boot_len (aA (aM aU (pv 1) aH (fun _ _=>rfl)) aC)))) aC)))))
  (aE (a7 4 nd (bX (aA (aM aU (pv 1) aH (fun _ _=>rfl)) (aA (dG fH rfl T.lV boot_list (aA (aM aU (pv 1) aH (fun _ _=>rfl)) aC)) (aA (fO (N':=["_law_order"]) (js:=[none]) rfl (cK (aM aU (pv 1) aH (fun _ _=>rfl))) (fun _ _ _ _ _=>(aQ (i:=0) nd_l_order rfl (Or.inl rfl))) (fun _ _ _ _ _=>dN) (fun _ _ _ _ _=>(dG (xS (K:=K) rfl) rfl T.lV boot_list (aA (pv 0) aC)))) aC)))))
  (aK (bC (M5 (iY fK (bR (UZ T) hr T.oP bE (aA (pv 4) (aA (pv 3) aC))) (bR (SN T) hr T.IS bE (aA (pv 1) aC)) (bD _)) (FS (iY (SG hr.units) (pv 4) (pv 1) (bD _)))))))))),?_⟩
 refine⟨_,rfl,(aG sa ns 6 8 rfl ⟨ hS,by decide,by decide,fun r tA oA rr tn on H1 g1 hr1 hM gd tl ol=>?_⟩)⟩;have hW1:mH H1 r on.length (AW.cT tn) (AW.cO on):=T5 hr1 hM.ts hM.os.os;have tl2:(AW.cT tn).length=tn.length:=AW.hV tn;have ol2:(AW.cO on).length=on.length:=AW.B9 on;have t1:=gd.one;have o1:0<on.length:=by have:=(gd.g.has 0 (by lia)).1;lia
 have fl:(AW.cO on).flatten.length=2*tn.length:=by rw[((AW.BY (AW.WB gd) (by rw[ol2])).mp (AW.VE gd)).1.length_eq];simp[AW.all2,tl2]
 clear hM hr1;generalize hts:AW.cT tn=ts at *;generalize hos:AW.cO on=os at *;refine⟨_,(cU rfl sa ns 9 rfl ⟨ g1.seq hS,by decide,fun c=>(bH c 0 rfl (by decide) (by decide) (fun mx mx0 mx1=>?_))⟩)⟩;refine(bH _ _ rfl rfl (by show(0:Int)<4;decide) (bH _ _ rfl rfl (by show(0:Int)<3;decide) ?_));refine⟨_,rfl,by lia,by lia,?_⟩;have hn:(mx%4%3).toNat≤2:=by lia
 refine fX (lo:=0) (n:=(mx%4%3).toNat) (fun i σ H'=>∃(r:Addr) (m:Int) (ts':AW.Ts) (os':AW.Os) (o2:Option V),σ=[some (.ref sa),some (.ref r),o2,none,none]∧aW H1 H'∧mH H' r m ts' os'∧m≤on.length+i∧ts'.length=ts.length∧os'.length=os.length∧os'.flatten.length≤os.flatten.length+i) (aP r _ ts os _ (bG rfl (aW.refl _) hW1 (by lia) rfl ⟨ rfl,by lia⟩)) ?_ ?_
 ·rintro i σ H' hi ⟨r,m,ts',os',o2,rfl,g,hW,hm,ht,ho,hf⟩;obtain⟨tA',oA',w1,_⟩:=id hW;refine⟨_,rfl,(aG r _ _ (.int m) rfl ⟨ rfl,(bB (SqT.of w1) rfl _ _ rfl ⟨ rfl,_,rfl,eY (fun c=>?_) (fun c=>(aP r m ts' os' _ (bG rfl g hW (by lia) ht ⟨ ho,by lia⟩)))⟩)⟩)⟩;have c:=of_decide_eq_true c;refine⟨_,(bO rfl _ rfl _ rfl ⟨ _,_,rfl,(cU rfl sa ns _ rfl ⟨ (g1.trans g).seq hS,by lia,fun c2=>(bH c2 0 rfl (by decide) (by decide) (fun pk pk0 pk1=>?_))⟩)⟩)⟩;refine(aP r m pk ts' os' (bG rfl hW (by lia) (by lia) (by lia) (bG (by lia) (by lia) (by lia) (by lia) (by lia) (fun r' m' ts2 os2 H2 g2 hW2 q1 q2 q3 q4=>?_))));exact(aP r' m' ts2 os2 _ (bG rfl (g.trans g2) hW2 (by lia) (by lia) ⟨ by lia,by lia⟩))
 rintro σ H2 ⟨r,m,ts',os',o2,rfl,g2,hW,hm,ht,ho,hf⟩;obtain⟨tA',oA',w1,⟨tr,e1,e2,e3⟩,⟨orr,o3,o4,o5⟩⟩:=id hW;have trl:(((tr.map V.ref).length:Nat):Int).toNat=ts'.length:=by rw[Zq,e2];lia
 have trl2:(2*(((tr.map V.ref).length:Nat):Int)).toNat=2*ts'.length:=by rw[Zq,e2];lia
 refine⟨(by show 1≤ZW;decide),fun l1 hl1=>?_⟩;have k1:=aI hl1 (.lst [V.int 1]);refine⟨_,rfl,(aG r _ _ (.ref tA') rfl ⟨ rfl,(bB (SqT.of (k1 _ _ w1)) rfl tA' _ rfl (cU (.inl (SqL.of (k1 _ _ e1))) l1 _ _ rfl (bG rfl aB (by lia) (by lia) ?_ (fun D1 hD1=>?_))))⟩)⟩
 ·rw[trl];exact Yr (show 1*ts'.length≤100 by lia) (by decide)
 rw[trl,repl];have k2:=k1.trans (aI hD1 (.lst (List.replicate ts'.length (V.int 1))));have d1:upd (upd H2 l1 (.lst [V.int 1])) D1 (.lst (List.replicate ts'.length (V.int 1))) D1=some (.lst (List.replicate ts'.length (V.int 1))):=aB;generalize upd (upd H2 l1 (.lst [V.int 1])) D1 (.lst (List.replicate ts'.length (V.int 1)))=H3 at k2 d1 ⊢;refine⟨(by show 1≤ZW;decide),fun l2 hl2=>?_⟩;have k3:=aI hl2 (.lst [V.non]);refine⟨_,rfl,(aG r _ _ (.ref tA') rfl ⟨ rfl,(bB (SqT.of (k3 _ _ (k2 _ _ w1))) rfl tA' _ rfl (cU (.inl (SqL.of (k3 _ _ (k2 _ _ e1)))) l2 _ _ rfl (bG rfl aB (by lia) (by lia) ?_ (fun D2 hD2=>?_))))⟩)⟩
 ·rw[trl];exact Yr (show 1*ts'.length≤100 by lia) (by decide)
 rw[trl,repl];have k4:=k3.trans (aI hD2 (.lst (List.replicate ts'.length V.non)));have d2:upd (upd H3 l2 (.lst [V.non])) D2 (.lst (List.replicate ts'.length V.non)) D2=some (.lst (List.replicate ts'.length V.non)):=aB;generalize upd (upd H3 l2 (.lst [V.non])) D2 (.lst (List.replicate ts'.length V.non))=H4 at k4 d2 ⊢;have k24:=k2.trans k4;refine⟨(by show 1≤ZW;decide),fun l3 hl3=>?_⟩;have k5:=aI hl3 (.lst [V.non]);refine⟨_,rfl,(aG r _ _ (.ref tA') rfl ⟨ rfl,(bB (SqT.of (k5 _ _ (k24 _ _ w1))) rfl tA' _ rfl (cM (.inl (SqL.of (k5 _ _ (k24 _ _ e1)))) _ _ rfl rfl (cU (.inl ⟨by decide,by decide⟩) l3 _ _ rfl (bG rfl aB (by lia) (by lia) ?_ (fun D3 hD3=>?_)))))⟩)⟩
 ·rw[trl2];exact Yr (show 1*(2*ts'.length)≤100 by lia) (by decide)
 rw[trl2,repl];have k6:=k5.trans (aI hD3 (.lst (List.replicate (2*ts'.length) V.non)));have d3:upd (upd H4 l3 (.lst [V.non])) D3 (.lst (List.replicate (2*ts'.length) V.non)) D3=some (.lst (List.replicate (2*ts'.length) V.non)):=aB;generalize upd (upd H4 l3 (.lst [V.non])) D3 (.lst (List.replicate (2*ts'.length) V.non))=H5 at k6 d3 ⊢;refine⟨(by show 3≤ZW;decide),fun p hp=>?_⟩;have k7:=aI hp (.tup [.ref D1,.ref D2,.ref D3]);have hWs:zF (upd H5 p (.tup [.ref D1,.ref D2,.ref D3])) p D1 D2 D3 (List.replicate ts'.length 1) (List.replicate ts'.length none) (List.replicate (2*ts'.length) none):=⟨aB,by rw[List.map_replicate];exact k7 _ _ (k6 _ _ (k4 _ _ d1)),by rw[vos,List.map_replicate];exact k7 _ _ (k6 _ _ d2),by rw[vos,List.map_replicate];exact k7 _ _ d3⟩
 have g6:=k24.trans (k6.trans k7);generalize upd H5 p (.tup [.ref D1,.ref D2,.ref D3])=H6 at hWs g6 ⊢;have hok:LF (List.replicate ts'.length 1) (List.replicate ts'.length none) (List.replicate (2*ts'.length) none):=⟨fun x hx=>by rw[List.eq_of_mem_replicate hx];decide,fun x hx=>absurd (List.eq_of_mem_replicate hx) (Option.some_ne_none x),fun x hx=>absurd (List.eq_of_mem_replicate hx) (Option.some_ne_none x)⟩
 refine⟨_,rfl,(aG r _ _ (.int m) rfl (aR rfl (SqT.of (g6 _ _ w1)) rfl _ rfl (aG r _ _ (.ref tA') rfl ⟨ rfl,(bB (SqT.of (g6 _ _ w1)) rfl tA' _ rfl ⟨ .inl (SqL.of (g6 _ _ e1)),fun lT hlT=>?_⟩)⟩)))⟩;have g7:=g6.trans (aI hlT (.lst (tr.map V.ref)));have hw7:=hWs.mono (aI hlT (.lst (tr.map V.ref)));have hl7:upd H6 lT (.lst (tr.map V.ref)) lT=some (.lst (tr.map V.ref)):=aB;generalize upd H6 lT (.lst (tr.map V.ref))=H7 at g7 hw7 hl7 ⊢;refine⟨_,rfl,(aG r _ _ (.ref oA') rfl (aR rfl (SqT.of (g7 _ _ w1)) rfl oA' rfl ⟨ ⟨_,SqL.of (g7 _ _ o3)⟩,fun D hD=>?_⟩))⟩;refine pO os'.length (fun i=>(os'.getD i []).map V.int) hD (by lia) (fun i H' hi g2=>?_) (fun H' g2=>?_) ?_ ?_
 ·exact⟨_,.ref (orr[i]'(by lia)),SqL.of (g2 _ _ (g7 _ _ o3)),by rw[Zk,Zz (by lia)];rfl⟩
 ·exact⟨_,SqL.of (g2 _ _ (g7 _ _ o3)),by rw[Zq,o4];exact Nat.le_refl _⟩
 ·rintro i H' x H'' k hi g2 hy hk;obtain⟨e,y⟩:=hy;subst e;obtain⟨l,r,el,rfl,er⟩:=OsI.nth o4 o5 (y _ (SqL.of (g2 _ _ (g7 _ _ o3))));refine⟨(Fills.refl _).set _ rfl,(aN _ rfl r _ rfl ⟨ .inl (SqL.of (g2 _ _ (g7 _ _ er))),fun a ha=>hk a _ ha (aI ha _) ?_⟩)⟩;rw[show os'.getD i []=l by rw[Zv,el];rfl];exact aB
 intro rr H8 w2 g8;rw[rows_vv]at w2;refine⟨(by show 3≤ZW;decide),fun ra hra=>?_⟩;have k9:=aI hra (.tup [.int m,.ref lT,.ref D]);have hWc:mH (upd H8 ra (.tup [.int m,.ref lT,.ref D])) ra m ts' os':=⟨lT,D,aB,⟨tr,k9 _ _ (g8 _ _ hl7),e2,fun i u e=>let⟨x,x1,x2⟩:=e3 i u e;⟨x,x1,k9 _ _ (g8 _ _ (g7 _ _ x2))⟩⟩,(w2.keep k9).os⟩
 have hW9:=hW.same (g7.trans (g8.trans k9));have hw9:=hw7.mono (g8.trans k9);generalize upd H8 ra (.tup [.int m,.ref lT,.ref D])=H9 at hWc hW9 hw9 ⊢;obtain⟨z,hz⟩:=Due.ex m ts' os';refine⟨_,rfl,_,rfl,(aP ra p D1 D2 D3 (aP m ts' os' z _ (bH _ _ rfl hWc (by lia) (bG (by lia) hz hw9 (by simp) (by simp) ⟨ by simp,hok,fun H10 g10=>?_⟩))))⟩;refine⟨_,rfl,(aG r m ts' os' rfl (bG (hW9.same g10) (by lia) (by lia) (by lia) (by lia) (fun z' H11 g11 hz'=>?_)))⟩;obtain rfl:=Due.one hz hz';have g9:=g10.trans g11;refine⟨rfl,_,rfl,eV (by simp) ?_⟩;refine⟨_,rfl,(aN _ rfl _ _ (JE (hWc.same g9)) ⟨ JE (hW9.same g9),m3 _ _ _,m3 _ _ _,?_⟩)⟩;rw[LQ];exact q _
end K33
namespace PySem.W.Fast
def tw18338610035195949795:Nat:=0
def tw5926810248902687385:Nat:=0
def tw10257144472764680531:Nat:=0
def tw7124851816204472751:Nat:=0
def tw3809732256012442332:Nat:=0
def tw6325814474285279284:Nat:=0
def tw17260491951647230049:Nat:=0
def tw6866531072490050989:Nat:=0
def tw14213455189391047029:Nat:=0
def tw12619944748444575503:Nat:=0
def tw8195542910331567050:Nat:=0
def tw2873304545882485943:Nat:=0
def tw10228117038160889491:Nat:=0
def tw5570539883034221025:Nat:=0
def tw989032404494650353:Nat:=0
def tw4972775207237435720:Nat:=0
def tw6974140876499428441:Nat:=0
def tw9367332120026991344:Nat:=0
def tw15015153409775721224:Nat:=0
def tw28747833208161699:Nat:=0
def tw8214582081355751636:Nat:=0
def tw8729209243315614917:Nat:=0
def tw14140582321979242531:Nat:=0
def tw13494451684580430494:Nat:=0
def tw14943245029463832494:Nat:=0
def tw12588226797315344302:Nat:=0
def tw11391100174496435258:Nat:=0
def tw776495768716802929:Nat:=0
def tw5014468829763764168:Nat:=0
def tw2225955420720113220:Nat:=0
def tw3328090279814485093:Nat:=0
def tw14557348885209611778:Nat:=0
def tw883039301019117510:Nat:=0
def tw5664179033169611571:Nat:=0
def tw14679968561140243110:Nat:=0
def tw901156325977645986:Nat:=0
def tw1288752987450964512:Nat:=0
def tw5258294614884131655:Nat:=0
def tw17474574610392876022:Nat:=0
def tw12105318720273172270:Nat:=0
def tw10953361857079001383:Nat:=0
def tw6588212915708355811:Nat:=0
def tw1378842969789725692:Nat:=0
def tw14308497518813392047:Nat:=0
def tw16551208052017057088:Nat:=0
def tw16636444268718835264:Nat:=0
def tw8233255060289900304:Nat:=0
def tw8845947968999357041:Nat:=0
def tw6099661603457547319:Nat:=0
def tw7760183540179650229:Nat:=0
def tw11620453624183453426:Nat:=0
def tw4309892697684569463:Nat:=0
def tw11583693060173191348:Nat:=0
def tw1812163946988268037:Nat:=0
def tw13474184714065643022:Nat:=0
def tw8647618511676658600:Nat:=0
def tw4402490472336082793:Nat:=0
def tw12234860614898658985:Nat:=0
def tw11106531287455115902:Nat:=0
def tw14508013560057374645:Nat:=0
def tw1692025937739892167:Nat:=0
def tw11387941174079643764:Nat:=0
def tw5785492583570919745:Nat:=0
def tw18383934920661271064:Nat:=0
def tw2110610475070679359:Nat:=0
def tw10963675853607559764:Nat:=0
def tw5036005687811692008:Nat:=0
def tw337641072723729141:Nat:=0
def tw15529172823977497873:Nat:=0
def tw15114652623534196846:Nat:=0
def tw1044438804498315310:Nat:=0
def tw12688910330215416364:Nat:=0
def tw16082170983425449191:Nat:=0
def tw14513487211272972241:Nat:=0
def tw17693163568334449665:Nat:=0
def tw4307788009046993717:Nat:=0
def tw7372682993864723552:Nat:=0
def tw463161777500747331:Nat:=0
def tw3278436741641783028:Nat:=0
def tw1251246939939710127:Nat:=0
def tw9318285283169494985:Nat:=0
def tw9659237231778061744:Nat:=0
def tw18366860091831117593:Nat:=0
def tw12207891973487557862:Nat:=0
def tw15071318025479238038:Nat:=0
def tw5246666091917045378:Nat:=0
def tw6901501727071312338:Nat:=0
def tw7336188482686811737:Nat:=0
def tw2706326553176003135:Nat:=0
def tw12217759932791638094:Nat:=0
def tw14860150396598621422:Nat:=0
def tw11959188735937536235:Nat:=0
def tw16545534845552852323:Nat:=0
def tw5883035498514715975:Nat:=0
def tw5469122756011702272:Nat:=0
def tw17358476561771928150:Nat:=0
def tw5225239356714987458:Nat:=0
def tw12414400362578544287:Nat:=0
def tw8081667701272529987:Nat:=0
def tw1421562444141657391:Nat:=0
def tw5708507035470844267:Nat:=0
def tw5523042521535840182:Nat:=0
def tw13789392926992305212:Nat:=0
def tw3122095473677146036:Nat:=0
def tw12071374730124089305:Nat:=0
def tw4464410934648504045:Nat:=0
def tw17990678232860495682:Nat:=0
def tw7922658849576433215:Nat:=0
def tw9122789391565761672:Nat:=0
def tw1930801179589829087:Nat:=0
def tw3578016572609019745:Nat:=0
def tw16642885905247177063:Nat:=0
def tw3237183785291990154:Nat:=0
def tw16300081010494464429:Nat:=0
def tw15629700473034295208:Nat:=0
def tw11935687997010799805:Nat:=0
def tw7964172189304046346:Nat:=0
def tw8739318627296636050:Nat:=0
def tw9155506240636179608:Nat:=0
def tw15868301033866679282:Nat:=0
def tw2718246694104283972:Nat:=0
def tw17570913840446870256:Nat:=0
def tw243047718992699138:Nat:=0
def tw7079169393153343281:Nat:=0
def tw2725975058985289597:Nat:=0
def tw1838194649733250590:Nat:=0
def tw3009668318473567655:Nat:=0
def tw10633815734299761518:Nat:=0
def tw4370366666204844789:Nat:=0
def tw3907368078578010155:Nat:=0
def tw9528714060947200678:Nat:=0
def tw159690224603110736:Nat:=0
def tw2828038341619765470:Nat:=0
def tw7109934508107407175:Nat:=0
def tw4713085216232299777:Nat:=0
def tw10964669138914988208:Nat:=0
def tw14609795750975871751:Nat:=0
def tw5799996041318463667:Nat:=0
def tw825097735437440180:Nat:=0
def tw2231886098296406112:Nat:=0
def tw5589075541229677876:Nat:=0
def tw6619082186425498810:Nat:=0
def tw7315543334910611896:Nat:=0
def tw5857143819658352944:Nat:=0
def tw16106637502556650064:Nat:=0
def tw18156704242743199701:Nat:=0
def tw14976269078008005664:Nat:=0
def tw11247398183350781397:Nat:=0
def tw8844727367587599445:Nat:=0
def tw2332247729338105254:Nat:=0
def tw772887853013562272:Nat:=0
def tw16412606697392622263:Nat:=0
def tw4729245086847456407:Nat:=0
def tw10989780674267080041:Nat:=0
def tw14162351724175118132:Nat:=0
def tw7887867296799302775:Nat:=0
def tw17301260928118136441:Nat:=0
def tw16919330320458481107:Nat:=0
def tw6808991342510981129:Nat:=0
def tw13101114177857363627:Nat:=0
def tw2168493622821852120:Nat:=0
def tw11024721037019493744:Nat:=0
def tw9801083432558957592:Nat:=0
def tw17296683363160927152:Nat:=0
def tw12796165387402651865:Nat:=0
def tw14443082790564328970:Nat:=0
def tw8180150790040551397:Nat:=0
end PySem.W.Fast
namespace L2
open PySem
theorem len0{p:List Value→Prop}(h:p []):∀us:List Value,us.length=0→p us
 |[],_=>h
theorem y9{n:Nat}{p:List Value→Prop}(h:∀a us,us.length=n→p (a::us)):∀us:List Value,us.length=n+1→p us
 |a::us,e=>h a us (Nat.succ.inj e)
theorem lF{p:List Value→Prop}(h:∀a,p [a]):∀us:List Value,us.length=1→p us:=y9 fun a=>len0 (h a)
theorem jB{p:List Value→Prop}(h:∀a b,p [a,b]):∀us:List Value,us.length=2→p us:=y9 fun a=>y9 fun b=>len0 (h a b)
theorem vL{p:List Value→Prop}(h:∀a b c,p [a,b,c]):∀us:List Value,us.length=3→p us:=y9 fun a=>y9 fun b=>y9 fun c=>len0 (h a b c)
theorem U4{p:List Value→Prop}(h:∀a b c d,p [a,b,c,d]):∀us:List Value,us.length=4→p us:=y9 fun a=>y9 fun b=>y9 fun c=>y9 fun d=>len0 (h a b c d)
end L2
namespace K33
open PySem L2
theorem all_mk{l:PySem.W.OpenLaw}{w:World}{K:PySem.W.Frag}{h:Heap}{mg:Str→Option Value}{fa:Addr}(X:K.In h)(G:h.Ns ZV mg)(hfa:mg "law" = some (.ref fa)){dZ bP bI eM fJ dQ eO eL cX fI dP:Addr}{fE iD kA dM:Tok}
  (hs:FnX K "check_map" nM∧FnX K "ties_name_places" fQ∧FnX K "orders_fit" lX∧FnX K "ends_at_places" gR∧FnX K "hangs_together" gQ∧FnX K "other_end" nE∧FnX K "place_of" qC∧FnX K "goes_to" tQ∧FnX K "behind" wW∧FnX K "lands" BE∧FnX K "land_from" nG∧FnX K "land_numbers" jJ∧FnX K "is_flat" tP∧FnX K "check_flat" lY∧FnX K "check_outer" kM∧FnX K "rate" FJ∧FnX K "rests" BC∧FnX K "settled_prices" gP∧FnX K "lower_prices" jI∧FnX K "ring_behind" pS∧FnX K "doors_of" qI∧FnX K "filled" wU∧FnX K "reach" BD∧FnX K "far_side" qH∧FnX K "room" FI∧FnX K "put_in" wN∧FnX K "raise_prices" jH∧FnX K "path_to" tL∧FnX K "push" FK∧FnX K "check_net" nK∧FnX K "cheapest" qJ∧FnX K "without_costs" mM∧FnX K "wanted_sum" lW∧FnX K "turns" BB∧FnX K "shortened" nC∧FnX K "cost" FM∧FnX K "net_of" wO∧FnX K "corner_ways" kL∧FnX K "left_ways" nF∧FnX K "fewest" wV∧FnX K "best_outer" lZ∧FnX K "paper_of" qD∧FnX K "_law_cell_at" nJ∧FnX K "_law_mix" BF∧FnX K "_law_turned" qE∧FnX K "_law_other" tN∧FnX K "_law_place" tM∧FnX K "_law_behind" qG∧FnX K "_law_lands" tO∧FnX K "_law_step" wQ∧FnX K "_law_renamed" nH∧FnX K "_law_map" BG∧FnX K "_law_bent" wR∧FnX K "_law_is_map" qF∧FnX K "_law_due" BH∧FnX K "_law_refused" nI∧FnX K "law" MR)
  {C0 g0:Addr}{odc0 anc0:Option Addr}{slc0:Array (Option Value)}{occ0 kVc0 dcc0 pmc0 cdc0 ctc0:Value}
  (aC0:PySem.W.nsIn K ZV "Search" = some (some (.ref C0))) (ai0:PySem.W.findIn K (.ref C0) "__init__" = some (some (.ref g0))) (ii0:PySem.W.isFn K (.ref g0)=true)
  (li0:K.lookup g0=some ⟨occ0,odc0,.func (PySem.W.fnOf "__init__" "Search.__init__" (kH eX) (iH eX) (aS eX) .none kVc0 dcc0 pmc0 anc0 cdc0 ctc0),slc0⟩) (ci0:PySem.W.codeIn K cdc0 "Search.__init__" = true) (ki0:PySem.W.keepIn K (.ref g0)=true)
  (pg0:PySem.W.plainGet K C0 Str.empty=true) (hd0:PySem.W.hasDictIn K C0=true) (po0:PySem.W.plainOver K C0=true) (sa0:PySem.W.findIn K (.ref C0) "__setattr__" = some (some (.builtin "object.__setattr__"))) (mk0:PySem.W.makesIn K C0=true) (kc0:PySem.W.keepIn K (.ref C0)=true)
  (nA0_0:PySem.W.findIn K (.ref C0) "ways" = some none)
  (nA0_1:PySem.W.findIn K (.ref C0) "prices" = some none)
  (nA0_2:PySem.W.findIn K (.ref C0) "going" = some none)
  (nA0_3:PySem.W.findIn K (.ref C0) "resting" = some none)
  (nA0_4:PySem.W.findIn K (.ref C0) "doors" = some none)
  (z0:PySem.W.nsIn K ZV "all" = some none)
  (z1:PySem.W.nsIn K ZV "any" = some none)
  (z2:PySem.W.nsIn K ZV "enumerate" = some none)
  (z3:PySem.W.nsIn K ZV "int" = some none)
  (z4:PySem.W.nsIn K ZV "isinstance" = some none)
  (z5:PySem.W.nsIn K ZV "len" = some none)
  (z6:PySem.W.nsIn K ZV "list" = some none)
  (z7:PySem.W.nsIn K ZV "max" = some none)
  (z8:PySem.W.nsIn K ZV "min" = some none)
  (z9:PySem.W.nsIn K ZV "range" = some none)
  (z10:PySem.W.nsIn K ZV "sorted" = some none)
  (z11:PySem.W.nsIn K ZV "sum" = some none)
  (z12:PySem.W.nsIn K ZV "zip" = some none)
  (cW:PySem.W.nsIn K ZV "QUARTERS_ROUND" = some (some (.int 4 fE)))
  (fM:PySem.W.nsIn K ZV "MOST_PLACES" = some (some (.int 200 iD)))
  (iP:PySem.W.nsIn K ZV "MOST_TIES" = some (some (.int 400 kA)))
  (cZ:PySem.W.nsIn K ZV "MOST_ENDS_AT_A_PLACE" = some (some (.int 4 dM)))
  (fU:PySem.W.nsIn K ZV "BendError" = some (some (.ref dZ)))
  (fF:PySem.W.nsIn K ZV "NoMap" = some (some (.ref bP)))
  (gX:PySem.W.nsIn K ZV "NotFlat" = some (some (.ref bI)))
  (lD:PySem.W.nsIn K ZV "NoLand" = some (some (.ref eM)))
  (pL:PySem.W.nsIn K ZV "NoNet" = some (some (.ref fJ)))
  (jF:PySem.W.nsIn K ZV "NoShape" = some (some (.ref dQ)))
  (lE:PySem.W.nsIn K ZV "NoLaid" = some (some (.ref eO)))
  (lC:PySem.W.nsIn K ZV "NoText" = some (some (.ref eL)))
  (fT:PySem.W.nsIn K ZV "NoPicture" = some (some (.ref cX)))
  (pK:PySem.W.nsIn K ZV "NoRow" = some (some (.ref fI)))
  (jE:PySem.W.nsIn K ZV "NoThing" = some (some (.ref dP)))
  (A5:PySem.W.excIn K bP [.type "ValueError",.type "Exception",.type "BaseException",.type "object"] "ValueError.__new__" = true)
  (JM:L2.GZ K bP dZ)
  (LP:PySem.W.subIn K (.ref bP) (.type "ValueError")=some true)
  (kS:L2.dS K bP bI)
  (mY:L2.dS K bP eM)
  (rH:L2.dS K bP fJ)
  (kU:L2.dS K bP dQ)
  (mZ:L2.dS K bP eO)
  (mX:L2.dS K bP eL)
  (iL:L2.dS K bP cX)
  (rG:L2.dS K bP fI)
  (kT:L2.dS K bP dP)
  (x_K:L2.uI K bP)
  (LO:PySem.W.excIn K bI [.type "ValueError",.type "Exception",.type "BaseException",.type "object"] "ValueError.__new__" = true)
  (LN:L2.GZ K bI dZ)
  (LM:PySem.W.subIn K (.ref bI) (.type "ValueError")=some true)
  (rF:L2.dS K bI bP)
  (mT:L2.dS K bI eM)
  (rE:L2.dS K bI fJ)
  (kR:L2.dS K bI dQ)
  (mV:L2.dS K bI eO)
  (mS:L2.dS K bI eL)
  (iK:L2.dS K bI cX)
  (rB:L2.dS K bI fI)
  (kQ:L2.dS K bI dP)
  (y_K:L2.uI K bI)
  (fD:PySem.W.nsIn K ZV "ValueError" = some none)
  : ∃fd:FuncData,(∀(s:Shared) (v:Value),BindsTo s fd ⟨[v],[]⟩ [("_law_script",v)])∧∀base:Heap,K.In base→base.Ns ZV mg→bQ l.prog w K mg base CX0 lawK fa fd ["_law_script"] (HC K):=by
 obtain⟨h0,h1,h2,h3,h4,h5,h6,h7,h8,h9,h10,h11,h12,h13,h14,h15,h16,h17,h18,h19,h20,h21,h22,h23,h24,h25,h26,h27,h28,h29,h30,h31,h32,h33,h34,h35,h36,h37,h38,h39,h40,h41,h42,h43,h44,h45,h46,h47,h48,h49,h50,h51,h52,h53,h54,h55,h56⟩:=hs;obtain⟨f0,d0,i0⟩:=b8 (ps:=["web"]) X G h0 fun _ _ _ _ _ _=>lF fun _=>rfl;obtain⟨f1,d1,i1⟩:=b8 (ps:=["many","ties"]) X G h1 fun _ _ _ _ _ _=>jB fun _ _=>rfl;obtain⟨f2,d2,i2⟩:=b8 (ps:=["web"]) X G h2 fun _ _ _ _ _ _=>lF fun _=>rfl;obtain⟨f3,d3,i3⟩:=b8 (ps:=["many","ties"]) X G h3 fun _ _ _ _ _ _=>jB fun _ _=>rfl;obtain⟨f4,d4,i4⟩:=b8 (ps:=["many","ties"]) X G h4 fun _ _ _ _ _ _=>jB fun _ _=>rfl;obtain⟨f5,d5,i5⟩:=b8 (ps:=["end"]) X G h5 fun _ _ _ _ _ _=>lF fun _=>rfl;obtain⟨f6,d6,i6⟩:=b8 (ps:=["web","end"]) X G h6 fun _ _ _ _ _ _=>jB fun _ _=>rfl;obtain⟨f7,d7,i7⟩:=b8 (ps:=["web","end"]) X G h7 fun _ _ _ _ _ _=>jB fun _ _=>rfl;obtain⟨f8,d8,i8⟩:=b8 (ps:=["web","end"]) X G h8 fun _ _ _ _ _ _=>jB fun _ _=>rfl;obtain⟨f9,d9,i9⟩:=b8 (ps:=["web"]) X G h9 fun _ _ _ _ _ _=>lF fun _=>rfl;obtain⟨f10,d10,i10⟩:=b8 (ps:=["web","first"]) X G h10 fun _ _ _ _ _ _=>jB fun _ _=>rfl;obtain⟨f11,d11,i11⟩:=b8 (ps:=["web"]) X G h11 fun _ _ _ _ _ _=>lF fun _=>rfl;obtain⟨f12,d12,i12⟩:=b8 (ps:=["web"]) X G h12 fun _ _ _ _ _ _=>lF fun _=>rfl;obtain⟨f13,d13,i13⟩:=b8 (ps:=["web"]) X G h13 fun _ _ _ _ _ _=>lF fun _=>rfl;obtain⟨f14,d14,i14⟩:=b8 (ps:=["web","outer"]) X G h14 fun _ _ _ _ _ _=>jB fun _ _=>rfl;obtain⟨f15,d15,i15⟩:=b8 (ps:=["way","prices"]) X G h15 fun _ _ _ _ _ _=>jB fun _ _=>rfl;obtain⟨f16,d16,i16⟩:=b8 (ps:=["net","going"]) X G h16 fun _ _ _ _ _ _=>jB fun _ _=>rfl;obtain⟨f17,d17,i17⟩:=b8 (ps:=["net"]) X G h17 fun _ _ _ _ _ _=>lF fun _=>rfl;obtain⟨f18,d18,i18⟩:=b8 (ps:=["net","free","prices","onward"]) X G h18 fun _ _ _ _ _ _=>U4 fun _ _ _ _=>rfl;obtain⟨f19,d19,i19⟩:=b8 (ps:=["net","onward","knot"]) X G h19 fun _ _ _ _ _ _=>vL fun _ _ _=>rfl;obtain⟨f20,d20,i20⟩:=b8 (ps:=["net"]) X G h20 fun _ _ _ _ _ _=>lF fun _=>rfl;obtain⟨f21,d21,i21⟩:=b8 (ps:=["net","prices"]) X G h21 fun _ _ _ _ _ _=>jB fun _ _=>rfl;obtain⟨f22,d22,i22⟩:=b8 (ps:=["search"]) X G h22 fun _ _ _ _ _ _=>lF fun _=>rfl;obtain⟨f23,d23,i23⟩:=b8 (ps:=["search","number","by"]) X G h23 fun _ _ _ _ _ _=>vL fun _ _ _=>rfl;obtain⟨f24,d24,i24⟩:=b8 (ps:=["search","number","by"]) X G h24 fun _ _ _ _ _ _=>vL fun _ _ _=>rfl;obtain⟨f25,d25,i25⟩:=b8 (ps:=["waiting","entry"]) X G h25 fun _ _ _ _ _ _=>jB fun _ _=>rfl;obtain⟨f26,d26,i26⟩:=b8 (ps:=["search","reached","last"]) X G h26 fun _ _ _ _ _ _=>vL fun _ _ _=>rfl;obtain⟨f27,d27,i27⟩:=b8 (ps:=["search","reached","last"]) X G h27 fun _ _ _ _ _ _=>vL fun _ _ _=>rfl;obtain⟨f28,d28,i28⟩:=b8 (ps:=["search","path","last"]) X G h28 fun _ _ _ _ _ _=>vL fun _ _ _=>rfl;obtain⟨f29,d29,i29⟩:=b8 (ps:=["net"]) X G h29 fun _ _ _ _ _ _=>lF fun _=>rfl;obtain⟨f30,d30,i30⟩:=b8 (ps:=["net"]) X G h30 fun _ _ _ _ _ _=>lF fun _=>rfl;obtain⟨f31,d31,i31⟩:=b8 (ps:=["net"]) X G h31 fun _ _ _ _ _ _=>lF fun _=>rfl;obtain⟨f32,d32,i32⟩:=b8 (ps:=["number","outer"]) X G h32 fun _ _ _ _ _ _=>jB fun _ _=>rfl;obtain⟨f33,d33,i33⟩:=b8 (ps:=["shape"]) X G h33 fun _ _ _ _ _ _=>lF fun _=>rfl;obtain⟨f34,d34,i34⟩:=b8 (ps:=["shape"]) X G h34 fun _ _ _ _ _ _=>lF fun _=>rfl;obtain⟨f35,d35,i35⟩:=b8 (ps:=["wishes","shape"]) X G h35 fun _ _ _ _ _ _=>jB fun _ _=>rfl;obtain⟨f36,d36,i36⟩:=b8 (ps:=["web","outer","wishes"]) X G h36 fun _ _ _ _ _ _=>vL fun _ _ _=>rfl;obtain⟨f37,d37,i37⟩:=b8 (ps:=["web","sets"]) X G h37 fun _ _ _ _ _ _=>jB fun _ _=>rfl;obtain⟨f38,d38,i38⟩:=b8 (ps:=["web","wishes"]) X G h38 fun _ _ _ _ _ _=>jB fun _ _=>rfl;obtain⟨f39,d39,i39⟩:=b8 (ps:=["web","outer","wishes"]) X G h39 fun _ _ _ _ _ _=>vL fun _ _ _=>rfl;obtain⟨f40,d40,i40⟩:=b8 (ps:=["web","wishes"]) X G h40 fun _ _ _ _ _ _=>jB fun _ _=>rfl;obtain⟨f41,d41,i41⟩:=b8 (ps:=["told"]) X G h41 fun _ _ _ _ _ _=>lF fun _=>rfl;obtain⟨f42,d42,i42⟩:=b8 (ps:=["_law_script","_law_k"]) X G h42 fun _ _ _ _ _ _=>jB fun _ _=>rfl;obtain⟨f43,d43,i43⟩:=b8 (ps:=["_law_cell","_law_k"]) X G h43 fun _ _ _ _ _ _=>jB fun _ _=>rfl;obtain⟨f44,d44,i44⟩:=b8 (ps:=["_law_number","_law_many"]) X G h44 fun _ _ _ _ _ _=>jB fun _ _=>rfl;obtain⟨f45,d45,i45⟩:=b8 (ps:=["_law_end"]) X G h45 fun _ _ _ _ _ _=>lF fun _=>rfl;obtain⟨f46,d46,i46⟩:=b8 (ps:=["_law_ties","_law_end"]) X G h46 fun _ _ _ _ _ _=>jB fun _ _=>rfl;obtain⟨f47,d47,i47⟩:=b8 (ps:=["_law_ties","_law_orders","_law_end"]) X G h47 fun _ _ _ _ _ _=>vL fun _ _ _=>rfl;obtain⟨f48,d48,i48⟩:=b8 (ps:=["_law_ties","_law_orders"]) X G h48 fun _ _ _ _ _ _=>jB fun _ _=>rfl;obtain⟨f49,d49,i49⟩:=b8 (ps:=["_law_ties","_law_orders","_law_number","_law_most"]) X G h49 fun _ _ _ _ _ _=>U4 fun _ _ _ _=>rfl;obtain⟨f50,d50,i50⟩:=b8 (ps:=["_law_ties","_law_orders","_law_cell"]) X G h50 fun _ _ _ _ _ _=>vL fun _ _ _=>rfl;obtain⟨f51,d51,i51⟩:=b8 (ps:=["_law_script","_law_steps","_law_most"]) X G h51 fun _ _ _ _ _ _=>vL fun _ _ _=>rfl;obtain⟨f52,d52,i52⟩:=b8 (ps:=["_law_web","_law_number"]) X G h52 fun _ _ _ _ _ _=>jB fun _ _=>rfl;obtain⟨f53,d53,i53⟩:=b8 (ps:=["_law_web"]) X G h53 fun _ _ _ _ _ _=>lF fun _=>rfl;obtain⟨f54,d54,i54⟩:=b8 (ps:=["_law_web"]) X G h54 fun _ _ _ _ _ _=>lF fun _=>rfl;obtain⟨f55,d55,i55⟩:=b8 (ps:=["_law_web","_law_wishes"]) X G h55 fun _ _ _ _ _ _=>jB fun _ _=>rfl;obtain⟨f56,d56,i56,bL⟩:=TB (ps:=["_law_script"]) X G h56 fun _ _ _ _ _ _=>lF fun _=>rfl;have e:=hfa.symm.trans i56.m;cases e;have FC0:=GI (st:=eX) li0 ci0 ki0;have bC0:=FC0.binds (ps:=["self","net","prices"]) fun _ _ _ _ _ _=>vL fun _ _ _=>rfl;have T:Txt K mg ⟨dZ,bP,bI,eM,fJ,dQ,eO,eL,cX,fI,dP,fE,iD,kA,dM,C0,g0,_,f0,d0,f1,d1,f2,d2,f3,d3,f4,d4,f5,d5,f6,d6,f7,d7,f8,d8,f9,d9,f10,d10,f11,d11,f12,d12,f13,d13,f14,d14,f15,d15,f16,d16,f17,d17,f18,d18,f19,d19,f20,d20,f21,d21,f22,d22,f23,d23,f24,d24,f25,d25,f26,d26,f27,d27,f28,d28,f29,d29,f30,d30,f31,d31,f32,d32,f33,d33,f34,d34,f35,d35,f36,d36,f37,d37,f38,d38,f39,d39,f40,d40,f41,d41,f42,d42,f43,d43,f44,d44,f45,d45,f46,d46,f47,d47,f48,d48,f49,d49,f50,d50,f51,d51,f52,d52,f53,d53,f54,d54,f55,d55,fa,d56⟩:=⟨i0,i1,i2,i3,i4,i5,i6,i7,i8,i9,i10,i11,i12,i13,i14,i15,i16,i17,i18,i19,i20,i21,i22,i23,i24,i25,i26,i27,i28,i29,i30,i31,i32,i33,i34,i35,i36,i37,i38,i39,i40,i41,i42,i43,i44,i45,i46,i47,i48,i49,i50,i51,i52,i53,i54,i55,i56,⟨pg0,hd0,po0,sa0⟩,nA0_0,nA0_1,nA0_2,nA0_3,nA0_4,⟨mk0,ai0,ii0,kc0⟩,PySem.W.mg_of X G aC0,FC0,bC0,PySem.W.mg_none_of X G z0,PySem.W.mg_none_of X G z1,PySem.W.mg_none_of X G z2,PySem.W.mg_none_of X G z3,PySem.W.mg_none_of X G z4,PySem.W.mg_none_of X G z5,PySem.W.mg_none_of X G z6,PySem.W.mg_none_of X G z7,PySem.W.mg_none_of X G z8,PySem.W.mg_none_of X G z9,PySem.W.mg_none_of X G z10,PySem.W.mg_none_of X G z11,PySem.W.mg_none_of X G z12,PySem.W.mg_of X G cW,PySem.W.mg_of X G fM,PySem.W.mg_of X G iP,PySem.W.mg_of X G cZ,PySem.W.mg_of X G fU,PySem.W.mg_of X G fF,PySem.W.mg_of X G gX,PySem.W.mg_of X G lD,PySem.W.mg_of X G pL,PySem.W.mg_of X G jF,PySem.W.mg_of X G lE,PySem.W.mg_of X G lC,PySem.W.mg_of X G fT,PySem.W.mg_of X G pK,PySem.W.mg_of X G jE,A5,JM,LP,kS,mY,rH,kU,mZ,mX,iL,rG,kT,x_K,LO,LN,LM,rF,mT,rE,kR,mV,mS,iK,rB,kQ,y_K,PySem.W.mg_none_of X G fD⟩
 exact⟨_,fun s v=>bL s [v] rfl,fun base _ _=>SL T⟩
theorem walk{l:PySem.W.OpenLaw}{q:Program}{loose:List Str}{XP:(Str→Option Value)→Heap→Prop}{YP:World→Heap→Prop}{d:DefRec}{K:Params→PySem.W.Frag}(hn:l.most=some 63)(hdf:d.params.defaults=[])
  (hY:∀(w:World) (h:Heap),YP w h→(K w.params).In h)
  (F:∀(w:World) (mg:Str→Option Value) (fa:Addr) (h:Heap),(K w.params).In h→h.Ns ZV mg→mg d.name=some (.ref fa) →
   ∃fd:FuncData,(∀(s:Shared) (u:Value),BindsTo s fd ⟨[u],[]⟩ [("_law_script",u)])∧∀base:Heap,(K w.params).In base→base.Ns ZV mg→bQ l.prog w (K w.params) mg base CX0 lawK fa fd ["_law_script"] (HC (K w.params))) :
  PySem.W.WalkO q loose XP YP l.row.toRowW d [] (fun f vs=>PySem.call f vs) :=
 L2.OS (n:=63) (k:=lawK) (x:="_law_script") (CX:=fun _=>CX0) (sp:=fun w=>HC (K w.params)) hn (by decide) hdf ⟨rfl,by decide,by decide⟩ hY F (fun _ _ a ns hl _ hS=>⟨a,ns,rfl,hS,hl,fun _=>rfl⟩) fun _ _ _ _ _ z=>z
end K33
open PySem PySem.W PyProof.Rows
set_option maxRecDepth 100000 in
set_option maxHeartbeats 0 in
theorem PySem.Challenge.cw_fewbends_k33_outer_lands_refused_holds : PySem.Challenge.rw_fewbends_k33_outer_lands_refused.Holds := by
 w_on;o_law;k_head;(case hw=>w_witness2)
 k_fill
 refine K33.walk (l:=PySem.Challenge.rw_fewbends_k33_outer_lands_refused) rfl rfl (fun w h Y=>PySem.W.kIn_of Y) ?F
 case F =>
  intro w mg fa h KX G hmg;refine' K33.all_mk KX G hmg ?hs ?aC0 ?ai0 ?ii0 ?li0 ?ci0 ?ki0 ?pg0 ?hd0 ?po0 ?sa0 ?mk0 ?kc0 ?nA0_0 ?nA0_1 ?nA0_2 ?nA0_3 ?nA0_4 ?z0 ?z1 ?z2 ?z3 ?z4 ?z5 ?z6 ?z7 ?z8 ?z9 ?z10 ?z11 ?z12 ?cW ?fM ?iP ?cZ ?fU ?fF ?gX ?lD ?pL ?jF ?lE ?lC ?fT ?pK ?jE ?A5 ?JM ?LP ?kS ?mY ?rH ?kU ?mZ ?mX ?iL ?rG ?kT ?x_K ?LO ?LN ?LM ?rF ?mT ?rE ?kR ?mV ?mS ?iK ?rB ?kQ ?y_K ?fD
  (case hs=>refine⟨?_,?_,?_,?_,?_,?_,?_,?_,?_,?_,?_,?_,?_,?_,?_,?_,?_,?_,?_,?_,?_,?_,?_,?_,?_,?_,?_,?_,?_,?_,?_,?_,?_,?_,?_,?_,?_,?_,?_,?_,?_,?_,?_,?_,?_,?_,?_,?_,?_,?_,?_,?_,?_,?_,?_,?_,?_⟩<;>exact⟨_,by k_is,_,_,_,_,_,_,_,_,_,by k_is,by k_is,by k_is⟩)
  (case aC0=>k_is);(case ai0=>k_is);(case ii0=>k_is);(case li0=>k_is);(case ci0=>k_is);(case ki0=>k_is);(case pg0=>k_is);(case hd0=>k_is);(case po0=>k_is);(case sa0=>k_is);(case mk0=>k_is);(case kc0=>k_is);(case nA0_0=>k_is);(case nA0_1=>k_is);(case nA0_2=>k_is);(case nA0_3=>k_is);(case nA0_4=>k_is)
  (case z0=>k_is);(case z1=>k_is);(case z2=>k_is);(case z3=>k_is);(case z4=>k_is);(case z5=>k_is);(case z6=>k_is);(case z7=>k_is);(case z8=>k_is);(case z9=>k_is);(case z10=>k_is);(case z11=>k_is);(case z12=>k_is)
  (case cW=>k_is)
  (case fM=>k_is)
  (case iP=>k_is)
  (case cZ=>k_is)
  (case fU=>k_is)
  (case fF=>k_is)
  (case gX=>k_is)
  (case lD=>k_is)
  (case pL=>k_is)
  (case jF=>k_is)
  (case lE=>k_is)
  (case lC=>k_is)
  (case fT=>k_is)
  (case pK=>k_is)
  (case jE=>k_is)
  (case A5=>k_exc)
  (case JM=>exact⟨by k_is,by k_is,by k_is,by k_is⟩)
  (case LP=>k_is)
  (case kS=>exact⟨by k_is,by k_is,by k_is,by decide⟩)
  (case mY=>exact⟨by k_is,by k_is,by k_is,by decide⟩)
  (case rH=>exact⟨by k_is,by k_is,by k_is,by decide⟩)
  (case kU=>exact⟨by k_is,by k_is,by k_is,by decide⟩)
  (case mZ=>exact⟨by k_is,by k_is,by k_is,by decide⟩)
  (case mX=>exact⟨by k_is,by k_is,by k_is,by decide⟩)
  (case iL=>exact⟨by k_is,by k_is,by k_is,by decide⟩)
  (case rG=>exact⟨by k_is,by k_is,by k_is,by decide⟩)
  (case kT=>exact⟨by k_is,by k_is,by k_is,by decide⟩)
  (case x_K=>exact⟨by k_is,by k_is,by k_is,by k_is,by k_is,by k_is⟩)
  (case LO=>k_exc)
  (case LN=>exact⟨by k_is,by k_is,by k_is,by k_is⟩)
  (case LM=>k_is)
  (case rF=>exact⟨by k_is,by k_is,by k_is,by decide⟩)
  (case mT=>exact⟨by k_is,by k_is,by k_is,by decide⟩)
  (case rE=>exact⟨by k_is,by k_is,by k_is,by decide⟩)
  (case kR=>exact⟨by k_is,by k_is,by k_is,by decide⟩)
  (case mV=>exact⟨by k_is,by k_is,by k_is,by decide⟩)
  (case mS=>exact⟨by k_is,by k_is,by k_is,by decide⟩)
  (case iK=>exact⟨by k_is,by k_is,by k_is,by decide⟩)
  (case rB=>exact⟨by k_is,by k_is,by k_is,by decide⟩)
  (case kQ=>exact⟨by k_is,by k_is,by k_is,by decide⟩)
  (case y_K=>exact⟨by k_is,by k_is,by k_is,by k_is,by k_is,by k_is⟩)
  (case fD=>k_is)
