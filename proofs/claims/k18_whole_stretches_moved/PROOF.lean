import PyProof.Rows.All
import Wide.All
import OpenK.AllK
import Wide.FinOn
import Lean
import PyProof.EqAt
import PyProof.EqKinds
import PyProof.TupleCall
import KE.KSortTup
import KE.KSortKey
import PyProof.ExcBaseAll.ValueError
import PyProof.ExcAttrAll.ValueError
import KE.KTryOn
import OpenK.KOwn
import PyProof.NeData
import PyProof.SetKind
import PyProof.Rows.SetFrom
import PyProof.CollectWalk
import PySem.Challenge.RW_rowasks_k18_whole_stretches_moved
set_option Elab.async false
set_option linter.all false
set_option maxRecDepth 100000
set_option maxHeartbeats 8000000
section
namespace L2
open PySem PySem.Spec PyProof.Rows
abbrev Key:=Sum Int Str
def keyIs:Key→Value→Bool
 | .inl k,v=>Value.isInt k v
 | .inr x,v=>Value.isStrOf x v
def quB (w:World):Key→Int
 | .inl k=>hashInt k
 | .inr x=>hashStr w x
theorem qaV: ∀{k:Key} {v:Value},keyIs k v=true→(∃i t,k=Sum.inl i∧v=Value.int i t)∨(∃x t,k=Sum.inr x∧v=Value.str x t)
 | .inl i,v,h=>by
  obtain ⟨t,e⟩:=Value.isInt_shape (k:=i) (v:=v) h
  exact .inl ⟨i,t,rfl,e⟩
 | .inr x,v,h=>by
  obtain ⟨t,e⟩:=Value.isStrOf_shape (x:=x) (v:=v) h
  exact .inr ⟨x,t,rfl,e⟩
theorem qkf (i:Int) (t:Tok):keyIs (.inl i) (.int i t)=true:=by simp[keyIs,Value.isInt]
theorem qke (x:Str) (t:Tok):keyIs (.inr x) (.str x t)=true:=by simp[keyIs,Value.isStrOf]
theorem qqa (a b:Int):decide ((Sum.inl a:Key)=Sum.inl b)=(a==b):=by
 by_cases e:a=b
 ·subst e; simp
 ·have h: ¬(Sum.inl a:Key)=Sum.inl b:=fun q=>e (Sum.inl.inj q)
  rw[decide_eq_false h]
  exact (beq_eq_false_iff_ne.mpr e).symm
theorem qp7 (a b:Str):decide ((Sum.inr a:Key)=Sum.inr b)=decide (a=b):=by
 by_cases e:a=b
 ·subst e; simp
 ·have h: ¬(Sum.inr a:Key)=Sum.inr b:=fun q=>e (Sum.inr.inj q)
  rw[decide_eq_false h,decide_eq_false e]
theorem qp9 (a:Int) (b:Str):decide ((Sum.inl a:Key)=Sum.inr b)=false:=decide_eq_false (fun q=>nomatch q)
theorem qp8 (a:Str) (b:Int):decide ((Sum.inr a:Key)=Sum.inl b)=false:=decide_eq_false (fun q=>nomatch q)
def qaL (prog:Program) (w:World):PySem.KeyKind prog w Key where
 is:=keyIs
 hash:=quB w
 inj:=fun v a b ha hb=>by
  rcases qaV ha with ⟨i,t,rfl,rfl⟩ | ⟨x,t,rfl,rfl⟩
  ·rcases qaV hb with ⟨j,u,rfl,e⟩ | ⟨y,u,rfl,e⟩
   ·injection e with e1 _; rw[e1]
   ·exact nomatch e
  ·rcases qaV hb with ⟨j,u,rfl,e⟩ | ⟨y,u,rfl,e⟩
   ·exact nomatch e
   ·injection e with e1 _; rw[e1]
 byValue:=fun k v h=>by
  rcases qaV h with ⟨i,t,rfl,rfl⟩ | ⟨x,t,rfl,rfl⟩<;>rfl
 pyHash:=fun hv h=>by
  rcases qaV hv with ⟨i,t,rfl,rfl⟩ | ⟨x,t,rfl,rfl⟩
  ·exact wpAny_pyHash_int h
  ·exact wpAny_pyHash_str h
 eqBool:=fun hu hv h=>by
  rcases qaV hu with ⟨i,t,rfl,rfl⟩ | ⟨x,t,rfl,rfl⟩
  ·rcases qaV hv with ⟨j,u,rfl,rfl⟩ | ⟨y,u,rfl,rfl⟩
   ·rw[qqa] at h; exact wpAny_eqBool_int h
   ·rw[qp9] at h; exact SeqAt.EqAt.int_str i t y u _ _ _ _ h
  ·rcases qaV hv with ⟨j,u,rfl,rfl⟩ | ⟨y,u,rfl,rfl⟩
   ·rw[qp8] at h; exact SeqAt.EqAt.str_int x t j u _ _ _ _ h
   ·rw[qp7] at h; exact wpAny_eqBool_str h
 «strs» :=fun k x t v h=>by
  rcases qaV h with ⟨i,u,rfl,e⟩ | ⟨y,u,rfl,e⟩
  ·exact nomatch e
  ·injection e with e1 _
   subst e1
   cases v<;>rfl
theorem qgI (prog:Program) (w:World) (i:Int) (t:Tok):(qaL prog w).is (.inl i) (.int i t)=true:=qkf i t
theorem qgH (prog:Program) (w:World) (x:Str) (t:Tok):(qaL prog w).is (.inr x) (.str x t)=true:=qke x t
end L2
namespace L2
open PySem PySem.Spec PyProof.Rows
inductive V where
 | non | bl (b:Bool) | int (i:Int) | str (x:Str) | byt (b:Array UInt8) | flt (b:UInt64) | ref (a:Addr) | ty (n:String)
 deriving DecidableEq
def RelV:V→Value→Prop
 | .non,u=>u=Value.none
 | .bl b,u=>u=Value.bool b
 | .int i,u=> ∃t,u=Value.int i t
 | .str x,u=> ∃t,u=Value.str x t
 | .byt b,u=> ∃t,u=Value.bytes b t
 | .flt b,u=> ∃t,u=Value.float b t
 | .ref a,u=>u=Value.ref a
 | .ty n,u=>u=Value.type n
abbrev Vals:List V→List Value→Prop:=Paired RelV
theorem Vals.length {xs:List V} {us:List Value} (r:Vals xs us):xs.length=us.length:=Paired.length r
theorem Vals.get: ∀{xs:List V} {us:List Value} {i:Nat} {x:V},Vals xs us→xs[i]? =some x→∃u,us[i]? =some u∧RelV x u
 | _,_,_,_,.nil,e=>by simp at e
 | _,_,0,_,.cons r _,e=>by simp at e; subst e; exact ⟨_,rfl,r⟩
 | _,_,i+1,x,.cons _ t,e=>by
  obtain ⟨u,h1,h2⟩:=Vals.get (i:=i) (x:=x) t (by simpa using e)
  exact ⟨u,by simpa using h1,h2⟩
theorem Vals.set {x:V} {u:Value} (r:RelV x u): ∀{xs:List V} {us:List Value} (i:Nat),Vals xs us→Vals (xs.set i x) (us.set i u)
 | _,_,_,.nil=>.nil
 | _,_,0,.cons _ t=>.cons r t
 | _,_,i+1,.cons q t=>.cons q (Vals.set r i t)
theorem Vals.append: ∀{xs ys:List V} {us ws:List Value},Vals xs us→Vals ys ws→Vals (xs++ys) (us++ws)
 | _,_,_,_,.nil,s=>s
 | _,_,_,_,.cons r t,s=>.cons r (Vals.append t s)
theorem Vals.take: ∀{xs:List V} {us:List Value} (n:Nat),Vals xs us→Vals (xs.take n) (us.take n)
 | _,_,0,_=>.nil
 | _,_,_+1,.nil=>.nil
 | _,_,n+1,.cons r t=>.cons r (Vals.take n t)
theorem Vals.drop: ∀{xs:List V} {us:List Value} (n:Nat),Vals xs us→Vals (xs.drop n) (us.drop n)
 | _,_,0,r=>r
 | _,_,_+1,.nil=>.nil
 | _,_,n+1,.cons _ t=>Vals.drop n t
def qmO:Option V→Option Value→Prop
 | some v,some u=>RelV v u
 | none,none=>True
 | _,_=>False
def KV {κ:Type}:List (κ×V)→List (κ×Value)→Prop:=Paired fun (p:κ×V) (q:κ×Value)=>p.1=q.1∧RelV p.2 q.2
def kV:Key→V
 | .inl i=>.int i
 | .inr x=>.str x
inductive HO where
 | lst (xs:List V)
 | tup (xs:List V)
 | dK (kvs:List (Key×V)) | dT (kvs:List (List Key×V))
 | set (S:Int→Bool) (n:Nat)
 | ins (C dx:Addr) (fs:List (Str×V))
 | own (x:Addr)
 | xd (fs:List (Str×V))
 | met (f x:Addr)
 | rng (lo hi:Int)
 | frz (o:Obj) (u:HO)
 | tbl (ps:Array Value)
 | ext (φ:Heap→Prop)
abbrev Hp:=Addr→Option HO
def upd (H:Hp) (a:Addr) (o:HO):Hp:=fun b=>if b=a then some o else H b
theorem qan {H:Hp} {a:Addr} {o:HO}:upd H a o a=some o:=by unfold upd; rw[if_pos rfl]
theorem qaj {H:Hp} {a b:Addr} {o:HO} (h:b≠a):upd H a o b=H b:=by unfold upd; rw[if_neg h]
theorem ql5 {H:Hp} {a b:Addr} {o u:HO} (h:H a=some o) (h':H b=some u) (d:o≠u):a≠b:=by
 intro e; subst e; rw[h] at h'; exact d (Option.some.inj h')
theorem qap {H:Hp} {a b:Addr} {o:HO} (h:H a=some o) (h':H b=none):a≠b:=by
 intro e; subst e; rw[h] at h'; cases h'
section
variable (P:Program) (w:World)
def qbu (H:Hp) (h:Heap) (a:Addr):HO→Prop
 | .lst xs=>xs.length≤sizeLine∧∃(its:List Value) (n:Nat),Vals xs its∧h.get? a=some { cls:=.type "list",data:=.seq its.toArray n }
 | .tup xs=>xs.length≤sizeLine∧∃its:List Value,Vals xs its∧IsTup h a its.toArray
 | .dK kvs=>kvs.length≤sizeLine∧(a==sysModules)=false∧∃vs,KV kvs vs∧h.DictOf (qaL P w) a vs
 | .dT kvs=>kvs.length≤sizeLine∧(a==sysModules)=false∧∃xs:List (List Key×Addr×Value),
   Paired (fun (p:List Key×V) (q:List Key×Addr×Value)=>p.1=q.1∧H q.2.1=some (.tup (p.1.map kV))∧RelV p.2 q.2.2) kvs xs∧
   ∃o es ep,h.get? a=some o∧o.ExactDict∧o.data= .dict es ep∧es.toList=xs.map (entryOfKey (tupleKind (qaL P w)))∧(xs.map (·.1)).Nodup
 | .set S n=>h.SetOf (intKind P w) a S n
 | .ins C dx fs=>H dx=some (.own a)∧fs.length≤1000∧dx≠a∧h.get? a=some (PySem.W.instObj C dx)∧
   ∃mA,h.Ns1 dx mA∧(∀f,qmO (fs.lookup f) (mA f))∧PySem.Within mA (fs.map (·.1))
 | .own _=> ∃o,h.get? a=some o
 | .xd fs=> ∃mA,h.Ns1 a mA∧∀f,qmO (fs.lookup f) (mA f)
 | .rng lo hi=> ∃t u v,h.get? a=some { cls:=.type "range",data:=.fields #[.int lo t,.int hi u,.int 1 v] }
 | .frz o u=>h.get? a=some o∧qbu H h a u
 | .tbl ps=>h.get? a=some { cls:=.none,data:=.fields ps }
 | .met f x=>h.get? a=some (PySem.W.methodObj (.ref f) (.ref x))
 | .ext φ=>φ h∧(∃o,h.get? a=some o)∧∀h1 h2:Heap,φ h1→(∀o,h1.get? a=some o→h2.get? a=some o)→φ h2
def HOk (H:Hp) (h:Heap):Prop:= ∀a o,H a=some o→qbu P w H h a o
end
section
variable {P:Program} {w:World} {H H':Hp} {h h':Heap} {a:Addr} {o:HO}
theorem qbu.lt (x:qbu P w H h a o):a<h.objs.size:=by
 cases o with
 | lst xs=>obtain ⟨_,_,_,_,e⟩:=x; exact Heap.lt_size e
 | tup xs=>obtain ⟨_,_,_,p⟩:=x; exact p.lt
 | dK kvs=>obtain ⟨_,_,_,_,o,_,_,e,_⟩:=x; exact Heap.lt_size e
 | dT kvs=>obtain ⟨_,_,_,_,o,_,_,e,_⟩:=x; exact Heap.lt_size e
 | set S n=>obtain ⟨o,_,_,_,e,_⟩:=x; exact Heap.lt_size e
 | ins C dx fs=>obtain ⟨_,_,_,e,_⟩:=x; exact Heap.lt_size e
 | own y=>obtain ⟨_,e⟩:=x; exact Heap.lt_size e
 | xd fs=>obtain ⟨_,⟨_,_,_,e,_⟩,_⟩:=x; exact Heap.lt_size e
 | rng lo hi=>obtain ⟨_,_,_,e⟩:=x; exact Heap.lt_size e
 | frz ob u=>obtain ⟨e,_⟩:=x; exact Heap.lt_size e
 | tbl ps=>exact Heap.lt_size (show h.get? a=some _ from x)
 | met f y=>exact Heap.lt_size (show h.get? a=some _ from x)
 | ext φ=>obtain ⟨_,⟨_,e⟩,_⟩:=x; exact Heap.lt_size e
theorem Paired.mapP {α β:Type} {F G:α→β→Prop}: ∀{l₁:List α} {l₂:List β},Paired F l₁ l₂→(∀a b,F a b→G a b)→Paired G l₁ l₂
 | _,_,.nil,_=>.nil
 | _,_,.cons r t,f=>.cons (f _ _ r) (Paired.mapP t f)
theorem qbu.stay (x:qbu P w H h a o) (k: ∀b u,(b=a∨H b=some (.own a))→h.get? b=some u→h'.get? b=some u)
  (ho: ∀b,H b=some (.own a)→H' b=some (.own a)) (ht: ∀b xs,H b=some (.tup xs)→H' b=some (.tup xs)):qbu P w H' h' a o:=by
 induction o with
 | lst xs=>obtain ⟨z,its,n,r,e⟩:=x; exact ⟨z,its,n,r,k _ _ (.inl rfl) e⟩
 | tup xs=>obtain ⟨z,its,r,ob,e,c⟩:=x; exact ⟨z,its,r,ob,k _ _ (.inl rfl) e,c⟩
 | dK kvs=>obtain ⟨z,y,vs,r,ob,es,ep,e,c⟩:=x; exact ⟨z,y,vs,r,ob,es,ep,k _ _ (.inl rfl) e,c⟩
 | dT kvs=>
  obtain ⟨z,y,xs,r,ob,es,ep,e,c⟩:=x
  exact ⟨z,y,xs,Paired.mapP r fun p q z=>⟨z.1,ht _ _ z.2.1,z.2.2⟩,ob,es,ep,k _ _ (.inl rfl) e,c⟩
 | set S n=>obtain ⟨ob,es,ep,t,e,c⟩:=x; exact ⟨ob,es,ep,t,k _ _ (.inl rfl) e,c⟩
 | ins C dx fs=>
  obtain ⟨d,z,ne,e,mA,⟨od,es,ep,e2,c⟩,r⟩:=x
  exact ⟨ho _ d,z,ne,k _ _ (.inl rfl) e,mA,⟨od,es,ep,k _ _ (.inr d) e2,c⟩,r⟩
 | own y=>obtain ⟨ob,e⟩:=x; exact ⟨ob,k _ _ (.inl rfl) e⟩
 | xd fs=>obtain ⟨mA,⟨od,es,ep,e,c⟩,r⟩:=x; exact ⟨mA,⟨od,es,ep,k _ _ (.inl rfl) e,c⟩,r⟩
 | rng lo hi=>obtain ⟨t,u,v,e⟩:=x; exact ⟨t,u,v,k _ _ (.inl rfl) e⟩
 | frz ob u ih=>obtain ⟨e,q⟩:=x; exact ⟨k _ _ (.inl rfl) e,ih q⟩
 | tbl ps=>
  have e:h.get? a=some { cls:=.none,data:=.fields ps }:=x
  show h'.get? a=some { cls:=.none,data:=.fields ps }
  exact k a _ (.inl rfl) e
 | met f y=>
  have e:h.get? a=some (PySem.W.methodObj (.ref f) (.ref y)):=x
  show h'.get? a=some (PySem.W.methodObj (.ref f) (.ref y))
  exact k a _ (.inl rfl) e
 | ext φ=>obtain ⟨p,⟨o,e⟩,st⟩:=x; exact ⟨st _ _ p fun o q=>k _ _ (.inl rfl) q,⟨o,k _ _ (.inl rfl) e⟩,st⟩
theorem HOk.lt (x:HOk P w H h) (e:H a=some o):a<h.objs.size:=(x a o e).lt
theorem HOk.fresh (x:HOk P w H h) (e:h.objs.size≤a):H a=none:=by
 cases q:H a with
 | none=>rfl
 | some u=>exact absurd (Nat.lt_of_lt_of_le (x.lt q) e) (Nat.lt_irrefl _)
theorem HOk.kept (x:HOk P w H h) (k: ∀b u,h.get? b=some u→h'.get? b=some u):HOk P w H h':=fun a o e=>
 (x a o e).stay (fun b u _ q=>k b u q) (fun _ q=>q) fun _ _ q=>q
theorem HOk.laid (x:HOk P w H h) (k: ∀b u,h.get? b=some u→h'.get? b=some u) (hp:h.objs.size≤a) (new:qbu P w (upd H a o) h' a o):HOk P w (upd H a o) h':=fun b u e=>by
 have hn:=x.fresh hp
 by_cases hb:b=a
 ·subst hb; rw[qan] at e; cases e; exact new
 ·rw[qaj hb] at e
  exact (x b u e).stay (fun c v _ q=>k c v q) (fun c q=>by rw[qaj (qap q hn)]; exact q) fun c xs q=>by rw[qaj (qap q hn)]; exact q
end
def Rd (H:Hp) (a:Addr) (u:HO):Prop:=H a=some u∨∃o,H a=some (.frz o u)
theorem Rd.ok {P:Program} {w:World} {H:Hp} {h:Heap} {a:Addr} {u:HO} (r:Rd H a u) (x:HOk P w H h):qbu P w H h a u:=by
 rcases r with r | ⟨o,r⟩
 ·exact x a u r
 ·obtain ⟨_,q⟩:=x a _ r
  exact q
def Mut:Option HO→Prop
 | some (.lst _)=>True
 | some (.dK _)=>True
 | some (.dT _)=>True
 | some (.set _ _)=>True
 | some (.ins _ _ _)=>True
 | some (.ext _)=>True
 | _=>False
section
variable {P:Program} {w:World} {H:Hp} {h h':Heap} {x e:Addr} {o':HO}
theorem HOk.write (ok:HOk P w H h) (mu:Mut (H x)) (he:e=x∨H e=some (.own x)) (k: ∀b u,b≠e→h.get? b=some u→h'.get? b=some u) (heo: ∃u,h'.get? e=some u)
  (new:qbu P w (upd H x o') h' x o'):HOk P w (upd H x o') h':=fun b u q=>by
 have nown: ∀c y,H c=some (.own y)→c≠x:=fun c y r z=>by subst z; rw[r] at mu; exact mu
 have ntup: ∀c xs,H c=some (.tup xs)→c≠x:=fun c xs r z=>by subst z; rw[r] at mu; exact mu
 by_cases hb:b=x
 ·subst hb; rw[qan] at q; cases q; exact new
 ·rw[qaj hb] at q
  by_cases hbe:b=e
  ·have q':H b=some (.own x):=by
    rcases he with z | z
    ·exact absurd (hbe.trans z) hb
    ·rw[hbe]; exact z
   rw[q] at q'; cases q'
   obtain ⟨v,hv⟩:=heo
   exact ⟨v,by rw[hbe]; exact hv⟩
  ·refine (ok b u q).stay (fun c v hc r=>k c v ?_ r) (fun c r=>by rw[qaj (nown c b r)]; exact r) fun c xs r=>by rw[qaj (ntup c xs r)]; exact r
   rcases hc with rfl | hc
   ·exact hbe
   ·rintro rfl
    rcases he with z | z
    ·exact nown c b hc z
    ·rw[hc] at z; cases z; exact hb rfl
end
structure Un (fs ex:List Addr) (H H':Hp) (h h':Heap):Prop where
 keep: ∀b o,h.get? b=some o→H b=none→b∉fs→b∉ex→h'.get? b=some o
 slot: ∀b o,h.get? b=some o→H b=none→b∈fs→b∉ex→∃sl,h'.get? b=some { o with slots:=sl }
 free: ∀b o,h.get? b=some o→H b=none→b∉ex→H' b=none
 there: ∀b o,h.get? b=some o→b∉ex→∃o',h'.get? b=some o'
 tups: ∀b xs,H b=some (.tup xs)→H' b=some (.tup xs)
 frzs: ∀b o u,H b=some (.frz o u)→H' b=some (.frz o u)
 tbls: ∀b ps,H b=some (.tbl ps)→∃more,H' b=some (.tbl (ps++more))
section
variable {fs fs' ex ex':List Addr} {H H1 H2:Hp} {h h1 h2 h':Heap} {a x e:Addr} {o:HO}
theorem Un.any (u:Un fs ex H H1 h h1) {b:Addr} {ob:Obj} (q:h.get? b=some ob) (n:H b=none) (hx:b∉ex): ∃sl,h1.get? b=some { ob with slots:=sl }:=by
 by_cases hb:b∈fs
 ·exact u.slot b ob q n hb hx
 ·exact ⟨ob.slots,u.keep b ob q n hb hx⟩
theorem Un.kept (k: ∀b u,h.get? b=some u→h'.get? b=some u):Un fs ex H H h h':=
 ⟨fun b ob q _ _ _=>k b ob q,fun b ob q _ _ _=>⟨ob.slots,k b ob q⟩,fun _ _ _ n _=>n,fun b ob q _=>⟨ob,k b ob q⟩,fun _ _ q=>q,fun _ _ _ q=>q,fun _ ps q=>⟨#[],by rw[q]; simp⟩⟩
theorem Un.refl:Un fs ex H H h h:=Un.kept fun _ _ q=>q
theorem Un.laid (k: ∀b u,h.get? b=some u→h'.get? b=some u) (hp:h.objs.size≤a) (hn:H a=none):Un fs ex H (upd H a o) h h' where
 keep:=fun b u q _ _ _=>k b u q
 slot:=fun b u q _ _ _=>⟨u.slots,k b u q⟩
 free:=fun b u q n _=>by rw[qaj (Nat.ne_of_lt (Nat.lt_of_lt_of_le (Heap.lt_size q) hp))]; exact n
 there:=fun b u q _=>⟨u,k b u q⟩
 tups:=fun b xs q=>by rw[qaj (qap q hn)]; exact q
 frzs:=fun b u xs q=>by rw[qaj (qap q hn)]; exact q
 tbls:=fun b ps q=>⟨#[],by rw[qaj (qap q hn),q]; simp⟩
theorem Un.write (mu:Mut (H x)) (he:e=x∨H e=some (.own x)) (k: ∀b u,b≠e→h.get? b=some u→h'.get? b=some u) (heo: ∃u,h'.get? e=some u):Un fs ex H (upd H x o) h h':=by
 have hx: ∀b,H b=none→b≠x:=fun b n z=>by subst z; rw[n] at mu; exact mu
 have hb: ∀b,H b=none→b≠e:=fun b n z=>by
  subst z
  rcases he with r | r
  ·exact hx b n r
  ·rw[n] at r; cases r
 have hm: ∀b u,H b=some u→¬Mut (some u)→b≠x:=fun b u q nm z=>by subst z; rw[q] at mu; exact nm mu
 refine ⟨fun b u q n _ _=>k b u (hb b n) q,fun b u q n _ _=>⟨u.slots,k b u (hb b n) q⟩,fun b u q n _=>by rw[qaj (hx b n)]; exact n,fun b u q _=> ?_,
  fun b xs q=>by rw[qaj (hm b _ q fun z=>z)]; exact q,fun b u xs q=>by rw[qaj (hm b _ q fun z=>z)]; exact q,fun b ps q=>⟨#[],by rw[qaj (hm b _ q fun z=>z),q]; simp⟩⟩
 by_cases hbe:b=e
 ·subst hbe; exact heo
 ·exact ⟨u,k b u hbe q⟩
end
def trk (h:Heap) (H:Hp):List Addr:=(List.range h.objs.size).filter fun a=>(H a).isSome
def qgn (h:Heap) (H:Hp):Heap:=PySem.W.hideAll h (trk h H)
theorem qfX (h:Heap) (H:Hp):(qgn h H).objs.size=h.objs.size:=PySem.W.hideAll_size _ _
theorem qhO {h:Heap} {H:Hp} {b:Addr} {o:Obj} (e:h.get? b=some o) (n:H b=none):(qgn h H).get? b=some o:=
 PySem.W.hideAll_get _ e fun hm=>by
  have q:(H b).isSome=true:=(List.mem_filter.mp hm).2
  rw[n] at q; simp at q
theorem qjS {h:Heap} {H:Hp} {b:Addr} {o:Obj} (e:(qgn h H).get? b=some o):h.get? b=some o∧H b=none:=by
 have e':h.get? b=some o:=PySem.W.of_hideAll (trk h H) e
 refine ⟨e',?_⟩
 cases q:H b with
 | none=>rfl
 | some x=>
  have hm:b∈trk h H:=List.mem_filter.mpr ⟨List.mem_range.mpr (Heap.lt_size e'),by simp[q]⟩
  have z:(qgn h H).get? b=none:=PySem.W.hideAll_none (trk h H) hm
  rw[z] at e; cases e
def qoC (g h:Heap) (L:Addr):List (Addr×Obj):=(List.range h.objs.size).filterMap fun a=>if a=L∨(g.get? a).isSome=true then none else (h.get? a).map fun o=>(a,o)
def qbY (g h:Heap) (L d:Addr):List (Addr×Obj):=(qoC g h L).filter fun p=>decide (p.1≠d)
end L2
namespace L2
open PySem PySem.Spec PyProof.Rows
structure Mod (K:PySem.W.Frag) (mg:Str→Option Value) (base:Heap):Prop where
 kin:K.In base
 glob:base.Ns mainGlobals mg
 blt: ∃mb,base.Ns builtinsNs mb∧∀x:Str,x≠ "__name__" →mb x=bootBuiltins x
 nolimit:base.NoLimit
structure Cx where
 prog:Program
 w:World
 K:PySem.W.Frag
 mg:Str→Option Value
 base:Heap
 A:Around
 N:List Str
 s₀:Shared
 H₀:Hp
 env:Env
 outer:List Env
 stack:List Env
 ex:List Addr
 fn:Str→Bool
 calm:Bool
 pn:List (Addr×Obj)
 xe:Value→Shared→Prop
def frs (l:List Env):List Addr:=l.filterMap (·.frame)
abbrev Cx.fs (X:Cx):List Addr:=frs X.outer
def Vis (sc:Scope) (x:Str):Prop:=sc.names.lookup x=some .local∨sc.names.lookup x=some .cell∨sc.names.lookup x=some .free
def Loc (sc:Scope) (x:Str):Prop:=sc.names.lookup x=some .local∨sc.names.lookup x=some .cell
def qu0 (env:Env) (h:Heap) (m:Str→Option Value) (x:Str) (u:Value):Prop:=
 (env.kindOf x=some .local∧m x=some u)∨((env.kindOf x=some .cell∨env.kindOf x=some .free)∧∃c,env.cells.lookup x=some c∧h.IsCell c (some u))
structure Cx.Ok (X:Cx):Prop where
 mod:Mod X.K X.mg X.base
 kind:X.env.scope.kind= .function
 glob:X.env.globals=mainGlobals
 blt:X.env.builtins=builtinsNs
 above:X.s₀.heap.objs.size≤X.env.locals
 inj: ∀x y c,X.env.cells.lookup x=some c→X.env.cells.lookup y=some c→x=y
 has: ∀x,(X.env.kindOf x=some .cell∨X.env.kindOf x=some .free)→∃c,X.env.cells.lookup x=some c
 cab: ∀x c,X.fn x=true→X.env.cells.lookup x=some c→X.s₀.heap.objs.size≤c
 hd:X.calm=true→X.A.handled=none
 frames:X.A.frames=some X.stack
 stk:X.stack=X.outer∨(X.stack=X.env::X.outer∧X.env.frame=some X.env.locals)
 exf: ∀b∈X.ex,b≠X.env.locals∧∀x c,X.env.cells.lookup x=some c→c≠b
 bs: ∀b o,X.base.get? b=some o→X.s₀.heap.get? b=some o∧X.H₀ b=none
 bsz:X.base.objs.size≤X.s₀.heap.objs.size
 noex: ∀b o,X.base.get? b=some o→b∉X.ex
 exfs: ∀b∈X.ex,b∉X.fs
 funs:X.s₀.heap.FunFrames X.base X.outer
 frf: ∀b∈X.fs,X.H₀ b=none
structure Inv (X:Cx) (pins:List (Addr×Obj)) (σ:List (Option V)) (H:Hp) (s:Shared):Prop where
 ok:X.Ok
 os:s.os=X.s₀.os
 bare:AllBare s.gens
 base:Un X.fs X.ex X.H₀ H X.s₀.heap s.heap
 loc: ∃m,s.heap.Ns X.env.locals m∧∀(i:Nat) (x:Str) (v:V),X.N[i]? =some x→σ[i]? =some (some v)→Vis X.env.scope x→∃u,RelV v u∧qu0 X.env s.heap m x u
 cell: ∀x c,X.env.cells.lookup x=some c→∃v,s.heap.IsCell c v
 free:H X.env.locals=none
 freeC: ∀x c,X.env.cells.lookup x=some c→H c=none
 pin: ∀p∈X.pn++pins,s.heap.get? p.1=some p.2∧H p.1=none∧p.1≠X.env.locals∧p.1∉X.fs∧∀v,p.2.data≠.cell v
 hok:HOk X.prog X.w H s.heap
 len:σ.length=X.N.length
section
variable {X:Cx} {pins:List (Addr×Obj)} {σ:List (Option V)} {H H':Hp} {s:Shared} {h':Heap}
theorem Cx.Ok.nofr (ok:X.Ok) {b:Addr} {o:Obj} (e:X.base.get? b=some o):b∉X.fs:=fun hb=>by
 have:=(ok.funs.mem hb).1
 rw[e] at this; cases this
theorem Inv.bs (I:Inv X pins σ H s): ∀b o,X.base.get? b=some o→s.heap.get? b=some o∧H b=none:=fun b o e=>
 ⟨I.base.keep b o (I.ok.bs b o e).1 (I.ok.bs b o e).2 (I.ok.nofr e) (I.ok.noex b o e),I.base.free b o (I.ok.bs b o e).1 (I.ok.bs b o e).2 (I.ok.noex b o e)⟩
theorem Inv.bk (I:Inv X pins σ H s): ∀b o,X.base.get? b=some o→s.heap.get? b=some o:=fun b o e=>(I.bs b o e).1
theorem Inv.mod (I:Inv X pins σ H s):Mod X.K X.mg X.base:=I.ok.mod
theorem Inv.kIn (I:Inv X pins σ H s):X.K.In s.heap:=I.ok.mod.kin.keeps I.bk
theorem Inv.nolimit (I:Inv X pins σ H s):s.heap.NoLimit:=I.ok.mod.nolimit.keeps I.bk
theorem Inv.fr (I:Inv X pins σ H s): ∃m,Fr X.base X.env.locals s.heap m:=
 let ⟨m,hn,_⟩:=I.loc
 ⟨m,hn,I.bk,Nat.le_trans I.ok.bsz I.ok.above⟩
theorem Inv.lt (I:Inv X pins σ H s):X.env.locals<s.heap.objs.size:=let ⟨_,hn,_⟩:=I.loc; hn.lt
theorem Inv.sz (I:Inv X pins σ H s):X.s₀.heap.objs.size≤s.heap.objs.size:=Nat.le_trans I.ok.above (Nat.le_of_lt I.lt)
theorem Inv.nofs (I:Inv X pins σ H s) {a:Addr} (h:s.heap.objs.size≤a):a∉X.fs:=fun hb=>by
 obtain ⟨_,o,ho,_⟩:=I.ok.funs.mem hb
 exact absurd (Nat.lt_of_lt_of_le (Heap.lt_size ho) (Nat.le_trans I.sz h)) (Nat.lt_irrefl _)
theorem Inv.cne (I:Inv X pins σ H s): ∀x c,X.env.cells.lookup x=some c→c≠X.env.locals:=fun x c e z=>by
 obtain ⟨v,o,ho,hd⟩:=I.cell x c e
 obtain ⟨m,⟨o',es,ep,ho',hd',_⟩,_⟩:=I.loc
 rw[z,ho'] at ho; cases ho; rw[hd'] at hd; cases hd
theorem Inv.funs (I:Inv X pins σ H s):s.heap.FunFrames X.base X.outer:=by
 have all: ∀(l:List Env),(∀b∈frs l,b∈X.fs)→X.s₀.heap.FunFrames X.base l→s.heap.FunFrames X.base l:=by
  intro l
  induction l with
  | nil=>intro _ _; trivial
  | cons env r ih=>
   intro hs hl
   obtain ⟨hk,⟨L,o,hf,hn,ho,hd⟩,hr⟩:=hl
   have hL:L∈X.fs:=hs L (by unfold frs; rw[List.filterMap_cons,hf]; exact List.mem_cons_self)
   obtain ⟨sl,e⟩:=I.base.slot L o ho (I.ok.frf L hL) hL fun z=>I.ok.exfs L z hL
   exact ⟨hk,⟨L,_,hf,hn,e,hd⟩,ih (fun b hb=>hs b (by unfold frs; rw[List.filterMap_cons,hf]; exact List.mem_cons_of_mem _ hb)) hr⟩
 exact all X.outer (fun _ hb=>hb) I.ok.funs
theorem Inv.stack (I:Inv X pins σ H s):s.heap.FunFrames X.base X.stack:=by
 rcases I.ok.stk with e | ⟨e,hf⟩
 ·rw[e]; exact I.funs
 ·rw[e]
  obtain ⟨m,hn,_⟩:=I.loc
  refine .cons (by rw[I.ok.kind]; decide) hf hn ?_ I.funs
  exact Heap.get?_none_of_le (Nat.le_trans I.ok.bsz I.ok.above)
theorem Inv.stkSub (I:Inv X pins σ H s): ∀b∈frs X.stack,b∈X.env.locals::X.fs:=fun b hb=>by
 rcases I.ok.stk with e | ⟨e,hf⟩
 ·rw[e] at hb; exact List.mem_cons_of_mem _ hb
 ·rw[e] at hb
  unfold frs at hb
  rw[List.filterMap_cons,hf] at hb
  exact hb
theorem Inv.stkFree (I:Inv X pins σ H s): ∀b∈frs X.stack,H b=none:=fun b hb=>by
 rcases List.mem_cons.mp (I.stkSub b hb) with e | hb
 ·rw[e]; exact I.free
 ·obtain ⟨_,o,ho,_⟩:=I.ok.funs.mem hb
  exact I.base.free b o ho (I.ok.frf b hb) fun z=>I.ok.exfs b z hb
theorem Inv.step {g':Array GenState} {t':Nat} {d':Drawn} {ch:List Addr} (I:Inv X pins σ H s)
  (hch: ∀b∈ch,(b∈X.ex∨X.s₀.heap.objs.size≤b)∧b≠X.env.locals∧(∀x c,X.env.cells.lookup x=some c→c≠b)∧∀p∈X.pn++pins,p.1≠b)
  (keep: ∀b o,b≠X.env.locals→b∉X.fs→b∉ch→s.heap.get? b=some o→H b=none→h'.get? b=some o)
  (slot: ∀b o,b≠X.env.locals→b∈X.fs→b∉ch→s.heap.get? b=some o→H b=none→∃sl,h'.get? b=some { o with slots:=sl }) (free: ∀b o,b∉ch→s.heap.get? b=some o→H b=none→H' b=none)
  (there: ∀b o,b∉ch→s.heap.get? b=some o→∃o',h'.get? b=some o')
  (tups: ∀b xs,H b=some (.tup xs)→H' b=some (.tup xs)) (frzs: ∀b o u,H b=some (.frz o u)→H' b=some (.frz o u)) (tbls: ∀b ps,H b=some (.tbl ps)→∃more,H' b=some (.tbl (ps++more)))
  (ns: ∀m,s.heap.Ns X.env.locals m→h'.Ns X.env.locals m) (hok:HOk X.prog X.w H' h') (hg:AllBare g'):
  Inv X pins σ H' { s with heap:=h',gens:=g',drawn:=d',toks:=t' }:=by
 have neL: ∀b o,X.s₀.heap.get? b=some o→b≠X.env.locals:=fun b o e=>Nat.ne_of_lt (Nat.lt_of_lt_of_le (Heap.lt_size e) I.ok.above)
 have neC: ∀b o,X.s₀.heap.get? b=some o→b∉X.ex→b∉ch:=fun b o e hx hb=>by
  rcases (hch b hb).1 with z | z
  ·exact hx z
  ·exact absurd (Nat.lt_of_lt_of_le (Heap.lt_size e) z) (Nat.lt_irrefl _)
 have cellK: ∀x c,X.env.cells.lookup x=some c→∀v,s.heap.IsCell c v→h'.IsCell c v:=fun x c e v ⟨o,ho,hd⟩=>by
  have nch:c∉ch:=fun z=>(hch c z).2.2.1 x c e rfl
  by_cases hc:c∈X.fs
  ·obtain ⟨sl,q⟩:=slot c o (I.cne x c e) hc nch ho (I.freeC x c e)
   exact ⟨_,q,hd⟩
  ·exact ⟨o,keep c o (I.cne x c e) hc nch ho (I.freeC x c e),hd⟩
 refine ⟨I.ok,I.os,hg,⟨fun b o e n hb hx=> ?_,fun b o e n hb hx=> ?_,fun b o e n hx=> ?_,fun b o e hx=> ?_,fun b xs e=>tups b xs (I.base.tups b xs e),fun b o xs e=>frzs b o xs (I.base.frzs b o xs e),fun b ps e=> ?_⟩,?_,fun x c e=> ?_,?_,fun x c e=> ?_,fun p hp=> ?_,hok,I.len⟩
 ·exact keep b o (neL b o e) hb (neC b o e hx) (I.base.keep b o e n hb hx) (I.base.free b o e n hx)
 ·obtain ⟨sl,e1⟩:=I.base.slot b o e n hb hx
  obtain ⟨sl',e2⟩:=slot b _ (neL b o e) hb (neC b o e hx) e1 (I.base.free b o e n hx)
  exact ⟨sl',e2⟩
 ·obtain ⟨o',e1⟩:=I.base.there b o e hx
  exact free b o' (neC b o e hx) e1 (I.base.free b o e n hx)
 ·obtain ⟨o',e1⟩:=I.base.there b o e hx
  exact there b o' (neC b o e hx) e1
 ·obtain ⟨m1,e1⟩:=I.base.tbls b ps e
  obtain ⟨m2,e2⟩:=tbls b _ e1
  exact ⟨m1++m2,by rw[e2,Array.append_assoc]⟩
 ·obtain ⟨m,hn,hl⟩:=I.loc
  refine ⟨m,ns m hn,fun i x v e1 e2 e3=> ?_⟩
  obtain ⟨u,r,l⟩:=hl i x v e1 e2 e3
  refine ⟨u,r,?_⟩
  rcases l with l | ⟨k,c,e,z⟩
  ·exact .inl l
  ·exact .inr ⟨k,c,e,cellK x c e _ z⟩
 ·obtain ⟨v,z⟩:=I.cell x c e
  exact ⟨v,cellK x c e v z⟩
 ·obtain ⟨m,⟨o,_,_,ho,_⟩,_⟩:=I.loc
  exact free _ o (fun z=>(hch _ z).2.1 rfl) ho I.free
 ·obtain ⟨v,o,ho,hd⟩:=I.cell x c e
  exact free c o (fun z=>(hch c z).2.2.1 x c e rfl) ho (I.freeC x c e)
 ·obtain ⟨e,n,ne,nf,d⟩:=I.pin p hp
  have nch:p.1∉ch:=fun z=>(hch p.1 z).2.2.2 p hp rfl
  exact ⟨keep p.1 p.2 ne nf nch e n,free p.1 p.2 nch e n,ne,nf,d⟩
theorem Inv.un {t':Nat} (I:Inv X pins σ H s) (u:Un X.fs [] H H' s.heap h') (hok:HOk X.prog X.w H' h'):Inv X pins σ H' { s with heap:=h',toks:=t' }:=by
 obtain ⟨m,⟨o,es,ep,ho,r⟩,_⟩:=id I.loc
 obtain ⟨sl,hL⟩:=u.any ho I.free (by simp)
 exact I.step (g':=s.gens) (d':=s.drawn) (ch:=[]) (fun _ z=>nomatch z) (fun b o _ hb _ e n=>u.keep b o e n hb (by simp)) (fun b o _ hb _ e n=>u.slot b o e n hb (by simp)) (fun b o _ e n=>u.free b o e n (by simp)) (fun b o _ e=>u.there b o e (by simp)) u.tups u.frzs u.tbls (fun m' hm=>by
  obtain ⟨o',es',ep',ho',r'⟩:=hm
  rw[ho] at ho'; cases ho'
  exact ⟨_,es',ep',hL,r'⟩) hok I.bare
theorem Inv.call {g':Array GenState} {t':Nat} {d':Drawn} {ch:List Addr} (I:Inv X pins σ H s) (u:Un (frs X.stack) ch H H' s.heap h') (hok:HOk X.prog X.w H' h') (hg:AllBare g')
  (hch: ∀b∈ch,(b∈X.ex∨X.s₀.heap.objs.size≤b)∧b≠X.env.locals∧(∀x c,X.env.cells.lookup x=some c→c≠b)∧∀p∈X.pn++pins,p.1≠b):
  Inv X pins σ H' { s with heap:=h',gens:=g',drawn:=d',toks:=t' }:=by
 obtain ⟨m,⟨o,es,ep,ho,r⟩,_⟩:=id I.loc
 obtain ⟨sl,hL⟩:=u.any ho I.free fun z=>(hch _ z).2.1 rfl
 exact I.step (ch:=ch) hch (fun b o hL hb hc e n=>u.keep b o e n (fun z=>(List.mem_cons.mp (I.stkSub b z)).elim hL hb) hc) (fun b o _ _ hc e n=>u.any e n hc) (fun b o hc e n=>u.free b o e n hc) (fun b o hc e=>u.there b o e hc) u.tups u.frzs u.tbls (fun m' hm=>by
  obtain ⟨o',es',ep',ho',r'⟩:=hm
  rw[ho] at ho'; cases ho'
  exact ⟨_,es',ep',hL,r'⟩) hok hg
theorem Inv.turned {t':Nat} {it:Addr} (I:Inv X pins σ H s) (k: ∀b o,b≠it→s.heap.get? b=some o→h'.get? b=some o) (hn:H it=none) (hL:it≠X.env.locals)
  (h1:it∈X.ex∨X.s₀.heap.objs.size≤it) (h2: ∀x c,X.env.cells.lookup x=some c→c≠it) (h3: ∀p∈X.pn++pins,p.1≠it):Inv X pins σ H { s with heap:=h',toks:=t' }:=by
 have nit: ∀b u,H b=some u→b≠it:=fun b u e z=>by rw[z,hn] at e; cases e
 refine I.step (g':=s.gens) (d':=s.drawn) (ch:=[it]) (fun b hb=> ?_) (fun b o _ _ hc e _=>k b o (fun z=>hc (by simp[z])) e) (fun b o _ _ hc e _=>⟨o.slots,k b o (fun z=>hc (by simp[z])) e⟩) (fun _ _ _ _ n=>n)
  (fun b o hc e=>⟨o,k b o (fun z=>hc (by simp[z])) e⟩) (fun _ _ e=>e) (fun _ _ _ e=>e) (fun b ps e=>⟨#[],by rw[e]; simp⟩) (fun m hm=> ?_) (fun b u e=> ?_) I.bare
 ·have e:b=it:=by simpa using hb
  subst e
  exact ⟨h1,hL,h2,h3⟩
 ·obtain ⟨o,es,ep,ho,r⟩:=hm
  exact ⟨o,es,ep,k _ o (Ne.symm hL) ho,r⟩
 ·refine (I.hok b u e).stay (fun c v hc q=>k c v ?_ q) (fun _ q=>q) fun _ _ q=>q
  rcases hc with z | z
  ·rw[z]; exact nit b u e
  ·exact nit c _ z
theorem Inv.tok (I:Inv X pins σ H s) (t:Nat):Inv X pins σ H { s with toks:=t }:=I.un (h':=s.heap) (t':=t) Un.refl I.hok
theorem Inv.kept {t':Nat} (I:Inv X pins σ H s) (k: ∀b u,s.heap.get? b=some u→h'.get? b=some u):Inv X pins σ H { s with heap:=h',toks:=t' }:=I.un (Un.kept k) (I.hok.kept k)
theorem Inv.laid {a:Addr} {o:HO} {t':Nat} (I:Inv X pins σ H s) (k: ∀b u,s.heap.get? b=some u→h'.get? b=some u) (hp:s.heap.objs.size≤a) (new:qbu X.prog X.w (upd H a o) h' a o):
  Inv X pins σ (upd H a o) { s with heap:=h',toks:=t' }:=I.un (Un.laid k hp (I.hok.fresh hp)) (I.hok.laid k hp new)
theorem Inv.write {x e:Addr} {o:HO} {t':Nat} (I:Inv X pins σ H s) (mu:Mut (H x)) (he:e=x∨H e=some (.own x)) (k: ∀b u,b≠e→s.heap.get? b=some u→h'.get? b=some u) (heo: ∃u,h'.get? e=some u)
  (new:qbu X.prog X.w (upd H x o) h' x o):Inv X pins σ (upd H x o) { s with heap:=h',toks:=t' }:=I.un (Un.write mu he k heo) (I.hok.write mu he k heo new)
theorem Inv.pins_of {pins':List (Addr×Obj)} (I:Inv X pins σ H s) (h: ∀p∈pins',s.heap.get? p.1=some p.2∧H p.1=none∧p.1≠X.env.locals∧p.1∉X.fs∧∀v,p.2.data≠.cell v):Inv X pins' σ H s:=
 ⟨I.ok,I.os,I.bare,I.base,I.loc,I.cell,I.free,I.freeC,fun p hp=>(List.mem_append.mp hp).elim (fun z=>I.pin p (List.mem_append_left _ z)) (h p),I.hok,I.len⟩
theorem qhB {N:List Str} (hN:N.Nodup) {i j:Nat} {x:Str} (a:N[i]? =some x) (b:N[j]? =some x):i=j:=by
 obtain ⟨h1,e1⟩:=List.getElem?_eq_some_iff.mp a
 obtain ⟨h2,e2⟩:=List.getElem?_eq_some_iff.mp b
 exact (List.getElem_inj hN).mp (e1.trans e2.symm)
theorem qfw {M:Model} {A:Around} {E:Value→Shared→Prop} {i:Nat} {x:Str} {v:V} {u:Value} {Q:Unit→Shared→Prop} (I:Inv X pins σ H s) (hN:X.N.Nodup) (hi:X.N[i]? =some x) (hx:Loc X.env.scope x) (r:RelV v u)
  (h: ∀s',Inv X pins (σ.set i (some v)) H s'→(∃a,Heap.SameBut a s.heap s'.heap∧(a=X.env.locals∨X.env.cells.lookup x=some a))→Q () s') (hf:X.fn x=true∨X.env.scope.names.lookup x=some .local:=by first | exact .inl rfl | exact .inr rfl | assumption):wpAny M A (storeName X.env x u) Q E s:=by
 obtain ⟨m,hn,hl⟩:=id I.loc
 have hcls:(X.env.scope.kind== .class||(X.env.scope.kind== .module&&X.env.locals != X.env.globals))=false:=by rw[I.ok.kind]; rfl
 have hiσ:i<σ.length:=by rw[I.len]; exact (List.getElem?_eq_some_iff.mp hi).1
 have cne:=I.cne
 have tracked: ∀{a:Addr} {h':Heap},(∃o,s.heap.get? a=some o∧H a=none)→Heap.SameBut a s.heap h'→HOk X.prog X.w H h':=fun {a h'} ha hs b ob e=>by
  obtain ⟨_,_,hfree⟩:=ha
  refine (I.hok b ob e).stay (fun c w' hc q=>(hs.2 c ?_).trans q) (fun _ q=>q) fun _ _ q=>q
  rintro rfl
  rcases hc with rfl | hc
  ·rw[hfree] at e; cases e
  ·rw[hfree] at hc; cases hc
 rcases hx with hk | hk
 ·refine wpAny_storeName_local hk hn (fun h' hn' hs=> ?_) hcls
  obtain ⟨oL,_,_,hoL,_⟩:=id hn
  refine h _ ⟨I.ok,I.os,I.bare,⟨fun b o e n hb hx=> ?_,fun b o e n hb hx=> ?_,I.base.free,fun b o e hx=> ?_,I.base.tups,I.base.frzs,I.base.tbls⟩,⟨_,hn',fun j y v' e1 e2 e3=> ?_⟩,fun y c e=> ?_,I.free,I.freeC,fun p hp=> ?_,tracked ⟨oL,hoL,I.free⟩ hs,by simpa using I.len⟩ ⟨_,hs,.inl rfl⟩
  ·exact (hs.2 b (Nat.ne_of_lt (Nat.lt_of_lt_of_le (Heap.lt_size e) I.ok.above))).trans (I.base.keep b o e n hb hx)
  ·obtain ⟨sl,e1⟩:=I.base.slot b o e n hb hx
   exact ⟨sl,(hs.2 b (Nat.ne_of_lt (Nat.lt_of_lt_of_le (Heap.lt_size e) I.ok.above))).trans e1⟩
  ·obtain ⟨o',e1⟩:=I.base.there b o e hx
   exact ⟨o',(hs.2 b (Nat.ne_of_lt (Nat.lt_of_lt_of_le (Heap.lt_size e) I.ok.above))).trans e1⟩
  ·by_cases hj:j=i
   ·subst hj
    rw[hi] at e1; cases e1
    rw[List.getElem?_set_self hiσ] at e2
    cases e2
    exact ⟨u,r,.inl ⟨hk,by simp⟩⟩
   ·rw[List.getElem?_set_ne (Ne.symm hj)] at e2
    obtain ⟨u',r',q⟩:=hl j y v' e1 e2 e3
    refine ⟨u',r',?_⟩
    rcases q with ⟨k,e⟩ | ⟨k,c,e,z⟩
    ·refine .inl ⟨k,?_⟩
     have:y≠x:=fun e=>hj (qhB hN e1 (e▸hi))
     simp[this,e]
    ·exact .inr ⟨k,c,e,z.sameBut hs (cne y c e)⟩
  ·obtain ⟨w',z⟩:=I.cell y c e
   exact ⟨w',z.sameBut hs (cne y c e)⟩
  ·obtain ⟨e,n,ne,nf,d⟩:=I.pin p hp
   exact ⟨(hs.2 p.1 ne).trans e,n,ne,nf,d⟩
 ·have hfn:X.fn x=true:=by
   rcases hf with z | z
   ·exact z
   ·rw[z] at hk; cases hk
  obtain ⟨c,hc⟩:=I.ok.has x (.inl hk)
  obtain ⟨w',z⟩:=I.cell x c hc
  refine wpAny_storeName_cell I.ok.kind hk hc z (fun h' hc' hs=> ?_)
  obtain ⟨oc,hoc,hocd⟩:=id z
  refine h { s with heap:=h' } ⟨I.ok,I.os,I.bare,⟨fun b o e n hb hx=> ?_,fun b o e n hb hx=> ?_,I.base.free,fun b o e hx=> ?_,I.base.tups,I.base.frzs,I.base.tbls⟩,⟨m,hn.sameBut hs (Ne.symm (cne x c hc)),fun j y v' e1 e2 e3=> ?_⟩,fun y c' e=> ?_,I.free,I.freeC,fun p hp=> ?_,tracked ⟨oc,hoc,I.freeC x c hc⟩ hs,by simpa using I.len⟩ ⟨c,hs,.inr hc⟩
  ·exact (hs.2 b (Nat.ne_of_lt (Nat.lt_of_lt_of_le (Heap.lt_size e) (I.ok.cab x c hfn hc)))).trans (I.base.keep b o e n hb hx)
  ·obtain ⟨sl,e1⟩:=I.base.slot b o e n hb hx
   exact ⟨sl,(hs.2 b (Nat.ne_of_lt (Nat.lt_of_lt_of_le (Heap.lt_size e) (I.ok.cab x c hfn hc)))).trans e1⟩
  ·obtain ⟨o',e1⟩:=I.base.there b o e hx
   exact ⟨o',(hs.2 b (Nat.ne_of_lt (Nat.lt_of_lt_of_le (Heap.lt_size e) (I.ok.cab x c hfn hc)))).trans e1⟩
  ·by_cases hj:j=i
   ·subst hj
    rw[hi] at e1; cases e1
    rw[List.getElem?_set_self hiσ] at e2
    cases e2
    exact ⟨u,r,.inr ⟨.inl hk,c,hc,hc'⟩⟩
   ·rw[List.getElem?_set_ne (Ne.symm hj)] at e2
    obtain ⟨u',r',q⟩:=hl j y v' e1 e2 e3
    refine ⟨u',r',?_⟩
    rcases q with q | ⟨k,c',e,z'⟩
    ·exact .inl q
    ·refine .inr ⟨k,c',e,z'.sameBut hs ?_⟩
     rintro rfl
     exact hj (qhB hN e1 (I.ok.inj _ _ _ e hc▸hi))
  ·by_cases hcc:c'=c
   ·subst hcc; exact ⟨_,hc'⟩
   ·obtain ⟨w2,z2⟩:=I.cell y c' e
    exact ⟨w2,z2.sameBut hs hcc⟩
  ·obtain ⟨e,n,ne,nf,d⟩:=I.pin p hp
   refine ⟨(hs.2 p.1 ?_).trans e,n,ne,nf,d⟩
   intro q
   rw[q,hoc] at e
   have q':oc=p.2:=Option.some.inj e
   exact d w' (by rw[←q']; exact hocd)
theorem qdF {M:Model} {A:Around} {E:Value→Shared→Prop} {i:Nat} {x:Str} {v:V} {u:Value} {Q:Unit→Shared→Prop} (I:Inv X pins σ H s) (hN:X.N.Nodup) (hi:X.N[i]? =some x) (hx:Loc X.env.scope x) (r:RelV v u)
  (h: ∀s',Inv X pins (σ.set i (some v)) H s'→Q () s') (hf:X.fn x=true∨X.env.scope.names.lookup x=some .local:=by first | exact .inl rfl | exact .inr rfl | assumption):wpAny M A (storeName X.env x u) Q E s:=
 qfw I hN hi hx r (fun s' I' _=>h s' I') hf
theorem Inv.call' {s':Shared} {ch:List Addr} (I:Inv X pins σ H s) (ho:s'.os=s.os) (u:Un (frs X.stack) ch H H' s.heap s'.heap) (hok:HOk X.prog X.w H' s'.heap) (hg:AllBare s'.gens)
  (hch: ∀b∈ch,(b∈X.ex∨X.s₀.heap.objs.size≤b)∧b≠X.env.locals∧(∀x c,X.env.cells.lookup x=some c→c≠b)∧∀p∈X.pn++pins,p.1≠b):Inv X pins σ H' s':=by
 obtain ⟨h',g',d',t',o'⟩:=s'
 have e:o'=s.os:=ho
 subst e
 exact I.call (g':=g') (t':=t') (d':=d') u hok hg hch
end
abbrev XK:=Value→Option Addr→Hp→Prop
abbrev St:=List (Option V)
abbrev VK:=V→Hp→Prop
abbrev TE:=St→Hp→VK→Prop
abbrev TT:=St→Hp→(Bool→Hp→Prop)→Prop
abbrev TA:=St→Hp→(List V→Hp→Prop)→Prop
structure qmQ where
 nx:St→Hp→Prop
 rt:VK
 bk:St→Hp→Prop:=fun _ _=>False
 ct:St→Hp→Prop:=fun _ _=>False
abbrev TS:=qmQ→St→Hp→Prop
def EP (X:Cx) (pins:List (Addr×Obj)) (σ:St) (Q:VK) (u:Value) (s':Shared):Prop:= ∃v H',Inv X pins σ H' s'∧RelV v u∧Q v H'
def TP (X:Cx) (pins:List (Addr×Obj)) (σ:St) (Q:Bool→Hp→Prop) (b:Bool) (s':Shared):Prop:= ∃H',Inv X pins σ H' s'∧Q b H'
def AP (X:Cx) (pins:List (Addr×Obj)) (σ:St) (Q:List V→Hp→Prop) (us:List Value) (s':Shared):Prop:= ∃vs H',Inv X pins σ H' s'∧Vals vs us∧Q vs H'
def SP (X:Cx) (pins:List (Addr×Obj)) (D:qmQ) (f:Flow) (s':Shared):Prop:=
 match f with
 | .next=> ∃σ' H',Inv X pins σ' H' s'∧D.nx σ' H'
 | .brk=> ∃σ' H',Inv X pins σ' H' s'∧D.bk σ' H'
 | .cont=> ∃σ' H',Inv X pins σ' H' s'∧D.ct σ' H'
 | .ret u=> ∃v σ' H',Inv X pins σ' H' s'∧RelV v u∧D.rt v H'
def PE (X:Cx) (e:Expr) (t:TE):Prop:=
 ∀(pins:List (Addr×Obj)) (s:Shared) (σ:St) (H:Hp) (Q:VK),Inv X pins σ H s→t σ H Q→wpAny (model X.prog X.w) X.A (eval e X.env) (EP X pins σ Q) X.xe s
def PT (X:Cx) (e:Expr) (t:TT):Prop:=
 ∀(pins:List (Addr×Obj)) (s:Shared) (σ:St) (H:Hp) (Q:Bool→Hp→Prop),Inv X pins σ H s→t σ H Q→wpAny (model X.prog X.w) X.A (isTrue e X.env (eval e X.env)) (TP X pins σ Q) X.xe s
def PW (X:Cx) (e:Expr) (t:TT):Prop:=
 ∀(whole:Sem Value) (pins:List (Addr×Obj)) (s:Shared) (σ:St) (H:Hp) (Q:Bool→Hp→Prop),Inv X pins σ H s→t σ H Q→wpAny (model X.prog X.w) X.A (isTrue e X.env whole) (TP X pins σ Q) X.xe s
theorem PW.pt {X:Cx} {e:Expr} {t:TT} (h:PW X e t):PT X e t:=h _
def PA (X:Cx) (es:List Expr) (t:TA):Prop:=
 ∀(pos:Pos) (pins:List (Addr×Obj)) (s:Shared) (σ:St) (H:Hp) (Q:List V→Hp→Prop),Inv X pins σ H s→t σ H Q→wpAny (model X.prog X.w) X.A (spliced (backTo pos (starEach es X.env))) (AP X pins σ Q) X.xe s
def PS (X:Cx) (st:Stmt) (t:TS):Prop:=
 ∀(pins:List (Addr×Obj)) (s:Shared) (σ:St) (H:Hp) (D:qmQ),Inv X pins σ H s→t D σ H→wpAny (model X.prog X.w) X.A (exec st X.env) (SP X pins D) X.xe s
def PSs (X:Cx) (st:List Stmt) (t:TS):Prop:=
 ∀(pins:List (Addr×Obj)) (s:Shared) (σ:St) (H:Hp) (D:qmQ),Inv X pins σ H s→t D σ H→wpAny (model X.prog X.w) X.A (execs st X.env) (SP X pins D) X.xe s
theorem thn {α:Type} {t:Sem α} {Q Q':α→Shared→Prop} {M:Model} {A:Around} {E:Value→Shared→Prop} {s:Shared} (h:wpAny M A t Q E s) (hQ: ∀a s,Q a s→Q' a s):wpAny M A t Q' E s:=wpAny_mono h hQ fun _ _ x=>x
end L2
namespace L2
open PySem PySem.Spec PyProof.Rows
section
variable {X:Cx}
def qli (i:Nat):TE:=fun σ H Q=> ∃v,σ[i]? =some (some v)∧Q v H
def tC (v:V):TE:=fun _ H Q=>Q v H
theorem qpO {i:Nat} {x:Str} {pos:Pos} (hN:X.N[i]? =some x) (hv:Vis X.env.scope x) (hd:(x==("__debug__" :Str))=false:=by decide) (hcd:(x==("__classdict__" :Str))=false:=by decide):PE X (.Name x pos) (qli i):=by
 intro pins s σ H Q I h
 obtain ⟨v,e,h⟩:=h
 obtain ⟨m,hn,hl⟩:=I.loc
 obtain ⟨u,r,l⟩:=hl i x v hN e hv
 have fin:EP X pins σ Q u s:=⟨v,H,I,r,h⟩
 rcases l with ⟨hk,hm⟩ | ⟨hk,c,hc,hcell⟩
 ·exact wpAny_Name (wpAny_loadName_local I.ok.kind hk hn hm fin) hd
 ·rcases hk with hk | hk
  ·exact wpAny_Name (wpAny_loadName_cell I.ok.kind hk hc hcell fin) hd
  ·exact wpAny_Name (wpAny_loadName_free I.ok.kind hk hc hcell fin hcd) hd
theorem qc1 {i j pos}:PE X (.Constant (.int i) j pos) (tC (.int i)):=fun _ _ _ H _ I h=>wpAny_Constant_int ⟨.int i,H,I.tok _,⟨_,rfl⟩,h⟩
theorem qr9 {b j pos}:PE X (.Constant (.bool b) j pos) (tC (.bl b)):=fun _ _ _ H _ I h=>Constant_bool ⟨.bl b,H,I,rfl,h⟩
theorem qpT {j pos}:PE X (.Constant .none j pos) (tC .non):=fun _ _ _ H _ I h=>Constant_none ⟨.non,H,I,rfl,h⟩
theorem qpQ {x j pos}:PE X (.Constant (.str x) j pos) (tC (.str x)):=fun _ _ _ H _ I h=>Calls.Constant_str ⟨.str x,H,I.tok _,⟨_,rfl⟩,h⟩
def Gl (X:Cx) (x:Str):Prop:=X.env.kindOf x=some .globalImplicit
theorem qj5 {E:Value→Shared→Prop} {pins:List (Addr×Obj)} {s:Shared} {σ:St} {H:Hp} {x:Str} {u:Value} {pos:Pos} {Q:Value→Shared→Prop} (I:Inv X pins σ H s) (hg:Gl X x) (hm:X.mg x=some u) (h:Q u s)
  (hd:(x==("__debug__" :Str))=false:=by decide):wpAny (model X.prog X.w) X.A (eval (.Name x pos) X.env) Q E s:=
 Calls.Name_function_global I.ok.kind hg (Calls.loadGlobal_global (by rw[I.ok.glob]; exact I.mod.glob.keeps I.bk) hm h) hd
theorem qcw {E:Value→Shared→Prop} {pins:List (Addr×Obj)} {s:Shared} {σ:St} {H:Hp} {x:Str} {u:Value} {pos:Pos} {Q:Value→Shared→Prop} (I:Inv X pins σ H s) (hg:Gl X x) (hm:X.mg x=none) (hv:bootBuiltins x=some u) (h:Q u s)
  (hn:x≠ "__name__" :=by decide) (hd:(x==("__debug__" :Str))=false:=by decide):wpAny (model X.prog X.w) X.A (eval (.Name x pos) X.env) Q E s:=by
 obtain ⟨mb,h1,h2⟩:=I.mod.blt
 exact Calls.Name_function_global I.ok.kind hg (Calls.loadGlobal_builtin (by rw[I.ok.glob]; exact I.mod.glob.keeps I.bk) hm (by rw[I.ok.blt]; exact h1.keeps I.bk) ((h2 x hn).trans hv) h) hd
theorem qdj {x:Str} {v:V} {u:Value} {pos:Pos} (hg:Gl X x) (hm:X.mg x=some u) (r:RelV v u) (hd:(x==("__debug__" :Str))=false:=by decide):PE X (.Name x pos) (tC v):=
 fun _ _ _ H _ I h=>qj5 I hg hm ⟨v,H,I,r,h⟩ hd
theorem qe2 {x:Str} {v:V} {u:Value} {pos:Pos} (hg:Gl X x) (hm:X.mg x=none) (hv:bootBuiltins x=some u) (r:RelV v u) (hn:x≠ "__name__" :=by decide) (hd:(x==("__debug__" :Str))=false:=by decide):PE X (.Name x pos) (tC v):=
 fun _ _ _ H _ I h=>qcw I hg hm hv ⟨v,H,I,r,h⟩ hn hd
variable {a b:Expr} {ta tb:TE} {pos:Pos}
def PC (X:Cx) (op:CmpOp) (a b:Expr) (t:TE):Prop:=
 ∀(pins:List (Addr×Obj)) (s:Shared) (σ:St) (H:Hp) (Q:VK),Inv X pins σ H s→t σ H Q→
  wpAny (model X.prog X.w) X.A (eval a X.env) (fun v s₁=>wpAny (model X.prog X.w) X.A (eval b X.env) (fun u s₂=>wpAny (model X.prog X.w) X.A (compareOp op v u) (EP X pins σ Q) X.xe s₂) X.xe s₁) X.xe s
theorem qe4 (b:Expr) {op:CmpOp} (h:op≠.In) (h2:op≠.NotIn):behindInMarks op b=false:=by
 have e1:(op==CmpOp.In)=false:=by cases op<;>first | rfl | exact absurd rfl h
 have e2:(op==CmpOp.NotIn)=false:=by cases op<;>first | rfl | exact absurd rfl h2
 cases b<;>simp[behindInMarks,e1,e2]
def tB (t:TE):TT:=fun σ H Q=>t σ H fun x H1=> ∃c,x= .bl c∧Q c H1
theorem qtk {op:CmpOp} {t:TE} (h:PC X op a b t) (h1:behindInMarks op b=false:=by first | exact qe4 _ (by decide) (by decide) | rfl):PT X (.Compare a [op] [b] pos) (tB t):=by
 intro pins s σ H Q I hw
 refine wpAny_isTrue_Compare1 (thn (h pins s σ H _ I hw) fun v s1 h1=>thn h1 fun u s2 h2=>thn h2 fun c s3 ⟨x,H1,I1,r1,q1⟩=> ?_) h1
 obtain ⟨d,rfl,q⟩:=q1
 cases r1
 exact wpAny_truthy_bool ⟨H1,I1,q⟩
theorem qpE {e:Expr} {t:TE} (h:PE X e t) (he: ∀whole,isTrue e X.env whole=(do let v ←whole; standAt e.pos; holding [v] (truthy v)):=by intro _; rfl):PT X e (tB t):=by
 intro pins s σ H Q I hw
 refine isTrue_plain (thn (h pins s σ H _ I hw) fun v s1 ⟨x,H1,I1,r1,q1⟩=> ?_) (he _)
 obtain ⟨d,rfl,q⟩:=q1
 cases r1
 exact wpAny_truthy_bool ⟨H1,I1,q⟩
variable {tA tB':TT} {qbY:List Expr}
def que (t u:TT):TT:=fun σ H Q=>t σ H fun c H1=>if c=true then u σ H1 Q else Q false H1
def tOr (t u:TT):TT:=fun σ H Q=>t σ H fun c H1=>if c=true then Q true H1 else u σ H1 Q
def qua (t:TT):TT:=fun σ H Q=>t σ H fun c H1=>Q (!c) H1
theorem qnL (ha:PT X a tA):PW X (.BoolOp .And [a] pos) tA:=by
 intro wh pins s σ H Q I h
 refine isTrue_and (thn (ha pins s σ H Q I h) fun c s1 e=> ?_)
 cases c with
 | true=>exact isTrue_and_nil e
 | false=>exact e
theorem qpB (ha:PT X a tA):PW X (.BoolOp .Or [a] pos) tA:=by
 intro wh pins s σ H Q I h
 refine isTrue_or (thn (ha pins s σ H Q I h) fun c s1 e=> ?_)
 cases c with
 | false=>exact isTrue_or_nil e
 | true=>exact e
theorem qpC (ha:PT X a tA) (hb:PW X (.BoolOp .And (b::qbY) pos) tB'):PW X (.BoolOp .And (a::b::qbY) pos) (que tA tB'):=by
 intro wh pins s σ H Q I h
 refine isTrue_and (thn (ha pins s σ H _ I h) fun c s1 ⟨H1,I1,q1⟩=> ?_)
 cases c with
 | true=>exact hb wh pins s1 σ H1 Q I1 q1
 | false=>exact ⟨H1,I1,q1⟩
theorem qr4 (ha:PT X a tA) (hb:PW X (.BoolOp .Or (b::qbY) pos) tB'):PW X (.BoolOp .Or (a::b::qbY) pos) (tOr tA tB'):=by
 intro wh pins s σ H Q I h
 refine isTrue_or (thn (ha pins s σ H _ I h) fun c s1 ⟨H1,I1,q1⟩=> ?_)
 cases c with
 | true=>exact ⟨H1,I1,q1⟩
 | false=>exact hb wh pins s1 σ H1 Q I1 q1
theorem qpF (ha:PT X a tA):PT X (.UnaryOp .Not a pos) (qua tA):=by
 intro pins s σ H Q I h
 exact isTrue_not (ha pins s σ H (fun c H1=>Q (!c) H1) I h)
def qrm (ta tb:TE):TE:=fun σ H Q=>ta σ H fun x H1=> ∃c,x= .bl c∧if c=true then tb σ H1 Q else Q (.bl false) H1
def qrj (ta:TE):TE:=fun σ H Q=>ta σ H fun x H1=> ∃c,x= .bl c∧Q (.bl (!c)) H1
theorem qpR {op} {t:TE} (h:PE X a t):PE X (.BoolOp op [a] pos) t:=fun pins s σ H Q I hw=>BoolOp_one (h pins s σ H Q I hw)
theorem qpU (ha:PE X a ta) (hb:PE X (.BoolOp .And (b::qbY) pos) tb):PE X (.BoolOp .And (a::b::qbY) pos) (qrm ta tb):=by
 intro pins s σ H Q I h
 refine BoolOp_and (thn (ha pins s σ H _ I h) fun v s1 ⟨x,H1,I1,r1,q1⟩=> ?_)
 obtain ⟨c,rfl,q1⟩:=q1
 cases r1
 refine wpAny_truthy_bool ?_
 cases c with
 | true=>exact hb pins s1 σ H1 Q I1 q1
 | false=>exact ⟨.bl false,H1,I1,rfl,q1⟩
theorem qpS (ha:PE X a ta):PE X (.UnaryOp .Not a pos) (qrj ta):=by
 intro pins s σ H Q I h
 refine UnaryOp_ (thn (ha pins s σ H _ I h) fun v s1 ⟨x,H1,I1,r1,q1⟩=> ?_)
 obtain ⟨c,rfl,q1⟩:=q1
 cases r1
 exact not_of (wpAny_truthy_bool ⟨.bl (!c),H1,I1,rfl,q1⟩)
def tIf (t:TT) (ta tb:TE):TE:=fun σ H Q=>t σ H fun c H1=>if c=true then ta σ H1 Q else tb σ H1 Q
theorem qlW {c:Expr} (hc:PT X c tA) (ha:PE X a ta) (hb:PE X b tb):PE X (.IfExp c a b pos) (tIf tA ta tb):=by
 intro pins s σ H Q I h
 refine wpAny_IfExp (thn (hc pins s σ H _ I h) fun d s1 ⟨H1,I1,q1⟩=> ?_)
 cases d with
 | true=>exact ha pins s1 σ H1 Q I1 q1
 | false=>exact hb pins s1 σ H1 Q I1 q1
end
end L2
namespace L2
open PySem PySem.Spec PyProof.Rows
def SqL (K:PySem.W.Frag) (H:Hp) (a:Addr) (xs:List V):Prop:=
 Rd H a (.lst xs)∨
  ∃(o:Obj) (its:Array Value) (n:Nat),K.lookup a=some o∧o.cls= .type "list" ∧o.dict=none∧o.data= .seq its n∧its.size≤sizeLine∧Vals xs its.toList
def SqT (K:PySem.W.Frag) (H:Hp) (a:Addr) (xs:List V):Prop:=
 Rd H a (.tup xs)∨
  ∃(o:Obj) (its:Array Value) (n:Nat),K.lookup a=some o∧o.cls= .type "tuple" ∧o.data= .seq its n∧its.size≤sizeLine∧Vals xs its.toList
def quX:Value→Option V
 | .none=>some .non
 | .bool b=>some (.bl b)
 | .int i _=>some (.int i)
 | .str x _=>some (.str x)
 | .bytes b _=>some (.byt b)
 | .float b _=>some (.flt b)
 | .ref a=>some (.ref a)
 | .type n=>some (.ty n)
 | _=>none
theorem RelV.abs {x:V} {u:Value} (r:RelV x u):quX u=some x:=by
 cases x with
 | non=>cases r; rfl
 | bl _=>cases r; rfl
 | int _=>obtain ⟨t,rfl⟩:=r; rfl
 | str _=>obtain ⟨t,rfl⟩:=r; rfl
 | byt _=>obtain ⟨t,rfl⟩:=r; rfl
 | flt _=>obtain ⟨t,rfl⟩:=r; rfl
 | ref _=>cases r; rfl
 | ty _=>cases r; rfl
theorem RelV.inj {x y:V} {u:Value} (r:RelV x u) (q:RelV y u):x=y:=Option.some.inj (r.abs.symm.trans q.abs)
theorem Vals.inj: ∀{xs ys:List V} {us:List Value},Vals xs us→Vals ys us→xs=ys
 | _,_,_,.nil,.nil=>rfl
 | _,_,_,.cons r t,.cons r' t'=>by rw[r.inj r',Vals.inj t t']
section
variable {X:Cx} {pins:List (Addr×Obj)} {σ:St} {H:Hp} {s:Shared} {a:Addr} {xs ys:List V}
theorem SqL.of {K:PySem.W.Frag} (h:H a=some (.lst xs)):SqL K H a xs:=.inl (.inl h)
theorem SqT.of {K:PySem.W.Frag} (h:H a=some (.tup xs)):SqT K H a xs:=.inl (.inl h)
theorem Inv.list (I:Inv X pins σ H s) (h:SqL X.K H a xs): ∃its:List Value,Vals xs its∧PlainL s.heap a its.toArray∧xs.length≤sizeLine:=by
 rcases h with h | ⟨o,its,n,hk,hc,hd,hs,hz,r⟩
 ·obtain ⟨z,its,n,r,e⟩:=h.ok I.hok
  exact ⟨its,r,⟨_,n,e,rfl,rfl,rfl⟩,z⟩
 ·refine ⟨its.toList,r,⟨o,n,I.kIn a o hk,hc,hd,by simpa using hs⟩,?_⟩
  have e:=r.length
  simp only[Array.length_toList] at e
  lia
theorem Inv.tuple (I:Inv X pins σ H s) (h:SqT X.K H a xs): ∃its:List Value,Vals xs its∧IsTup s.heap a its.toArray∧xs.length≤sizeLine:=by
 rcases h with h | ⟨o,its,n,hk,hc,hs,hz,r⟩
 ·obtain ⟨z,its,r,p⟩:=h.ok I.hok
  exact ⟨its,r,p,z⟩
 ·refine ⟨its.toList,r,⟨o,I.kIn a o hk,hc,n,by simpa using hs⟩,?_⟩
  have e:=r.length
  simp only[Array.length_toList] at e
  lia
theorem Inv.list_inj (I:Inv X pins σ H s) (h:SqL X.K H a xs) (h':SqL X.K H a ys):xs=ys:=by
 obtain ⟨its,r,⟨o,n,e,_,_,d⟩,_⟩:=I.list h
 obtain ⟨its',r',⟨o',n',e',_,_,d'⟩,_⟩:=I.list h'
 rw[e] at e'; cases e'
 rw[d] at d'
 injection d' with d1 _
 have:its=its':=by simpa using congrArg Array.toList d1
 subst this
 exact r.inj r'
theorem Inv.tuple_inj (I:Inv X pins σ H s) (h:SqT X.K H a xs) (h':SqT X.K H a ys):xs=ys:=by
 obtain ⟨its,r,⟨o,e,_,n,d⟩,_⟩:=I.tuple h
 obtain ⟨its',r',⟨o',e',_,n',d'⟩,_⟩:=I.tuple h'
 rw[e] at e'; cases e'
 rw[d] at d'
 injection d' with d1 _
 have:its=its':=by simpa using congrArg Array.toList d1
 subst this
 exact r.inj r'
end
abbrev Cx.wish (X:Cx) (E:Value→Shared→Prop):Cx:={ X with xe:=E }
abbrev Cx.nox (X:Cx):Cx:=X.wish fun _ _=>False
theorem Cx.Ok.wish {X:Cx} (ok:X.Ok) (E:Value→Shared→Prop):(X.wish E).Ok:=
 ⟨ok.mod,ok.kind,ok.glob,ok.blt,ok.above,ok.inj,ok.has,ok.cab,ok.hd,ok.frames,ok.stk,ok.exf,ok.bs,ok.bsz,ok.noex,ok.exfs,ok.funs,ok.frf⟩
theorem Cx.Ok.unwish {X:Cx} {E:Value→Shared→Prop} (ok:(X.wish E).Ok):X.Ok:=
 ⟨ok.mod,ok.kind,ok.glob,ok.blt,ok.above,ok.inj,ok.has,ok.cab,ok.hd,ok.frames,ok.stk,ok.exf,ok.bs,ok.bsz,ok.noex,ok.exfs,ok.funs,ok.frf⟩
section
variable {X:Cx} {pins:List (Addr×Obj)} {σ:St} {H:Hp} {s:Shared} {E:Value→Shared→Prop}
theorem Inv.wish (I:Inv X pins σ H s) (E:Value→Shared→Prop):Inv (X.wish E) pins σ H s:=⟨I.ok.wish E,I.os,I.bare,I.base,I.loc,I.cell,I.free,I.freeC,I.pin,I.hok,I.len⟩
theorem Inv.unwish (I:Inv (X.wish E) pins σ H s):Inv X pins σ H s:=⟨I.ok.unwish,I.os,I.bare,I.base,I.loc,I.cell,I.free,I.freeC,I.pin,I.hok,I.len⟩
theorem SP.unwish {D:qmQ} {f:Flow} {s':Shared} (h:SP (X.wish E) pins D f s'):SP X pins D f s':=by
 cases f with
 | next=>obtain ⟨σ',H',I,q⟩:=h; exact ⟨σ',H',I.unwish,q⟩
 | brk=>obtain ⟨σ',H',I,q⟩:=h; exact ⟨σ',H',I.unwish,q⟩
 | cont=>obtain ⟨σ',H',I,q⟩:=h; exact ⟨σ',H',I.unwish,q⟩
 | ret u=>obtain ⟨v,σ',H',I,r,q⟩:=h; exact ⟨v,σ',H',I.unwish,r,q⟩
theorem PSs.nox {st:List Stmt} {t:TS} (h:PSs X.nox st t):PSs X st t:=fun pins s σ H D I hw=>
 wpAny_mono (h pins s σ H D (I.wish _) hw) (fun _ _ q=>q.unwish) fun _ _ z=>False.elim z
end
section
variable {X:Cx} {st:Stmt} {qbY:List Stmt} {t u:TS} {e:Expr} {te:TE} {pos:Pos}
def qrk:TS:=fun D σ H=>D.nx σ H
def qt8 (t u:TS):TS:=fun D σ H=>t { D with nx:=u D } σ H
theorem qgB:PSs X [] qrk:=fun _ _ σ H _ I h=>wpAny_execs_nil ⟨σ,H,I,h⟩
theorem qdH (h1:PS X st t) (h2:PSs X qbY u):PSs X (st::qbY) (qt8 t u):=by
 intro pins s σ H D I h
 refine wpAny_execs_cons (thn (h1 pins s σ H { D with nx:=u D } I h) fun f s1 q=> ?_)
 cases f with
 | next=>
  obtain ⟨σ',H',I',q⟩:=q
  exact h2 pins s1 σ' H' D I' q
 | ret v=>exact q
 | brk=>exact q
 | cont=>exact q
theorem qdX (h1:PS X st t):PSs X [st] t:=by
 intro pins s σ H D I h
 refine wpAny_execs_cons (thn (h1 pins s σ H D I h) fun f s1 q=> ?_)
 cases f with
 | next=>exact wpAny_execs_nil q
 | ret v=>exact q
 | brk=>exact q
 | cont=>exact q
theorem Inv.quiet {pins:List (Addr×Obj)} {σ:St} {H:Hp} {s:Shared} (I:Inv X pins σ H s):interactive X.env=false:=by simp[interactive,I.ok.kind]
def qrl (te:TE):TS:=fun D σ H=>te σ H fun _ H1=>D.nx σ H1
theorem qgC (he:PE X e te) (hs:swapsWith e none pos.line X.env=pure false:=by rfl):PS X (.Expr e pos) (qrl te):=by
 intro pins s σ H D I h
 exact wpAny_Expr_any (thn (he pins s σ H _ I h) fun v s1 ⟨x,H1,I1,r1,q1⟩=>⟨σ,H1,I1,q1⟩) I.quiet hs
def qt9 (te:TE):TS:=fun D σ H=>te σ H D.rt
theorem qfG (he:PE X e te):PS X (.Return (some e) pos) (qt9 te):=by
 intro pins s σ H D I h
 exact wpAny_Return_some (thn (he pins s σ H _ I h) fun v s1 ⟨x,H1,I1,r1,q1⟩=>⟨x,σ,H1,I1,r1,q1⟩)
def quc (c:TT) (t u:TS):TS:=fun D σ H=>c σ H fun b H1=>if b=true then t D σ H1 else u D σ H1
theorem qnO {c:Expr} {a b:List Stmt} {tc:TT} (hc:PT X c tc) (ha:PSs X a t) (hb:PSs X b u):PS X (.If c a b pos) (quc tc t u):=by
 intro pins s σ H D I h
 refine wpAny_If (thn (hc pins s σ H _ I h) fun d s1 ⟨H1,I1,q1⟩=> ?_)
 cases d with
 | true=>exact ha pins s1 σ H1 D I1 q1
 | false=>exact hb pins s1 σ H1 D I1 q1
def qo9:TS:=fun _ _ _=>False
theorem qjG {sts:List Stmt}:PSs X sts qo9:=fun _ _ _ _ _ _ h=>h.elim
end
abbrev TG:=V→St→Hp→(St→Hp→Prop)→Prop
abbrev TGs:=List V→St→Hp→(St→Hp→Prop)→Prop
def PG (X:Cx) (target:Expr) (t:TG):Prop:=
 ∀(pins:List (Addr×Obj)) (s:Shared) (σ:St) (H:Hp) (v:V) (u:Value) (Q:St→Hp→Prop),Inv X pins σ H s→RelV v u→t v σ H Q→
  wpAny (model X.prog X.w) X.A (assign target X.env u) (fun _ s'=> ∃σ' H',Inv X pins σ' H' s'∧Q σ' H') X.xe s
def PGs (X:Cx) (ts:List Expr) (t:TGs):Prop:=
 ∀(pins:List (Addr×Obj)) (s:Shared) (σ:St) (H:Hp) (vs:List V) (us:List Value) (Q:St→Hp→Prop),Inv X pins σ H s→Vals vs us→t vs σ H Q→
  wpAny (model X.prog X.w) X.A (assignInOrder ((assignEach ts X.env).map (·.2)) us) (fun _ s'=> ∃σ' H',Inv X pins σ' H' s'∧Q σ' H') X.xe s
abbrev qs5:=V→V→V→Hp→(Hp→Prop)→Prop
def qtZ (X:Cx) (t:qs5):Prop:=
 ∀(pins:List (Addr×Obj)) (s:Shared) (σ:St) (H:Hp) (o i v:V) (ov iv u:Value) (Q:Hp→Prop),Inv X pins σ H s→RelV o ov→RelV i iv→RelV v u→t o i v H Q→
  wpAny (model X.prog X.w) X.A (setItem ov iv u) (fun _ s'=> ∃H',Inv X pins σ H' s'∧Q H') X.xe s
section
variable {X:Cx} {pos:Pos}
def qok (i:Nat):TG:=fun v σ H Q=>Q (σ.set i (some v)) H
theorem qar {i:Nat} {x:Str} (hN:X.N.Nodup) (hi:X.N[i]? =some x) (hx:Loc X.env.scope x) (hf:X.fn x=true∨X.env.scope.names.lookup x=some .local:=by first | exact .inl rfl | exact .inr rfl | assumption):PG X (.Name x pos) (qok i):=by
 intro pins s σ H v u Q I r h
 exact wpAny_assign_Name (qdF I hN hi hx r (fun s' I'=>⟨_,H,I',h⟩) hf)
def quG:TGs:=fun vs σ H Q=>vs=[]∧Q σ H
def qsO (t:TG) (u:TGs):TGs:=fun vs σ H Q=> ∃v r,vs=v::r∧t v σ H fun σ' H'=>u r σ' H' Q
theorem qnU:PGs X [] quG:=by
 intro pins s σ H vs us Q I r h
 obtain ⟨e,h⟩:=h
 subst e
 cases r
 exact assignInOrder_nil ⟨σ,H,I,h⟩
theorem qlU {e:Expr} {es:List Expr} {t:TG} {u:TGs} (h1:PG X e t) (h2:PGs X es u)
  (hs:(assignEach (e::es) X.env).map (·.2)=assign e X.env::(assignEach es X.env).map (·.2):=by rfl):PGs X (e::es) (qsO t u):=by
 intro pins s σ H vs us Q I r h
 obtain ⟨v,vr,e1,h⟩:=h
 subst e1
 cases r with
 | cons r rr=>
  rw[hs]
  refine assignInOrder_cons (thn (h1 pins s σ H _ _ _ I r h) fun _ s1 ⟨σ1,H1,I1,q1⟩=> ?_)
  exact h2 pins s1 σ1 H1 _ _ Q I1 rr q1
def quF (K:PySem.W.Frag) (n:Nat) (t:TGs):TG:=fun v σ H Q=> ∃a xs,v= .ref a∧SqT K H a xs∧xs.length=n∧t xs σ H Q
theorem qpM {es:List Expr} {k:Nat} {t:TGs} {n:Nat} (hc:X.calm=true) (h:PGs X es t)
  (hn:(assignEach es X.env).length=n:=by rfl) (hst:(assignEach es X.env).findIdx? (·.1)=none:=by rfl):PG X (.Tuple es k pos) (quF X.K n t):=by
 intro pins s σ H v u Q I r hw
 obtain ⟨a,xs,e1,hq,hl,hw⟩:=hw
 subst e1
 cases r
 obtain ⟨its,rv,ht,hz⟩:=I.tuple hq
 refine assign_Tuple_tuple (I.ok.hd hc) ht (by simp[hn,←hl,rv.length]) hst fun h' hx=> ?_
 have I1:Inv X pins σ H { s with heap:=h' }:=I.kept (t':=s.toks) fun b o e=>hx b o (Nat.ne_of_lt (Heap.lt_size e)) e
 exact h pins _ σ H xs _ Q I1 (by simpa using rv) hw
def gSub (to ti:TE) (t:qs5):TG:=fun v σ H Q=>to σ H fun o H1=>ti σ H1 fun i H2=>t o i v H2 fun H3=>Q σ H3
theorem qpN {o i:Expr} {to ti:TE} {t:qs5} (ho:PE X o to) (hi:PE X i ti) (hs:qtZ X t)
  (ha: ∀v,assign (.Subscript o i pos) X.env v=(do
   let ov ←holding [v] (eval o X.env)
   let iv ←holding [v,ov] (eval i X.env)
   standAt pos
   holding [v,ov,iv] (setItem ov iv v)
   release [v,ov,iv] []):=by intro _; rfl):PG X (.Subscript o i pos) (gSub to ti t):=by
 intro pins s σ H v u Q I r h
 rw[ha]
 refine wpAny_bind (wpAny_holding (thn (ho pins s σ H _ I h) fun ov s1 ⟨x,H1,I1,r1,q1⟩=> ?_))
 refine wpAny_bind (wpAny_holding (thn (hi pins s1 σ H1 _ I1 q1) fun iv s2 ⟨y,H2,I2,r2,q2⟩=> ?_))
 refine wpAny_bind (wpAny_standAt (wpAny_bind (wpAny_holding (thn (hs pins s2 σ H2 x y v ov iv u _ I2 r1 r2 r q2) fun _ s3 ⟨H3,I3,q3⟩=> ?_))))
 exact wpAny_release ⟨σ,H3,I3,q3⟩
def qtf (te:TE) (g:TG):TS:=fun D σ H=>te σ H fun x H1=>g x σ H1 D.nx
theorem qpI {tg e:Expr} {te:TE} {g:TG} (he:PE X e te) (hg:PG X tg g) (hs:swapsWithSole [tg] e pos.line X.env=pure false:=by rfl) (hw:swappedStores [tg] e X.env=pure none:=by rfl)
  (h1:(assignEach [tg] X.env).map (·.2)=[assign tg X.env]:=by rfl):PS X (.Assign [tg] e pos) (qtf te g):=by
 intro pins s σ H D I h
 refine wpAny_Assign_stores (thn (he pins s σ H _ I h) fun v s1 ⟨x,H1,I1,r1,q1⟩=> ?_) hs hw
 rw[h1]
 exact thn (hg pins s1 σ H1 x v _ I1 r1 q1) fun _ s2 q=>q
theorem qhq {i:Nat} {x:Str} {e:Expr} {te:TE} {pos':Pos} (hN:X.N.Nodup) (hi:X.N[i]? =some x) (hx:Loc X.env.scope x) (he:PE X e te) (hs:swapsWith e (some (.Name x pos')) pos.line X.env=pure false:=by rfl) (hf:X.fn x=true∨X.env.scope.names.lookup x=some .local:=by first | exact .inl rfl | exact .inr rfl | assumption):
  PS X (.Assign [.Name x pos'] e pos) (qtf te (qok i)):=by
 intro pins s σ H D I h
 refine wpAny_Assign_Name (thn (he pins s σ H _ I h) fun v s1 ⟨y,H1,I1,r1,q1⟩=> ?_) hs
 exact qdF I1 hN hi hx r1 (fun s2 I2=>⟨_,H1,I2,q1⟩) hf
def qte (i j:Nat) (ta:TA):TS:=fun D σ H=>ta σ H fun vs H1=> ∃v w,vs=[v,w]∧D.nx ((σ.set i (some v)).set j (some w)) H1
theorem qpG {i j:Nat} {x y:Str} {a b:Expr} {ta:TA} {px py pt:Pos} {kt k2 pt2} (hc:X.calm=true) (hN:X.N.Nodup) (hi:X.N[i]? =some x) (hj:X.N[j]? =some y) (hij:i≠j)
  (hx:X.env.scope.names.lookup x=some .local) (hy:X.env.scope.names.lookup y=some .local) (ha:PA X [a,b] ta)
  (hw:swappedStores [.Tuple [.Name x px,.Name y py] kt pt] (.Tuple [a,b] k2 pt2) X.env=pure (some [x,y]))
  (hs:swapsWithSole [.Tuple [.Name x px,.Name y py] kt pt] (.Tuple [a,b] k2 pt2) pos.line X.env=pure false:=by rfl):
  PS X (.Assign [.Tuple [.Name x px,.Name y py] kt pt] (.Tuple [a,b] k2 pt2) pos) (qte i j ta):=by
 intro pins s σ H D I h
 rw[exec_Assign_arm]
 refine wpAny_bind (wpAny_standAt ?_)
 rw[hs]
 refine wpAny_bind (wpAny_pure ?_)
 rw[if_neg (by decide)]
 refine wpAny_bind (Tuple_ (thn (ha _ pins s σ H _ I h) fun us s1 ⟨vs,H1,I1,r1,q1⟩=> ?_))
 obtain ⟨v,w,e1,q1⟩:=q1
 subst e1
 obtain ⟨u1,u2,rfl,rv,rw'⟩: ∃u1 u2,us=[u1,u2]∧RelV v u1∧RelV w u2:=by
  cases r1 with
  | cons p q=>
   cases q with
   | cons p' q'=>
    cases q'
    exact ⟨_,_,rfl,p,p'⟩
 refine wpAny_newObj_type ?_ (by show 2≤sizeLine; decide)
 have I2:Inv X pins σ H1 { s1 with heap:=s1.heap.push { cls:=.type "tuple",data:=.seq [u1,u2].toArray } }:=I1.kept (t':=s1.toks) fun b o e=>Heap.get?_push_of_some _ e
 rw[hw]
 refine wpAny_bind (wpAny_pure ?_)
 show wpAny (model X.prog X.w) X.A (do rule "assign.swapped-stores"; let items ←unpackItems (.ref s1.heap.objs.size) 2 none; assignInOrder [fun v=>bindName X.env y v,fun v=>bindName X.env x v] items.reverse; pure Flow.next) _ _ _
 refine wpAny_bind (wpAny_rule (wpAny_bind (unpackItems_tuple (items:= #[u1,u2]) (I.ok.hd hc) (IsTup.new s1.heap _) fun h' hx'=> ?_)))
 have I3:=I2.kept (h':=h') (t':=s1.toks) fun b o e=>hx' b o (Nat.ne_of_lt (Heap.lt_size e)) e
 show wpAny _ _ (assignInOrder [fun v=>bindName X.env y v,fun v=>bindName X.env x v] [u2,u1]>>=fun _=>pure Flow.next) _ _ _
 refine wpAny_bind (assignInOrder_cons (wpAny_bindName (qdF I3 hN hj (.inl hy) rw' (fun s2 I4=> ?_) (.inr hy))))
 refine assignInOrder_cons (wpAny_bindName (qdF I4 hN hi (.inl hx) rv (fun s3 I5=>assignInOrder_nil (wpAny_pure ?_)) (.inr hx)))
 rw[List.set_comm _ _ (Ne.symm hij)] at I5
 exact ⟨_,H1,I5,q1⟩
end
section
variable {X:Cx} {pos:Pos}
end
structure It where
 go:Nat→Hp→Prop
 yld:Nat→Hp→V→Hp→Prop
 stop:Nat→Hp→Prop
def qi1 (X:Cx) (pins:List (Addr×Obj)) (H:Hp) (b:Addr):Prop:=
 H b=none∧b≠X.env.locals∧b∉X.fs∧(b∈X.ex∨X.s₀.heap.objs.size≤b)∧(∀x c,X.env.cells.lookup x=some c→c≠b)∧∀p∈X.pn++pins,p.1≠b
theorem Inv.fpOk {X:Cx} {pins:List (Addr×Obj)} {σ:St} {H H':Hp} {s:Shared} {b:Addr} (I:Inv X pins σ H s) (hb:s.heap.objs.size≤b) (hn:H' b=none):qi1 X pins H' b:=by
 refine ⟨hn,Nat.ne_of_gt (Nat.lt_of_lt_of_le I.lt hb),I.nofs hb,.inr (Nat.le_trans I.sz hb),fun x c e z=> ?_,fun p hp z=> ?_⟩
 ·obtain ⟨v,q⟩:=I.cell x c e
  exact absurd (Nat.lt_of_lt_of_le q.lt (by rw[z]; exact hb)) (Nat.lt_irrefl _)
 ·exact absurd (Nat.lt_of_lt_of_le (Heap.lt_size (I.pin p hp).1) (by rw[z]; exact hb)) (Nat.lt_irrefl _)
structure qoZ (P:Program) (w:World) (K:PySem.W.Frag) (tg:Expr) (J:It) (fp:List Addr) (it:Addr) (tn:Nat→Heap→Prop):Prop where
 mem:it∈fp
 obj: ∀i h,tn i h→∀b∈fp,∃o,h.get? b=some o∧∀v,o.data≠.cell v
 keep: ∀i h h',tn i h→(∀b∈fp,∀o,h.get? b=some o→h'.get? b=some o)→tn i h'
 item: ∀(X:Cx),X.prog=P→X.w=w→X.K=K→X.calm=true→∀(i:Nat) (pins:List (Addr×Obj)) (s:Shared) (σ:St) (H:Hp) (E:Value→Shared→Prop),Inv X pins σ H s→(∀b∈fp,qi1 X pins H b)→tn i s.heap→J.go i H→
  wpAny (model P w) X.A (pyNext (.ref it)) (fun r s1=> ∃u,r=some u∧
   wpAny (model P w) X.A (letOwnedTupleGo tg (.ref it) u) (fun _ s2=> ∃x H',Inv X pins σ H' s2∧RelV x u∧J.yld i H x H'∧tn (i+1) s2.heap∧∀b∈fp,H' b=none) E s1) E s
 done: ∀(X:Cx),X.prog=P→X.w=w→X.K=K→X.calm=true→∀(i:Nat) (pins:List (Addr×Obj)) (s:Shared) (σ:St) (H:Hp) (E:Value→Shared→Prop),Inv X pins σ H s→(∀b∈fp,qi1 X pins H b)→tn i s.heap→J.stop i H→
  wpAny (model P w) X.A (pyNext (.ref it)) (fun r s1=>r=none∧Inv X pins σ H s1) E s
 self: ∀(A:Around) (i:Nat) (s:Shared) (Q:Value→Shared→Prop) (E:Value→Shared→Prop),tn i s.heap→Q (.ref it) s→wpAny (model P w) A (pyIter (.ref it)) Q E s
abbrev TI:=St→Hp→(It→Hp→Prop)→Prop
def PIE (X:Cx) (pins:List (Addr×Obj)) (σ:St) (tg:Expr) (R:It→Hp→Prop) (itv:Value) (s2:Shared):Prop:=
 ∃(it:Addr) (fp:List Addr) (tn:Nat→Heap→Prop) (J:It) (H':Hp),itv= .ref it∧Inv X pins σ H' s2∧qoZ X.prog X.w X.K tg J fp it tn∧tn 0 s2.heap∧(∀b∈fp,qi1 X pins H' b)∧R J H'
def PI (X:Cx) (tg iter:Expr) (wi:TI):Prop:=
 ∀(pins:List (Addr×Obj)) (s:Shared) (σ:St) (H:Hp) (R:It→Hp→Prop),Inv X pins σ H s→wi σ H R→
  wpAny (model X.prog X.w) X.A (eval iter X.env) (fun v s1=>wpAny (model X.prog X.w) X.A (pyIter v) (PIE X pins σ tg R) X.xe s1) X.xe s
theorem qmj {M:Model} {A:Around} {E:Value→Shared→Prop} {s:Shared} {tg:Expr} {it:Addr} {u:Value} {o:Obj} {n:String} {vs:Array Value} {Q:Unit→Shared→Prop} (ho:s.heap.get? it=some o) (hc:o.cls= .type n) (hd:o.data= .fields vs)
  (hn:["enumerate", "zip", "dict_itemiterator", "dict_reverseitemiterator", "odict_iterator", "itertools.zip_longest", "itertools.pairwise"].contains n=false) (hQ:Q () s):wpAny M A (letOwnedTupleGo tg (.ref it) u) Q E s:=by
 unfold letOwnedTupleGo
 cases tg<;>first
  | exact wpAny_pure hQ
  | (cases u<;>first
    | exact wpAny_pure hQ
    | (refine wpAny_bind (wpAny_load ho ?_)
       rw[hc,hd]
       show wpAny M A (if (["enumerate", "zip", "dict_itemiterator", "dict_reverseitemiterator", "odict_iterator", "itertools.zip_longest", "itertools.pairwise"].contains n&&vs[0]? ==some (rawInt _))=true then _ else _) Q E s
       rw[if_neg (by intro h; rw[hn,Bool.false_and] at h; cases h)]
       exact wpAny_pure hQ))
def Itl (K:PySem.W.Frag) (a:Addr):It:=
 ⟨fun i H=> ∃xs x,SqL K H a xs∧xs[i]? =some x,fun i H x H'=>H'=H∧∀xs,SqL K H a xs→xs[i]? =some x,fun i H=> ∃xs,SqL K H a xs∧xs.length≤i⟩
def Itt (K:PySem.W.Frag) (a:Addr):It:=
 ⟨fun i H=> ∃xs x,SqT K H a xs∧xs[i]? =some x,fun i H x H'=>H'=H∧∀xs,SqT K H a xs→xs[i]? =some x,fun i H=> ∃xs,SqT K H a xs∧xs.length≤i⟩
def Itr (lo:Int) (n:Nat):It:=⟨fun i _=>i<n,fun i H x H'=>H'=H∧x= .int (lo+i),fun i _=>n≤i⟩
theorem qi8 {P:Program} {w:World} {K:PySem.W.Frag} {tg:Expr} (a it:Addr):qoZ P w K tg (Itl K a) [it] it (fun i h=>h.IsListIter it a i) where
 mem:=by simp
 obj:=fun i h st b hb=>by
  have e:b=it:=by simpa using hb
  subst e
  obtain ⟨o,e,c,d⟩:=st
  exact ⟨o,e,fun v z=>by rw[d] at z; cases z⟩
 keep:=fun i h h' st k=>st.at fun o e=>k it (by simp) o e
 item:=by
  intro X hP hw hK hc i pins s σ H E I hf st hg
  subst hP hw hK
  obtain ⟨xs,x,hq,hx⟩:=hg
  obtain ⟨its,rv,p,hz⟩:=I.list hq
  obtain ⟨u,hu,ru⟩:=rv.get hx
  obtain ⟨f0,f1,f2,f3,f4,f5⟩:=hf it (by simp)
  refine wpAny_pyNext_list_item st p.isList (x:=u) (by simpa using hu) fun h' st' sb=> ?_
  have I1:Inv X pins σ H { s with heap:=h' }:=I.turned (t':=s.toks) (fun b o hb e=>(sb.2 b hb).trans e) f0 f1 f3 f4 f5
  obtain ⟨o,e,c,d⟩:=id st'
  exact ⟨u,rfl,qmj (s:={ s with heap:=h' }) e c d (by decide) ⟨x,H,I1,ru,⟨rfl,fun ys hy=>by rw[I.list_inj hy hq]; exact hx⟩,st',fun b hb=>(hf b hb).1⟩⟩
 done:=by
  intro X hP hw hK hc i pins s σ H E I hf st hg
  subst hP hw hK
  obtain ⟨xs,hq,hx⟩:=hg
  obtain ⟨its,rv,p,hz⟩:=I.list hq
  obtain ⟨f0,f1,f2,f3,f4,f5⟩:=hf it (by simp)
  have hl:=rv.length
  exact wpAny_pyNext_list_end (I.ok.hd hc) st p.isList (by simp; lia) fun h' eb=>⟨rfl,I.turned (t':=s.toks) (fun b o hb e=>eb b o hb e) f0 f1 f3 f4 f5⟩
 self:=fun _ _ _ _ _ st h=>wpAny_pyIter_listiter st h
theorem qif {P:Program} {w:World} {K:PySem.W.Frag} {tg:Expr} (a it:Addr):qoZ P w K tg (Itt K a) [it] it (fun i h=>h.IsTupleIter it a i) where
 mem:=by simp
 obj:=fun i h st b hb=>by
  have e:b=it:=by simpa using hb
  subst e
  obtain ⟨o,e,c,d⟩:=st
  exact ⟨o,e,fun v z=>by rw[d] at z; cases z⟩
 keep:=fun i h h' st k=>st.at fun o e=>k it (by simp) o e
 item:=by
  intro X hP hw hK hc i pins s σ H E I hf st hg
  subst hP hw hK
  obtain ⟨xs,x,hq,hx⟩:=hg
  obtain ⟨its,rv,p,hz⟩:=I.tuple hq
  obtain ⟨u,hu,ru⟩:=rv.get hx
  obtain ⟨f0,f1,f2,f3,f4,f5⟩:=hf it (by simp)
  refine wpAny_pyNext_tuple_item st (show s.heap.IsTuple a its.toArray from p) (x:=u) (by simpa using hu) fun h' st' sb=> ?_
  have I1:Inv X pins σ H { s with heap:=h' }:=I.turned (t':=s.toks) (fun b o hb e=>(sb.2 b hb).trans e) f0 f1 f3 f4 f5
  obtain ⟨o,e,c,d⟩:=id st'
  exact ⟨u,rfl,qmj (s:={ s with heap:=h' }) e c d (by decide) ⟨x,H,I1,ru,⟨rfl,fun ys hy=>by rw[I.tuple_inj hy hq]; exact hx⟩,st',fun b hb=>(hf b hb).1⟩⟩
 done:=by
  intro X hP hw hK hc i pins s σ H E I hf st hg
  subst hP hw hK
  obtain ⟨xs,hq,hx⟩:=hg
  obtain ⟨its,rv,p,hz⟩:=I.tuple hq
  obtain ⟨f0,f1,f2,f3,f4,f5⟩:=hf it (by simp)
  have hl:=rv.length
  exact wpAny_pyNext_tuple_end (I.ok.hd hc) st (show s.heap.IsTuple a its.toArray from p) (by simp; lia) fun h' eb=>⟨rfl,I.turned (t':=s.toks) (fun b o hb e=>eb b o hb e) f0 f1 f3 f4 f5⟩
 self:=fun _ _ _ _ _ st h=>wpAny_pyIter_tupleiter st h
theorem qig {P:Program} {w:World} {K:PySem.W.Frag} {tg:Expr} (it:Addr) (lo:Int) (n:Nat):qoZ P w K tg (Itr lo n) [it] it (fun i h=>IsRangeIter h it (lo+(i:Nat)*1) ((n:Int) - (i:Nat)) 1) where
 mem:=by simp
 obj:=fun i h st b hb=>by
  have e:b=it:=by simpa using hb
  subst e
  exact ⟨_,st,fun v z=>by
   have z':Data.fields _=Data.cell v:=z
   cases z'⟩
 keep:=fun i h h' st k=>k it (by simp) _ st
 item:=by
  intro X hP hw hK hc i pins s σ H E I hf st hg
  subst hP hw hK
  obtain ⟨f0,f1,f2,f3,f4,f5⟩:=hf it (by simp)
  have W:=Walks.range (prog:=X.prog) (w:=X.w) (I.ok.hd hc) it lo 1 n
  refine W.item i s _ _ hg st fun v h' tk hv st' kk=> ?_
  obtain ⟨t,rfl⟩:=hv
  have I1:Inv X pins σ H { s with heap:=h',toks:=tk }:=I.turned (fun b o hb e=>kk b o (by simpa using hb) e) f0 f1 f3 f4 f5
  refine ⟨_,rfl,qmj (s:={ s with heap:=h',toks:=tk }) (n:= "range_iterator") st' rfl rfl (by decide) ⟨.int (lo+i),H,I1,⟨t,?_⟩,⟨rfl,rfl⟩,st',fun b hb=>(hf b hb).1⟩⟩
  rw[Int.mul_one]
 done:=by
  intro X hP hw hK hc i pins s σ H E I hf st hg
  subst hP hw hK
  obtain ⟨f0,f1,f2,f3,f4,f5⟩:=hf it (by simp)
  exact wpAny_pyNext_range_end (I.ok.hd hc) st (by have:n≤i:=hg; lia) fun h' eb=>⟨rfl,I.turned (t':=s.toks) (fun b o hb e=>eb b o hb e) f0 f1 f3 f4 f5⟩
 self:=fun _ _ _ _ _ st h=>wpAny_pyIter_rangeiter st h
end L2
namespace L2
open PySem PySem.Spec PyProof.Rows
section
variable {X:Cx} {tg:Expr}
theorem qlK {pins:List (Addr×Obj)} {σ:St} {H:Hp} {s:Shared} {R:It→Hp→Prop} {E:Value→Shared→Prop} {lo hi:Int} {t u v:Tok} {tk:Nat} (I:Inv X pins σ H s) (h1: -(2 ^ 62)≤lo) (h2:lo<2 ^ 62) (h3: -(2 ^ 62)≤hi) (h4:hi<2 ^ 62)
  (q:R (Itr lo (hi - lo).toNat) H):wpAny (model X.prog X.w) X.A (pyIter (.ref s.heap.objs.size)) (PIE X pins σ tg R) E { s with heap:=s.heap.push { cls:=.type "range",data:=.fields #[.int lo t,.int hi u,.int 1 v] },toks:=tk }:=by
 refine wpAny_pyIter_range (IsRange.new ..) (small_one h1 h2 h3 h4) ?_
 have I1:Inv X pins σ H { s with heap:=s.heap.push { cls:=.type "range",data:=.fields #[.int lo t,.int hi u,.int 1 v] },toks:=tk }:=I.kept fun b o e=>Heap.get?_push_of_some _ e
 refine ⟨(s.heap.push { cls:=.type "range",data:=.fields #[.int lo t,.int hi u,.int 1 v] }).objs.size,[(s.heap.push { cls:=.type "range",data:=.fields #[.int lo t,.int hi u,.int 1 v] }).objs.size],_,_,H,rfl,
  I1.kept (t':=tk) fun b o e=>Heap.get?_push_of_some _ e,qig _ lo (hi - lo).toNat,?_,fun b hb=> ?_,q⟩
 ·have e1:lo+((0:Nat):Int)*1=lo:=by simp
  have e2:(((hi - lo).toNat:Nat):Int) - ((0:Nat):Int)=Builtin.Range.rangeSize lo hi 1:=by rw[rangeSize_one]; split<;>lia
  show IsRangeIter _ _ (lo+((0:Nat):Int)*1) ((((hi - lo).toNat:Nat):Int) - ((0:Nat):Int)) 1
  rw[e1,e2]
  exact Heap.get?_push_size _ rfl
 ·have e:b=(s.heap.push { cls:=.type "range",data:=.fields #[.int lo t,.int hi u,.int 1 v] }).objs.size:=by simpa using hb
  subst e
  exact I1.fpOk (Nat.le_refl _) (I1.hok.fresh (Nat.le_refl _))
def qsL (ta:TA):TI:=fun σ H R=>ta σ H fun vs H1=> ∃j:Int,vs=[.int j]∧ -(2 ^ 62)≤j∧j<2 ^ 62∧R (Itr 0 j.toNat) H1
theorem qjK {a:Expr} {ta:TA} {p pos:Pos} (hg:Gl X "range") (hm:X.mg "range" =none) (ha:PA X [a] ta) (hs:starEach [a] X.env=[(false,eval a X.env)]:=by rfl):PI X tg (.Call (.Name "range" p) [a] [] pos) (qsL ta):=by
 intro pins s σ H R I h
 refine Call_ (qcw I hg hm boot_range (PyProof.Rows.callWith_type1 (thn (ha pos pins s σ H _ I h) fun us s1 ⟨vs,H1,I1,r1,q1⟩=> ?_) hs rfl))
 obtain ⟨j,e,q1,q2,q⟩:=q1
 subst e
 cases r1 with
 | cons r rr=>
  cases rr
  obtain ⟨t,rfl⟩:=r
  exact call_range_1 (qlK I1 (by lia) (by lia) q1 q2 (by simpa using q))
def qud (wi:TI) (g:TG) (tb:TS):TS:=fun D σ H=>wi σ H fun J H1=> ∃W:Nat→Nat→St→Hp→Prop,(∃m,W 0 m σ H1)∧∀i m σ H,W i m σ H→
 (J.stop i H∧D.nx σ H)∨(J.go i H∧∃N:St→Hp→Prop,(∀σ' H',N σ' H'→∃m',m'<m∧W (i+1) m' σ' H')∧∀x H',J.yld i H x H'→g x σ H' fun σ2 H2=>tb { D with nx:=N,ct:=N,bk:=D.nx } σ2 H2)
def qfH (fp:List Addr) (h:Heap):List (Addr×Obj):=fp.filterMap fun b=>(h.get? b).map fun o=>(b,o)
theorem qcG {fp:List Addr} {h:Heap} {b:Addr} {o:Obj} (hb:b∈fp) (e:h.get? b=some o):(b,o)∈qfH fp h:=List.mem_filterMap.mpr ⟨b,hb,by rw[e]; rfl⟩
theorem qjR {fp:List Addr} {h:Heap} {p:Addr×Obj} (hp:p∈qfH fp h):p.1∈fp∧h.get? p.1=some p.2:=by
 obtain ⟨b,hb,e⟩:=List.mem_filterMap.mp hp
 cases q:h.get? b with
 | none=>rw[q] at e; cases e
 | some o=>
  rw[q] at e
  have e':(b,o)=p:=Option.some.inj e
  subst e'
  exact ⟨hb,q⟩
theorem Inv.pinned {pins:List (Addr×Obj)} {σ:St} {H:Hp} {s:Shared} {fp:List Addr} (I:Inv X pins σ H s) (hf: ∀b∈fp,qi1 X pins H b) (ho: ∀b∈fp,∃o,s.heap.get? b=some o∧∀v,o.data≠.cell v):Inv X (pins++qfH fp s.heap) σ H s:=
 I.pins_of fun p hp=>(List.mem_append.mp hp).elim (fun z=>I.pin p (List.mem_append_right _ z)) fun z=>by
  obtain ⟨hb,e⟩:=qjR z
  obtain ⟨f0,f1,f2,_⟩:=hf p.1 hb
  obtain ⟨o,e',d⟩:=ho p.1 hb
  rw[e] at e'; cases e'
  exact ⟨e,f0,f1,f2,d⟩
theorem Inv.unpinned {pins pl:List (Addr×Obj)} {σ:St} {H:Hp} {s:Shared} (I:Inv X (pins++pl) σ H s):Inv X pins σ H s:=I.pins_of fun p hp=>I.pin p (List.mem_append_right _ (List.mem_append_left _ hp))
theorem qpH {iter:Expr} {body:List Stmt} {wi:TI} {g:TG} {tb:TS} {pos:Pos} (hp:PassesOwn (model X.prog X.w) X.A X.env X.xe) (hc:X.calm=true) (hi:PI X tg iter wi) (hg:PG X tg g) (hb:PSs X body tb)
  (hs: ∀x,foldedSetIterable iter X.env x=pure x:=by intro _; rfl):PS X (.For tg iter body [] pos) (qud wi g tb):=by
 intro pins s σ H D I h
 refine wpAny_For (thn (hi pins s σ H _ I h) fun v s1 h1=>thn h1 fun itv s2 h2=> ?_) hs
 obtain ⟨it,fp,tn,J,H2,e,I2,T,st2,f2,W,⟨m0,w0⟩,qei⟩:=h2
 subst e
 have stat: ∀{H':Hp},(∀b∈fp,H' b=none)→∀b∈fp,qi1 X pins H' b:=fun hn b hb=>⟨hn b hb,(f2 b hb).2⟩
 refine codeAny_forLoop_any (fun n s'=> ∃i σ' H',Inv X pins σ' H' s'∧tn i s'.heap∧(∀b∈fp,H' b=none)∧W i n σ' H') ?_ m0 ⟨0,σ,H2,I2,st2,fun b hb=>(f2 b hb).1,w0⟩
 rintro n s3 ⟨i,σ3,H3,I3,st3,fr3,w3⟩
 rcases qei i n σ3 H3 w3 with ⟨stop,qn⟩ | ⟨go,N,hN,step⟩
 ·refine wpAny_passesOwn hp (thn (T.done X rfl rfl rfl hc i pins s3 σ3 H3 X.xe I3 (stat fr3) st3 stop) fun r s4 ⟨hr,I4⟩=> ?_)
  subst hr
  exact wpAny_execs_nil ⟨σ3,H3,I4,qn⟩
 ·refine wpAny_passesOwn hp (thn (T.item X rfl rfl rfl hc i pins s3 σ3 H3 X.xe I3 (stat fr3) st3 go) fun r s4 ⟨u,hr,h4⟩=> ?_)
  subst hr
  refine wpAny_passesOwn hp (thn h4 fun _ s5 ⟨x,H5,I5,r5,y5,st5,fr5⟩=> ?_)
  have I5':=I5.pinned (stat fr5) (T.obj _ _ st5)
  refine wpAny_passesOwn hp (thn (hg _ s5 σ3 H5 x u _ I5' r5 (step x H5 y5)) fun _ s6 ⟨σ6,H6,I6,q6⟩=> ?_)
  refine wpAny_passesOwn hp (thn (hb _ s6 σ6 H6 _ I6 q6) fun f s7 q7=> ?_)
  have again: ∀{σ7:St} {H7:Hp},Inv X (pins++qfH fp s5.heap) σ7 H7 s7→N σ7 H7→∃m,m<n∧∃i σ' H',Inv X pins σ' H' s7∧tn i s7.heap∧(∀b∈fp,H' b=none)∧W i m σ' H':=fun {σ7 H7} I7 n7=>by
   obtain ⟨m',hm,w7⟩:=hN σ7 H7 n7
   refine ⟨m',hm,i+1,σ7,H7,I7.unpinned,T.keep _ _ _ st5 fun b hb o e=>(I7.pin (b,o) (List.mem_append_right _ (List.mem_append_right _ (qcG hb e)))).1,fun b hb=> ?_,w7⟩
   obtain ⟨o,e,d⟩:=T.obj _ _ st5 b hb
   exact (I7.pin (b,o) (List.mem_append_right _ (List.mem_append_right _ (qcG hb e)))).2.1
  cases f with
  | next=>obtain ⟨σ7,H7,I7,n7⟩:=q7; exact again I7 n7
  | cont=>obtain ⟨σ7,H7,I7,n7⟩:=q7; exact again I7 n7
  | brk=>obtain ⟨σ7,H7,I7,q7⟩:=q7; exact ⟨σ7,H7,I7.unpinned,q7⟩
  | ret v=>obtain ⟨x7,σ7,H7,I7,r7,q7⟩:=q7; exact ⟨x7,σ7,H7,I7.unpinned,r7,q7⟩
end
end L2
namespace L2
open PySem PySem.Spec PyProof.Rows
abbrev R2:=V→V→Hp→VK→Prop
def OpR (X:Cx) (f:Value→Value→Sem Value) (r:R2):Prop:=
 ∀(pins:List (Addr×Obj)) (s:Shared) (σ:St) (H:Hp) (x y:V) (v u:Value) (Q:VK),Inv X pins σ H s→RelV x v→RelV y u→r x y H Q→
  wpAny (model X.prog X.w) X.A (f v u) (EP X pins σ Q) X.xe s
def UnR (X:Cx) (f:Value→Sem Value) (r:V→Hp→VK→Prop):Prop:=
 ∀(pins:List (Addr×Obj)) (s:Shared) (σ:St) (H:Hp) (x:V) (v:Value) (Q:VK),Inv X pins σ H s→RelV x v→r x H Q→
  wpAny (model X.prog X.w) X.A (f v) (EP X pins σ Q) X.xe s
def qdC (X:Cx) (f:Value) (r:List V→Hp→VK→Prop):Prop:=
 ∀(pins:List (Addr×Obj)) (s:Shared) (σ:St) (H:Hp) (xs:List V) (us:List Value) (Q:VK),Inv X pins σ H s→Vals xs us→r xs H Q→
  wpAny (model X.prog X.w) X.A (call f us) (EP X pins σ Q) X.xe s
def quZ (X:Cx) (r:V→Hp→(Bool→Hp→Prop)→Prop):Prop:=
 ∀(pins:List (Addr×Obj)) (s:Shared) (σ:St) (H:Hp) (x:V) (v:Value) (Q:Bool→Hp→Prop),Inv X pins σ H s→RelV x v→r x H Q→
  wpAny (model X.prog X.w) X.A (truthy v) (TP X pins σ Q) X.xe s
def tOp (r:R2) (ta tb:TE):TE:=fun σ H Q=>ta σ H fun x H1=>tb σ H1 fun y H2=>r x y H2 Q
def tUn (r:V→Hp→VK→Prop) (ta:TE):TE:=fun σ H Q=>ta σ H fun x H1=>r x H1 Q
def rI (C:Int→Int→Prop) (g:Int→Int→V):R2:=fun x y H Q=> ∃i j,x= .int i∧y= .int j∧C i j∧Q (g i j) H
def rI0 (g:Int→Int→V):R2:=fun x y H Q=> ∃i j,x= .int i∧y= .int j∧Q (g i j) H
def rU (g:Int→V):V→Hp→VK→Prop:=fun x H Q=> ∃i,x= .int i∧Q (g i) H
section
variable {X:Cx} {a b c:Expr} {ta tb tc:TE} {pos:Pos}
theorem qs3 (ha:PE X a ta) (hb:PE X b tb) {pins:List (Addr×Obj)} {s:Shared} {σ:St} {H:Hp} {R:V→V→Hp→Prop} (I:Inv X pins σ H s)
  (h:ta σ H fun x H1=>tb σ H1 fun y H2=>R x y H2) {Q:Value→Shared→Prop} {f:Value→Value→Sem Value}
  (hf: ∀v u s2 x y H2,Inv X pins σ H2 s2→RelV x v→RelV y u→R x y H2→wpAny (model X.prog X.w) X.A (f v u) Q X.xe s2):
  wpAny (model X.prog X.w) X.A (eval a X.env) (fun v s₁=>wpAny (model X.prog X.w) X.A (eval b X.env) (fun u s₂=>wpAny (model X.prog X.w) X.A (f v u) Q X.xe s₂) X.xe s₁) X.xe s:=by
 refine thn (ha pins s σ H _ I h) fun v s1 hq1741=> ?_
 obtain ⟨x,H1,I1,r1,q1⟩:=hq1741
 refine thn (hb pins s1 σ H1 _ I1 q1) fun u s2 hq1742=> ?_
 obtain ⟨y,H2,I2,r2,q2⟩:=hq1742
 exact hf v u s2 x y H2 I2 r1 r2 q2
theorem qcQ {op:Operator} {r:R2} (ho:OpR X (binaryOp op) r) (ha:PE X a ta) (hb:PE X b tb):PE X (.BinOp a op b pos) (tOp r ta tb):=by
 intro pins s σ H Q I h
 exact wpAny_BinOp (qs3 ha hb I h fun v u s2 x y H2 I2 rx ry q=>ho pins s2 σ H2 x y v u Q I2 rx ry q)
theorem qr8 {op:UnaryOp} {r:V→Hp→VK→Prop} (ho:UnR X (unaryOp op) r) (ha:PE X a ta):PE X (.UnaryOp op a pos) (tUn r ta):=by
 intro pins s σ H Q I h
 exact UnaryOp_ (thn (ha pins s σ H _ I h) fun v s1 ⟨x,H1,I1,r1,q1⟩=>ho pins s1 σ H1 x v Q I1 r1 q1)
theorem opI {f:Value→Value→Sem Value} {C:Int→Int→Prop} {g:Int→Int→Int}
  (rule: ∀(i j:Int) (t u:Tok) (s:Shared) (Q:Value→Shared→Prop) (E:Value→Shared→Prop),C i j→Q (.int (g i j) s.toks) { s with toks:=s.toks+1 }→wpAny (model X.prog X.w) X.A (f (.int i t) (.int j u)) Q E s):
  OpR X f (rI C fun i j=>.int (g i j)):=by
 intro pins s σ H x y v u Q I rx ry h
 obtain ⟨i,j,rfl,rfl,hc,q⟩:=h
 obtain ⟨t,rfl⟩:=rx
 obtain ⟨t',rfl⟩:=ry
 exact rule i j t t' s _ _ hc ⟨.int (g i j),H,I.tok _,⟨_,rfl⟩,q⟩
theorem qtm {f:Value→Value→Sem Value} {g:Int→Int→Int}
  (rule: ∀(i j:Int) (t u:Tok) (s:Shared) (Q:Value→Shared→Prop) (E:Value→Shared→Prop),Q (.int (g i j) s.toks) { s with toks:=s.toks+1 }→wpAny (model X.prog X.w) X.A (f (.int i t) (.int j u)) Q E s):
  OpR X f (rI0 fun i j=>.int (g i j)):=by
 intro pins s σ H x y v u Q I rx ry h
 obtain ⟨i,j,rfl,rfl,q⟩:=h
 obtain ⟨t,rfl⟩:=rx
 obtain ⟨t',rfl⟩:=ry
 exact rule i j t t' s _ _ ⟨.int (g i j),H,I.tok _,⟨_,rfl⟩,q⟩
theorem qsf {f:Value→Value→Sem Value} {g:Int→Int→Bool}
  (rule: ∀(i j:Int) (t u:Tok) (s:Shared) (Q:Value→Shared→Prop) (E:Value→Shared→Prop),Q (.bool (g i j)) s→wpAny (model X.prog X.w) X.A (f (.int i t) (.int j u)) Q E s):
  OpR X f (rI0 fun i j=>.bl (g i j)):=by
 intro pins s σ H x y v u Q I rx ry h
 obtain ⟨i,j,rfl,rfl,q⟩:=h
 obtain ⟨t,rfl⟩:=rx
 obtain ⟨t',rfl⟩:=ry
 exact rule i j t t' s _ _ ⟨.bl (g i j),H,I,rfl,q⟩
def qu3 (i j:Int):Prop:=0<j∧j<1073741824
def qrd (i j:Int):Prop:=(-(2 ^ 64)<i∧i<2 ^ 64)∨(-(2 ^ 64)<j∧j<2 ^ 64)
theorem qrd.ok {i j:Int} (h:qrd i j):IntMulOk i j:=by
 rcases h with ⟨h1,h2⟩ | ⟨h1,h2⟩
 ·exact .of_left (intBits_le_64 h1 h2)
 ·exact .of_right (intBits_le_64 h1 h2)
theorem qfL:OpR X (binaryOp .Add) (rI0 fun i j=>.int (i+j)):=qtm fun _ _ _ _ _ _ _ q=>add_int q
theorem qeB:OpR X (binaryOp .Sub) (rI0 fun i j=>.int (i - j)):=qtm fun _ _ _ _ _ _ _ q=>sub_int q
theorem qd0:OpR X (binaryOp .Mult) (rI qrd fun i j=>.int (i*j)):=opI fun _ _ _ _ _ _ _ hc q=>mul_int q hc.ok
theorem qn1:OpR X (binaryOp .FloorDiv) (rI qu3 fun i j=>.int (i / j)):=opI fun i j _ _ _ _ _ hc q=>by
 have h1:(0:Int)<j:=hc.1
 have h2:j<1073741824:=hc.2
 exact floordiv_int (by lia) (by rw[Int.fdiv_eq_ediv_of_nonneg i (by lia)]; exact q) (.inl (PyProof.noPylong_small (by lia)))
theorem qfK:OpR X (binaryOp .Mod) (rI (fun _ j=>0<j) fun i j=>.int (i % j)):=opI fun i j _ _ _ _ _ hc q=>by
 have h1:(0:Int)<j:=hc
 exact mod_int' (by lia) (by rw[Int.fmod_eq_emod_of_nonneg i (by lia)]; exact q)
theorem unI {f:Value→Sem Value} {g:Int→Int}
  (rule: ∀(i:Int) (t:Tok) (s:Shared) (Q:Value→Shared→Prop) (E:Value→Shared→Prop),Q (.int (g i) s.toks) { s with toks:=s.toks+1 }→wpAny (model X.prog X.w) X.A (f (.int i t)) Q E s):
  UnR X f (rU fun i=>.int (g i)):=by
 intro pins s σ H x v Q I rx h
 obtain ⟨i,rfl,q⟩:=h
 obtain ⟨t,rfl⟩:=rx
 exact rule i t s _ _ ⟨.int (g i),H,I.tok _,⟨_,rfl⟩,q⟩
theorem qo3:UnR X (unaryOp .USub) (rU fun i=>.int (-i)):=unI fun _ _ _ _ _ q=>neg_int q
end
section
variable {X:Cx} {a b c:Expr} {ta tb tc:TE} {pos:Pos}
theorem qnc {pins:List (Addr×Obj)} {σ:St} {H:Hp} {s:Shared} {Q:VK} {k k':Bool} (I:Inv X pins σ H s) (q:Q (.bl k) H) (e:k=k'):EP X pins σ Q (.bool k') s:=by
 subst e
 exact ⟨.bl k,H,I,rfl,q⟩
theorem qpV:OpR X (compareOp .Lt) (rI0 fun i j=>.bl (decide (i<j))):=qsf fun _ _ _ _ _ _ _ q=>lt_int q
theorem qse:OpR X (compareOp .LtE) (rI0 fun i j=>.bl (decide (i≤j))):=qsf fun _ _ _ _ _ _ _ q=>le_int q
theorem qn0:OpR X (compareOp .Gt) (rI0 fun i j=>.bl (decide (j<i))):=qsf fun _ _ _ _ _ _ _ q=>gt_int q
theorem qjO:OpR X (compareOp .Lt) (fun x y H Q=> ∃i j,x= .str i∧y= .str j∧Q (.bl (decide (i.cps.toList<j.cps.toList))) H):=by
 intro pins s σ H x y v u Q I rx ry h
 obtain ⟨i,j,rfl,rfl,q⟩:=h
 obtain ⟨t,rfl⟩:=rx
 obtain ⟨t',rfl⟩:=ry
 exact lt_str (qnc I q rfl)
theorem qpX:OpR X (compareOp .Is) (fun x y H Q=>y= .non∧Q (.bl (decide (x= .non))) H):=by
 intro pins s σ H x y v u Q I rx ry h
 obtain ⟨rfl,q⟩:=h
 cases ry
 refine is_none_gen (qnc I q ?_)
 cases x<;>first
  | (cases rx; rfl)
  | (obtain ⟨t,rfl⟩:=rx; rfl)
theorem OpR.or {f:Value→Value→Sem Value} {r r':R2} (h:OpR X f r) (h':OpR X f r'):OpR X f (fun x y H Q=>r x y H Q∨r' x y H Q):=by
 intro pins s σ H x y v u Q I rx ry q
 rcases q with q | q
 ·exact h pins s σ H x y v u Q I rx ry q
 ·exact h' pins s σ H x y v u Q I rx ry q
theorem qna (b:Expr) {op:CmpOp} (h:op≠.In:=by decide) (h2:op≠.NotIn:=by decide):behindInMarks op b=false:=by
 have e1:(op==CmpOp.In)=false:=by cases op<;>first | rfl | exact absurd rfl h
 have e2:(op==CmpOp.NotIn)=false:=by cases op<;>first | rfl | exact absurd rfl h2
 cases b<;>simp[behindInMarks,e1,e2]
theorem qnW {op:CmpOp} {r:R2} (ho:OpR X (compareOp op) r) (ha:PE X a ta) (hb:PE X b tb) (hm:behindInMarks op b=false):PE X (.Compare a [op] [b] pos) (tOp r ta tb):=by
 intro pins s σ H Q I h
 exact wpAny_Compare1 (qs3 ha hb I h fun v u s2 x y H2 I2 rx ry q=>ho pins s2 σ H2 x y v u Q I2 rx ry q) hm
def qo8 (t:TE):TT:=fun σ H Q=>t σ H fun x H'=> ∃k,x= .bl k∧Q k H'
theorem qgA {op:CmpOp} {r:R2} (ho:OpR X (compareOp op) r) (ha:PE X a ta) (hb:PE X b tb) (hm:behindInMarks op b=false):PT X (.Compare a [op] [b] pos) (qo8 (tOp r ta tb)):=by
 intro pins s σ H Q I h
 refine wpAny_isTrue_Compare1 (thn (ha pins s σ H _ I h) fun v s1 ⟨x,H1,I1,r1,q1⟩=>thn (hb pins s1 σ H1 _ I1 q1) fun u s2 ⟨y,H2,I2,r2,q2⟩=>
  thn (ho pins s2 σ H2 x y v u _ I2 r1 r2 q2) fun c s3 ⟨z,H3,I3,r3,k,e,q3⟩=> ?_) hm
 subst e
 cases r3
 exact wpAny_truthy_bool ⟨H3,I3,q3⟩
def qi9 (r r':R2) (ta tb tc:TE):TE:=fun σ H Q=>ta σ H fun x H1=>tb σ H1 fun y H2=>r x y H2 fun z H3=> ∃k,z= .bl k∧
 (if k=true then tc σ H3 fun w' H4=>r' y w' H4 Q else Q (.bl false) H3)
theorem qlZ {op op':CmpOp} {r r':R2} (ho:OpR X (compareOp op) r) (ho':OpR X (compareOp op') r') (ha:PE X a ta) (hb:PE X b tb) (hc:PE X c tc)
  (hm:lastMarks [op,op'] [b,c]=false:=by with_unfolding_all rfl):PE X (.Compare a [op,op'] [b,c] pos) (qi9 r r' ta tb tc):=by
 intro pins s σ H Q I h
 refine Compare_chain (thn (ha pins s σ H _ I h) fun v s1 ⟨x,H1,I1,r1,q1⟩=>chain_link (thn (hb pins s1 σ H1 _ I1 q1) fun u s2 ⟨y,H2,I2,r2,q2⟩=>
  thn (ho pins s2 σ H2 x y v u _ I2 r1 r2 q2) fun d s3 ⟨z,H3,I3,r3,k,e,q3⟩=> ?_)) hm
 subst e
 cases r3
 refine wpAny_truthy_bool ?_
 cases k with
 | false=>exact ite_ff ⟨.bl false,H3,I3,rfl,q3⟩
 | true=>exact ite_tt (chain_last (thn (hc pins s3 σ H3 _ I3 q3) fun w' s4 ⟨z',H4,I4,r4,q4⟩=>ho' pins s4 σ H4 y z' u w' Q I4 r2 r4 q4))
theorem qlN {op op':CmpOp} {r r':R2} (ho:OpR X (compareOp op) r) (ho':OpR X (compareOp op') r') (ha:PE X a ta) (hb:PE X b tb) (hc:PE X c tc)
  (hm:lastMarks [op,op'] [b,c]=false:=by with_unfolding_all rfl):PT X (.Compare a [op,op'] [b,c] pos) (qo8 (qi9 r r' ta tb tc)):=by
 intro pins s σ H Q I h
 refine isTrue_chain (thn (ha pins s σ H _ I h) fun v s1 ⟨x,H1,I1,r1,q1⟩=>test_link (thn (hb pins s1 σ H1 _ I1 q1) fun u s2 ⟨y,H2,I2,r2,q2⟩=>
  thn (ho pins s2 σ H2 x y v u _ I2 r1 r2 q2) fun d s3 ⟨z,H3,I3,r3,k,e,q3⟩=> ?_)) hm
 subst e
 cases r3
 refine wpAny_truthy_bool ?_
 cases k with
 | false=>
  obtain ⟨k',e',q'⟩:=q3
  cases e'
  exact ite_ff ⟨H3,I3,q'⟩
 | true=>
  refine ite_tt (test_last (thn (hc pins s3 σ H3 _ I3 q3) fun w' s4 ⟨z',H4,I4,r4,q4⟩=>thn (ho' pins s4 σ H4 y z' u w' _ I4 r2 r4 q4) fun d' s5 ⟨z2,H5,I5,r5,k2,e2,q5⟩=> ?_))
  subst e2
  cases r5
  exact wpAny_truthy_bool ⟨H5,I5,q5⟩
def quY (K:PySem.W.Frag) (x:V) (H:Hp) (k:Bool):Prop:=
 match x with
 | .non=>k=false
 | .bl b=>k=b
 | .int i=>k=(i != 0)
 | .str y=>y.length≤sizeLine∧k=((y.length:Int) != 0)
 | .byt y=>y.size≤sizeLine∧k=((y.size:Int) != 0)
 | .ref p=>(∃xs,SqL K H p xs∧k= !xs.isEmpty)∨(∃xs,SqT K H p xs∧k= !xs.isEmpty)∨∃kvs,H p=some (.dK kvs)∧k= !kvs.isEmpty
 | _=>False
theorem qiI {κ:Type} {kvs:List (κ×V)} {vs:List (κ×Value)} (r:KV kvs vs):(!vs.isEmpty)= !kvs.isEmpty:=by
 cases r<;>rfl
theorem qeH {xs:List V} {its:List Value} (r:Vals xs its):(!its.toArray.isEmpty)= !xs.isEmpty:=by
 cases r<;>simp
theorem qc4:(sizeLine:Nat)<2 ^ 63:=by rw[sizeLine_eq]; decide
theorem qtd:quZ X (fun x H Q=> ∃k,quY X.K x H k∧Q k H):=by
 intro pins s σ H x v Q I rx h
 obtain ⟨k,e,q⟩:=h
 have hl:=qc4
 have hs:sizeLine=16777216:=sizeLine_eq
 cases x with
 | non=>
  cases rx
  have e':k=false:=e
  subst e'
  exact truthy_none ⟨H,I,q⟩
 | bl b=>
  cases rx
  have e':k=b:=e
  subst e'
  exact wpAny_truthy_bool ⟨H,I,q⟩
 | int i=>
  obtain ⟨t,rfl⟩:=rx
  have e':k=(i != 0):=e
  subst e'
  exact PySem.P.truthy_int ⟨H,I,q⟩
 | str y=>
  obtain ⟨t,rfl⟩:=rx
  obtain ⟨hy,e'⟩:y.length≤sizeLine∧k=((y.length:Int) != 0):=e
  subst e'
  exact PySem.P.truthy_str (by lia) ⟨H,I.tok _,q⟩
 | byt y=>
  obtain ⟨t,rfl⟩:=rx
  obtain ⟨hy,e'⟩:y.size≤sizeLine∧k=((y.size:Int) != 0):=e
  subst e'
  exact PySem.W.truthy_bytes (by lia) ⟨H,I.tok _,q⟩
 | ref p=>
  cases rx
  have e':(∃xs,SqL X.K H p xs∧k= !xs.isEmpty)∨(∃xs,SqT X.K H p xs∧k= !xs.isEmpty)∨∃kvs,H p=some (.dK kvs)∧k= !kvs.isEmpty:=e
  rcases e' with ⟨xs,hx,e'⟩ | ⟨xs,hx,e'⟩ | ⟨kvs,hx,e'⟩
  ·subst e'
   obtain ⟨its,r,pl,hz⟩:=I.list hx
   have hlen:=r.length
   exact wpAny_truthy_list pl.isList (by simp only[List.size_toArray]; lia) ⟨H,I.tok _,by rw[qeH r]; exact q⟩
  ·subst e'
   obtain ⟨its,r,pl,hz⟩:=I.tuple hx
   have hlen:=r.length
   exact truthy_tuple pl (by simp only[List.size_toArray]; lia) ⟨H,I.tok _,by rw[qeH r]; exact q⟩
  ·subst e'
   obtain ⟨hz,hS,vs,r,m⟩:kvs.length≤sizeLine∧(p==sysModules)=false∧∃vs,KV kvs vs∧s.heap.DictOf (qaL X.prog X.w) p vs:=I.hok p _ hx
   have hlen:kvs.length=vs.length:=Paired.length r
   exact wpAny_truthy_dict hS m (by lia) ⟨H,I.tok _,by rw[qiI r]; exact q⟩
 | _=>exact (show False from e).elim
theorem qiu:OpR X (binaryOp .Add) (fun x y H Q=> ∃i j,x= .str i∧y= .str j∧i.length+j.length≤sizeLine∧Q (.str (i++j)) H):=by
 intro pins s σ H x y v u Q I rx ry h
 obtain ⟨i,j,rfl,rfl,hz,q⟩:=h
 obtain ⟨t,rfl⟩:=rx
 obtain ⟨t',rfl⟩:=ry
 exact add_str (fun t' tk=>⟨.str (i++j),H,I.tok _,⟨_,rfl⟩,q⟩) hz
theorem qek {x:V} {us:List Value} (r:Vals [x] us): ∃u,us=[u]∧RelV x u:=by
 cases r with
 | cons r1 r2=>cases r2; exact ⟨_,rfl,r1⟩
theorem qnv {x y:V} {us:List Value} (r:Vals [x,y] us): ∃u w',us=[u,w']∧RelV x u∧RelV y w':=by
 cases r with
 | cons r1 r2=>
  cases r2 with
  | cons r3 r4=>cases r4; exact ⟨_,_,rfl,r1,r3⟩
theorem qk2 (hc:X.calm=true):qdC X (.builtin "min") (fun xs H Q=> ∃i j,xs=[.int i,.int j]∧Q (.int (if j<i then j else i)) H):=by
 intro pins s σ H xs us Q I r h
 obtain ⟨i,j,rfl,q⟩:=h
 obtain ⟨u,w',rfl,⟨t,rfl⟩,⟨t',rfl⟩⟩:=qnv r
 refine min_two_ints (I.ok.hd hc) fun h' tk k=>⟨_,H,I.kept k,?_,q⟩
 by_cases hj:j<i
 ·rw[if_pos hj,if_pos hj]; exact ⟨_,rfl⟩
 ·rw[if_neg hj,if_neg hj]; exact ⟨_,rfl⟩
def qu1 (K:PySem.W.Frag) (x:V) (H:Hp) (n:Nat):Prop:=
 match x with
 | .str y=>y.length≤sizeLine∧n=y.length
 | .byt y=>y.size≤sizeLine∧n=y.size
 | .ref p=>(∃xs,SqL K H p xs∧n=xs.length)∨∃xs,SqT K H p xs∧n=xs.length
 | _=>False
theorem qh9:qdC X (.builtin "len") (fun xs H Q=> ∃x n,xs=[x]∧qu1 X.K x H n∧Q (.int n) H):=by
 intro pins s σ H xs us Q I r h
 obtain ⟨x,n,rfl,e,q⟩:=h
 obtain ⟨u,rfl,rx⟩:=qek r
 have hl:=qc4
 have hs:sizeLine=16777216:=sizeLine_eq
 cases x with
 | str y=>
  obtain ⟨t,rfl⟩:=rx
  obtain ⟨hy,e'⟩:y.length≤sizeLine∧n=y.length:=e
  subst e'
  exact len_str (by lia) ⟨.int _,H,I.tok _,⟨_,rfl⟩,q⟩
 | byt y=>
  obtain ⟨t,rfl⟩:=rx
  obtain ⟨hy,e'⟩:y.size≤sizeLine∧n=y.size:=e
  subst e'
  exact PySem.W.len_bytes (by lia) ⟨.int _,H,I.tok _,⟨_,rfl⟩,q⟩
 | ref p=>
  cases rx
  have e':(∃xs,SqL X.K H p xs∧n=xs.length)∨∃xs,SqT X.K H p xs∧n=xs.length:=e
  rcases e' with ⟨xs,hx,e'⟩ | ⟨xs,hx,e'⟩
  ·subst e'
   obtain ⟨its,r',pl,hz⟩:=I.list hx
   have hlen:=r'.length
   exact Calls.call_len_list pl.isList (by simp only[List.size_toArray]; lia) ⟨.int xs.length,H,I.tok _,⟨_,by simp only[List.size_toArray]; rw[hlen]⟩,q⟩
  ·subst e'
   obtain ⟨its,r',pl,hz⟩:=I.tuple hx
   have hlen:=r'.length
   exact len_tuple pl (by simp only[List.size_toArray]; lia) ⟨.int xs.length,H,I.tok _,⟨_,by simp only[List.size_toArray]; rw[hlen]⟩,q⟩
 | _=>exact (show False from e).elim
end
end L2
namespace L2
open PySem PySem.Spec PyProof.Rows
structure qs7 (h:Heap) (x dx C:Addr) (mA:Str→Option Value):Prop where
 obj:h.get? x=some (PySem.W.instObj C dx)
 ns:h.Ns1 dx mA
 ne:dx≠x
theorem qj3 {h:Heap} {dx:Addr} {mA:Str→Option Value} (n:h.Ns1 dx mA): ∃od,h.get? dx=some od∧∀name,PySem.W.lookIn name od=some (mA name):=by
 obtain ⟨o,es,ep,ho,hd,hk,_,hm⟩:=n
 refine ⟨o,ho,fun name=> ?_⟩
 have e:=hm name
 unfold nsFind findBy at e
 rw[←Array.find?_toList] at e
 unfold PySem.W.lookIn
 rw[hd]
 dsimp only
 split
 ·rename_i y q
  rw[q] at e
  exact congrArg some e
 ·rename_i q
  rw[q] at e
  have a:es.toList.any (·.refKey)=false:=by
   rw[List.any_eq_false]
   intro y hy
   obtain ⟨z,t,hkey⟩:=hk y (Array.mem_toList_iff.mp hy)
   simp[DictEntry.refKey,hkey]
  have a': ¬es.toList.any (·.refKey)=true:=by rw[a]; exact Bool.false_ne_true
  rw[if_neg a']
  exact congrArg some e
theorem qs7.look {h:Heap} {x dx C:Addr} {mA:Str→Option Value} (I:qs7 h x dx C mA): ∃od,PySem.W.InstAt h x (PySem.W.instObj C dx) C (some od)∧∀name,PySem.W.lookIn name od=some (mA name):=
 let ⟨od,ho,hl⟩:=qj3 I.ns
 ⟨od,⟨I.obj,rfl,rfl,ho⟩,hl⟩
section
variable {prog:Program} {w:World} {A:Around} {E:Value→Shared→Prop} {s:Shared} {K:PySem.W.Frag} {x dx C f:Addr} {mA:Str→Option Value} {name:Str} {v:Value}
end
section
variable {P:Program} {w:World} {H H':Hp} {h h':Heap} {a C dx:Addr} {fs fs':List (Str×V)}
theorem qoh (hok:HOk P w H h) (e:H a=some (.ins C dx fs)): ∃mA,qs7 h a dx C mA∧(∀f,qmO (fs.lookup f) (mA f))∧PySem.Within mA (fs.map (·.1))∧fs.length≤1000∧H dx=some (.own a):=by
 obtain ⟨d,z,ne,ob,mA,n,r,q⟩:=(show qbu P w H h a (.ins C dx fs) from hok a _ e)
 exact ⟨mA,⟨ob,n,ne⟩,r,q,z,d⟩
end
structure Cls (K:PySem.W.Frag) (C:Addr):Prop where
 pg:PySem.W.plainGet K C Str.empty=true
 hd:PySem.W.hasDictIn K C=true
 po:PySem.W.plainOver K C=true
 sa:PySem.W.findIn K (.ref C) "__setattr__" =some (some (.builtin "object.__setattr__"))
theorem Cls.get {K:PySem.W.Frag} {C:Addr} (c:Cls K C) (f:Str):PySem.W.plainGet K C f=true:=c.pg
structure Con (K:PySem.W.Frag) (C:Addr) (f:Str) (v:V) (u:Value):Prop where
 at_:PySem.W.findIn K (.ref C) f=some (some u)
 rel:RelV v u
 get:PySem.W.specialIn K u "__get__" =some none
 cp:PySem.W.copiedNames.contains f=false
structure qu6 (K:PySem.W.Frag) (C:Addr) (m:Str) (f:Addr):Prop where
 at_:PySem.W.findIn K (.ref C) m=some (some (.ref f))
 fn:PySem.W.isFn K (.ref f)=true
 kp:PySem.W.keepIn K (.ref f)=true
section
variable {X:Cx} {pins:List (Addr×Obj)} {σ:St} {H:Hp} {s:Shared} {a C dx:Addr} {fs:List (Str×V)} {f:Str} {v:V} {A:Around} {E:Value→Shared→Prop}
theorem Inv.made (I:Inv X pins σ H s):Inv X pins σ (upd (upd H s.heap.objs.size (.own (s.heap.objs.size+1))) (s.heap.objs.size+1) (.ins C s.heap.objs.size []))
  { s with heap:=(s.heap.push PySem.W.emptyDict).push (PySem.W.instObj C s.heap.objs.size) }:=by
 have e1:(s.heap.push PySem.W.emptyDict).get? s.heap.objs.size=some PySem.W.emptyDict:=Heap.get?_push_size s.heap rfl
 have e2:((s.heap.push PySem.W.emptyDict).push (PySem.W.instObj C s.heap.objs.size)).get? (s.heap.objs.size+1)=some (PySem.W.instObj C s.heap.objs.size):=by
  have:=Heap.get?_push_size (s.heap.push PySem.W.emptyDict) (o:=PySem.W.instObj C s.heap.objs.size) rfl
  rwa [Heap.size_push] at this
 have e3:(s.heap.push PySem.W.emptyDict).Ns s.heap.objs.size (fun _=>none):=⟨PySem.W.emptyDict, #[],_,e1,rfl,(fun e he=>absurd he (by simp)),fun _=>rfl⟩
 have I1:=I.laid (a:=s.heap.objs.size) (o:=.own (s.heap.objs.size+1)) (h':=s.heap.push PySem.W.emptyDict) (t':=s.toks) (fun b u q=>Heap.get?_push_of_some _ q) (Nat.le_refl _) ⟨_,e1⟩
 refine I1.laid (a:=s.heap.objs.size+1) (o:=.ins C s.heap.objs.size []) (t':=s.toks) (fun b u q=>Heap.get?_push_of_some _ q) (Nat.le_of_eq (Heap.size_push _ _)) ?_
 have ne:s.heap.objs.size≠s.heap.objs.size+1:=Nat.ne_of_lt (Nat.lt_succ_self _)
 refine ⟨by rw[qaj ne,qan],Nat.zero_le _,ne,e2,fun _=>none,(Heap.Ns1.of_empty e3).at fun o q=>Heap.get?_push_of_some _ q,fun _=>True.intro,fun y hy=>absurd rfl hy⟩
end
section
variable {X:Cx} {o e value:Expr} {f:Str} {pos pos' tpos:Pos} {ta tv:TE}
end
section
variable {X:Cx} {pins:List (Addr×Obj)} {σ:St} {H:Hp} {s:Shared} {A:Around} {E:Value→Shared→Prop} {Q:Value→Shared→Prop} {c:Value} {b:Bool}
inductive qiY (K:PySem.W.Frag) (H:Hp):V→Value→Prop where
 | non:qiY K H .non (.type "NoneType")
 | bl (x:Bool):qiY K H (.bl x) (.type "bool")
 | int (i:Int):qiY K H (.int i) (.type "int")
 | str (x:Str):qiY K H (.str x) (.type "str")
 | flt (x:UInt64):qiY K H (.flt x) (.type "float")
 | lst {a:Addr} {xs:List V} (e:H a=some (.lst xs)):qiY K H (.ref a) (.type "list")
 | frz {a:Addr} {o:Obj} {xs:List V} (e:H a=some (.frz o (.lst xs))):qiY K H (.ref a) (.type "list")
 | tup {a:Addr} {xs:List V} (e:H a=some (.tup xs)):qiY K H (.ref a) (.type "tuple")
 | dK {a:Addr} {kvs:List (Key×V)} (e:H a=some (.dK kvs)):qiY K H (.ref a) (.type "dict")
 | dT {a:Addr} {kvs:List (List Key×V)} (e:H a=some (.dT kvs)):qiY K H (.ref a) (.type "dict")
 | ins {a C dx:Addr} {fs:List (Str×V)} (e:H a=some (.ins C dx fs)) (cl:Cls K C) (ha:PySem.W.findIn K (.ref C) "__class__" =some (some (.builtin "object.__class__")))
   (hn:PySem.W.specialIn K (.builtin "object.__class__") "__get__" =some (some (.builtin "getset_descriptor.__get__"))) (htk:PySem.W.takesIn K (.builtin "object.__class__")=some true)
   (hm:PySem.W.mroIn K C (.type "object")=some true):qiY K H (.ref a) (.ref C)
theorem qkk {x:V} {u t:Value} (I:Inv X pins σ H s) (rx:RelV x u) (ty:qiY X.K H x t) (e:PySem.W.kitOne X.K t c=some b) (h: ∀tk,Q (.bool b) { s with toks:=tk }):
  wpAny (model X.prog X.w) A (call (.builtin "isinstance") [u,c]) Q E s:=by
 cases ty with
 | non=>cases (show u=Value.none from rx); exact PySem.W.kia_one PySem.W.kitx_none I.kIn True.intro e (fun z=>nomatch z) h
 | bl y=>cases (show u=Value.bool y from rx); exact PySem.W.kia_one PySem.W.kitx_bool I.kIn True.intro e (fun z=>nomatch z) h
 | int i=>obtain ⟨t,q⟩:=(show ∃t,u=Value.int i t from rx); cases q; exact PySem.W.kia_one PySem.W.kitx_int I.kIn True.intro e (fun z=>nomatch z) h
 | str y=>obtain ⟨t,q⟩:=(show ∃t,u=Value.str y t from rx); cases q; exact PySem.W.kia_one PySem.W.kitx_str I.kIn True.intro e (fun z=>nomatch z) h
 | flt y=>obtain ⟨t,q⟩:=(show ∃t,u=Value.float y t from rx); cases q; exact PySem.W.kia_one PySem.W.kitx_float I.kIn True.intro e (fun z=>nomatch z) h
 | @lst a xs ea=>
  cases (show u=Value.ref a from rx)
  obtain ⟨_,_,n,_,h1⟩:=(show qbu X.prog X.w H s.heap a (.lst xs) from I.hok a _ ea)
  exact PySem.W.kia_one PySem.W.kitx_list I.kIn ⟨_,h1,rfl⟩ e (fun z=>nomatch z) h
 | @frz a ob xs ea=>
  cases (show u=Value.ref a from rx)
  obtain ⟨_,_,_,n,_,h1⟩:=(show qbu X.prog X.w H s.heap a (.frz ob (.lst xs)) from I.hok a _ ea)
  exact PySem.W.kia_one PySem.W.kitx_list I.kIn ⟨_,h1,rfl⟩ e (fun z=>nomatch z) h
 | @tup a xs ea=>
  cases (show u=Value.ref a from rx)
  obtain ⟨_,_,_,p⟩:=(show qbu X.prog X.w H s.heap a (.tup xs) from I.hok a _ ea)
  obtain ⟨o,h1,h2,_⟩:=p
  exact PySem.W.kia_one PySem.W.kitx_tuple I.kIn ⟨o,h1,h2⟩ e (fun z=>nomatch z) h
 | @dK a kvs ea=>
  cases (show u=Value.ref a from rx)
  obtain ⟨_,_,vs,_,p⟩:=(show qbu X.prog X.w H s.heap a (.dK kvs) from I.hok a _ ea)
  obtain ⟨o,es,ep,h1,h2,_⟩:=p
  exact PySem.W.kia_one PySem.W.kitx_dict I.kIn ⟨o,h1,h2.1⟩ e (fun z=>nomatch z) h
 | @dT a kvs ea=>
  cases (show u=Value.ref a from rx)
  obtain ⟨_,_,xs,_,o,es,ep,h1,h2,_⟩:=(show qbu X.prog X.w H s.heap a (.dT kvs) from I.hok a _ ea)
  exact PySem.W.kia_one PySem.W.kitx_dict I.kIn ⟨o,h1,h2.1⟩ e (fun z=>nomatch z) h
 | @ins a C dx fs ea cl ha hn htk hm=>
  cases (show u=Value.ref a from rx)
  obtain ⟨mA,O,_⟩:=qoh I.hok ea
  obtain ⟨od,J,_⟩:=O.look
  exact PySem.W.kia_one (PySem.W.kitx_own (cl.get _) cl.hd ha hn htk hm) I.kIn J e (fun z=>nomatch z) h
end
end L2
namespace L2
open PySem PySem.Spec PyProof.Rows
structure qcD (k:Nat) (A:Around):Prop where
 hd:A.handled=none
 dp:A.depth+3*k+5<recursionLimit
 un:A.units+16*k+200<cLine
theorem qcD.mono {j k:Nat} {A:Around} (r:qcD k A) (h:j≤k):qcD j A:=⟨r.hd,by have:=r.dp; lia,by have:=r.un; lia⟩
theorem qcD.deeper {k:Nat} {A:Around} (r:qcD (k+1) A) (env:Env):qcD k (A.deeper env):=
 ⟨r.hd,by have:=r.dp; show A.depth+1+3*k+5<_; lia,by have:=r.un; show A.units+3+16*k+200<_; lia⟩
theorem qcD.in1 {k:Nat} {A:Around} (r:qcD (k+1) A):qcD k A.in1:=
 ⟨r.hd,by have:=r.dp; show A.depth+3*k+5<_; lia,by have:=r.un; show A.units+1+16*k+200<_; lia⟩
theorem qiA {A:Around} {C:Addr} {us:List Value} {kw:List (Str×Value)}:(A.under (.builtin "type.__call__" ⟨.ref C::us,kw⟩)).depth=A.depth+1:=by
 first | rfl | simp[Around.under,Code.weight,Code.isCreation,Code.isGuard,Code.isCaller,Code.frames,Code.isFrame,guardIds]
theorem qiz {A:Around} {C:Addr} {us:List Value} {kw:List (Str×Value)}:(A.under (.builtin "type.__call__" ⟨.ref C::us,kw⟩)).units=A.units+1:=by
 first | rfl | simp[Around.under,Code.cUnits,Code.frames,Code.isFrame]
theorem qcD.make {k:Nat} {A:Around} (r:qcD (k+1) A) (C:Addr) (us:List Value) (kw:List (Str×Value)):qcD k (A.under (.builtin "type.__call__" ⟨.ref C::us,kw⟩)):=
 ⟨r.hd,by have:=r.dp; rw[qiA]; lia,by have:=r.un; rw[qiz]; lia⟩
theorem qcD.depth {k:Nat} {A:Around} (r:qcD k A):A.depth<recursionLimit:=by have:=r.dp; lia
theorem qcD.units {k:Nat} {A:Around} (r:qcD k A):A.units+64<cLine:=by have:=r.un; lia
theorem qcD.units0 {k:Nat} {A:Around} (r:qcD k A):A.units<cLine:=by have:=r.un; lia
def qhk:TA:=fun _ H Q=>Q [] H
def qcp (ta:TE) (tr:TA):TA:=fun σ H Q=>ta σ H fun x H1=>tr σ H1 fun xs H2=>Q (x::xs) H2
section
variable {X:Cx} {e:Expr} {es:List Expr} {te:TE} {t:TA} {pos:Pos}
theorem qaR:PA X [] qhk:=fun _ _ _ _ H Q I h=>Calls.spliced_nil ⟨[],H,I,.nil,h⟩
theorem qau (ha:PE X e te) (hr:PA X es t) (hs:starEach (e::es) X.env=(false,eval e X.env)::starEach es X.env:=by rfl):PA X (e::es) (qcp te t):=by
 intro pos pins s σ H Q I h
 rw[hs]
 show wpAny _ _ (spliced ((false,eval e X.env)::backTo pos (starEach es X.env))) _ _ s
 refine Calls.spliced_cons (thn (ha pins s σ H _ I h) fun u s1 ⟨x,H1,I1,r1,q1⟩=> ?_)
 exact thn (hr pos pins s1 σ H1 _ I1 q1) fun us s2 ⟨xs,H2,I2,r2,q2⟩=>⟨x::xs,H2,I2,.cons r1 r2,q2⟩
def qt7 (t:TA):TE:=fun σ H Q=>t σ H fun xs H1=>xs.length≤sizeLine∧∀p,H1 p=none→Q (.ref p) (upd H1 p (.tup xs))
def qub (t:TA):TE:=fun σ H Q=>t σ H fun xs H1=>xs.length≤sizeLine∧∀p,H1 p=none→Q (.ref p) (upd H1 p (.lst xs))
theorem qpP {x1} (h:PA X es t):PE X (.Tuple es x1 pos) (qt7 t):=by
 intro pins s σ H Q I hq
 refine wpAny_Tuple_spliced (thn (h pos pins s σ H _ I hq) fun us s1 ⟨xs,H1,I1,r,z,q⟩=>⟨by rw[←r.length]; exact z,?_⟩)
 have hf:H1 s1.heap.objs.size=none:=I1.hok.fresh (Nat.le_refl _)
 refine ⟨.ref s1.heap.objs.size,upd H1 s1.heap.objs.size (.tup xs),I1.laid (t':=s1.toks) (fun b u e=>Heap.get?_push_of_some _ e) (Nat.le_refl _) ?_,rfl,q _ hf⟩
 exact ⟨z,us,r,⟨_,Heap.get?_push_size _ rfl,rfl,_,rfl⟩⟩
theorem qm6 (h:PA X es t):PE X (.List es pos) (qub t):=by
 intro pins s σ H Q I hq
 refine wpAny_List_spliced (thn (h pos pins s σ H _ I hq) fun us s1 ⟨xs,H1,I1,r,z,q⟩=>⟨by rw[←r.length]; exact z,?_⟩)
 have hf:H1 s1.heap.objs.size=none:=I1.hok.fresh (Nat.le_refl _)
 refine ⟨.ref s1.heap.objs.size,upd H1 s1.heap.objs.size (.lst xs),I1.laid (t':=s1.toks) (fun b u e=>Heap.get?_push_of_some _ e) (Nat.le_refl _) ?_,rfl,q _ hf⟩
 exact ⟨z,us,0,r,Heap.get?_push_size _ rfl⟩
end
abbrev Sp:=List V→Hp→VK→XK→Prop
abbrev CXT:=List Env→Hp→Shared→XK→Value→Shared→Prop
structure qlf (P:Program) (w:World) (K:PySem.W.Frag) (mg:Str→Option Value) (base:Heap) (A:Around) (outer:List Env) (s:Shared) (H:Hp):Prop where
 frames:A.frames=some outer
 mod:Mod K mg base
 bs: ∀b o,base.get? b=some o→s.heap.get? b=some o∧H b=none
 bsz:base.objs.size≤s.heap.objs.size
 funs:s.heap.FunFrames base outer
 frf: ∀b∈frs outer,H b=none
 hok:HOk P w H s.heap
 bare:AllBare s.gens
def CE (outer:List Env) (P:Program) (w:World) (H:Hp) (s:Shared) (Q:VK) (u:Value) (s':Shared):Prop:=
 ∃v H',s'.os=s.os∧AllBare s'.gens∧Un (frs outer) [] H H' s.heap s'.heap∧HOk P w H' s'.heap∧RelV v u∧Q v H'
def CR (CX:CXT) (outer:List Env) (P:Program) (w:World) (H:Hp) (s:Shared) (Q:VK) (E:XK) (r:Result) (s':Shared):Prop:=
 match r with
 | .ok (.ret u)=>CE outer P w H s Q u s'
 | .ok _=>False
 | .error e=>CX outer H s E e s'
structure qbG (P:Program) (w:World) (K:PySem.W.Frag) (mg:Str→Option Value) (base:Heap) (CX:CXT) (k:Nat) (f:Addr) (fd:FuncData) (ps:List Str) (sp:Sp):Prop where
 len: ∀vs H Q E,sp vs H Q E→vs.length=ps.length
 run: ∀(A:Around) (outer:List Env) (s:Shared) (H:Hp) (args:Args) (us:List Value) (vs:List V) (Q:VK) (E:XK),qcD k A→qlf P w K mg base A outer s H→BindsTo s fd args (ps.zip us)→Vals vs us→sp vs H Q E→
  codeAny (model P w) A (.call (.ref f) args) (CR CX outer P w H s Q E) s
theorem qbG.imp {P:Program} {w:World} {K:PySem.W.Frag} {mg:Str→Option Value} {base:Heap} {CX:CXT} {k:Nat} {f:Addr} {fd:FuncData} {ps:List Str} {sp sp':Sp} (F:qbG P w K mg base CX k f fd ps sp)
  (h: ∀vs H Q E,sp' vs H Q E→sp vs H Q E):qbG P w K mg base CX k f fd ps sp':=
 ⟨fun vs H Q E q=>F.len vs H Q E (h _ _ _ _ q),fun A outer s H args us vs Q E hr he hb hv hs=>F.run A outer s H args us vs Q E hr he hb hv (h _ _ _ _ hs)⟩
theorem qlf.make {P:Program} {w:World} {K:PySem.W.Frag} {mg:Str→Option Value} {base:Heap} {A:Around} {outer:List Env} {s:Shared} {H:Hp} (e:qlf P w K mg base A outer s H) (C:Addr) (us:List Value) (kw:List (Str×Value)):
  qlf P w K mg base (A.under (.builtin "type.__call__" ⟨.ref C::us,kw⟩)) outer s H:=⟨by first | exact e.frames | (simpa [Around.under,Code.envs,Code.isFrame,pushEnvs] using e.frames),e.mod,e.bs,e.bsz,e.funs,e.frf,e.hok,e.bare⟩
theorem qlf.in1 {P:Program} {w:World} {K:PySem.W.Frag} {mg:Str→Option Value} {base:Heap} {A:Around} {outer:List Env} {s:Shared} {H:Hp} (e:qlf P w K mg base A outer s H):
  qlf P w K mg base A.in1 outer s H:=⟨e.frames,e.mod,e.bs,e.bsz,e.funs,e.frf,e.hok,e.bare⟩
section
variable {X:Cx} {pins:List (Addr×Obj)} {σ:St} {H:Hp} {s s':Shared}
theorem Inv.env0 (I:Inv X pins σ H s):qlf X.prog X.w X.K X.mg X.base X.A X.stack s H:=
 ⟨I.ok.frames,I.ok.mod,I.bs,Nat.le_trans I.ok.bsz I.sz,I.stack,I.stkFree,I.hok,I.bare⟩
theorem Inv.after {Q:VK} {u:Value} (I:Inv X pins σ H s) (h:CE X.stack X.prog X.w H s Q u s'):EP X pins σ Q u s':=by
 obtain ⟨v,H',os,bare,un,hok,r,q⟩:=h
 obtain ⟨hh,g,d,t,os'⟩:=s'
 obtain rfl:os'=s.os:=os
 exact ⟨v,H',I.call (h':=hh) (g':=g) (d':=d) (t':=t) (ch:=[]) un hok bare (fun b z=>absurd z (by simp)),r,q⟩
end
def qpc (sp:Sp) (dvs:List V) (E:XK) (t:TA):TE:=fun σ H Q=>t σ H fun vs H1=>sp (vs++dvs) H1 Q E
def qfp (K:PySem.W.Frag) (fd:FuncData) (ps:List Str) (ds:List Value):Prop:=
 ∀(s:Shared) (us:List Value),K.In s.heap→(us++ds).length=ps.length→BindsTo s fd ⟨us,[]⟩ (ps.zip (us++ds))
theorem qfp.all {K:PySem.W.Frag} {fd:FuncData} {ps:List Str} (h: ∀us:List Value,us.length=ps.length→bindArgs fd ⟨us,[]⟩=pure (ps.zip us)):qfp K fd ps []:=fun s us _ hl=>by
 rw[List.append_nil] at hl⊢
 exact .of_eq (h us hl)
def qgk (CX:CXT) (X:Cx) (E:XK):Prop:= ∀(pins:List (Addr×Obj)) (σ:St) (H:Hp) (s:Shared) (e:Value) (s':Shared),Inv X pins σ H s→CX X.stack H s E e s'→X.xe e s'
section
variable {X:Cx} {CX:CXT} {k:Nat} {f C:Addr} {fd:FuncData} {ps:List Str} {sp:Sp} {dvs:List V} {ds:List Value} {E:XK} {x m:Str} {p pos apos:Pos} {e o:Expr} {es:List Expr} {ta:TE} {t:TA}
theorem qpt {pins:List (Addr×Obj)} {σ:St} {H:Hp} {s:Shared} {Q:VK} {us:List Value} {vs:List V} (F:qbG X.prog X.w X.K X.mg X.base CX k f fd ps sp) (hr:qcD k X.A) (hb:qfp X.K fd ps ds) (hd:Vals dvs ds) (hx:qgk CX X E)
  (I:Inv X pins σ H s) (r:Vals vs us) (h:sp (vs++dvs) H Q E):wpAny (model X.prog X.w) X.A (call (.ref f) us) (EP X pins σ Q) X.xe s:=by
 have r2:Vals (vs++dvs) (us++ds):=r.append hd
 have hl:(us++ds).length=ps.length:=by rw[←r2.length]; exact F.len _ _ _ _ h
 refine wpAny_call (codeAny_mono (F.run X.A X.stack s H ⟨us,[]⟩ (us++ds) (vs++dvs) Q E hr I.env0 (hb s us I.kIn hl) r2 h) fun r s' hq=> ?_)
 cases r with
 | error e=>exact hx pins σ H s e s' I hq
 | ok fl=>
  cases fl with
  | ret u=>exact I.after hq
  | next=>exact False.elim hq
  | brk=>exact False.elim hq
  | cont=>exact False.elim hq
theorem qjL (F:qbG X.prog X.w X.K X.mg X.base CX k f fd ps sp) (hr:qcD k X.A) (hg:Gl X x) (hm:X.mg x=some (.ref f)) (hk:PySem.W.keepIn X.K (.ref f)=true) (hb:qfp X.K fd ps ds) (hd:Vals dvs ds) (hx:qgk CX X E)
  (ha:PA X (e::es) t) (hdb:(x==("__debug__" :Str))=false:=by decide) (he:starEach (e::es) X.env=(false,eval e X.env)::starEach es X.env:=by rfl) (hpl:(backTo pos (starEach es X.env)).any (·.1)=false:=by rfl):
  PE X (.Call (.Name x p) (e::es) [] pos) (qpc sp dvs E t):=by
 intro pins s σ H Q I h
 refine wpAny_Call_Name_kw (qj5 I hg hm ?_ hdb)
 refine PySem.W.callWith_K (h₀:=X.base) I.ok.mod.kin hk (thn (ha pos pins s σ H _ I h) fun us s1 ⟨vs,H1,I1,r,q⟩=>⟨I1.kIn,?_⟩) he hpl
 exact qpt F hr hb hd hx I1 r q
structure Mk (K:PySem.W.Frag) (C f:Addr):Prop where
 makes:PySem.W.makesIn K C=true
 init:PySem.W.findIn K (.ref C) "__init__" =some (some (.ref f))
 fn:PySem.W.isFn K (.ref f)=true
 kp:PySem.W.keepIn K (.ref C)=true
end
section
variable {X:Cx} {CX:CXT} {k:Nat} {f C:Addr} {fd:FuncData} {ps ks:List Str} {sp:Sp} {E:XK} {x m:Str} {p pos apos kpos:Pos} {e o:Expr} {es:List Expr} {kws:List Keyword} {te ta:TE} {t tk:TA} {nm:Option Str}
structure qt0 (K:PySem.W.Frag) (fd:FuncData) (ps ks:List Str) (g:List Value→List Value→List Value) (gV:List V→List V→List V):Prop where
 to: ∀(s:Shared) (us ws:List Value),K.In s.heap→(g us ws).length=ps.length→BindsTo s fd ⟨us,ks.zip ws⟩ (ps.zip (g us ws))
 rel: ∀{vs:List V} {us:List Value} {zs:List V} {ws:List Value},Vals vs us→Vals zs ws→Vals (gV vs zs) (g us ws)
variable {g:List Value→List Value→List Value} {gV:List V→List V→List V}
end
structure qas (N P:List Str) (sc:Scope):Prop where
 kind:sc.kind= .function
 co:sc.isCoroutine=false
 gen:sc.isGenerator=false
 nd:N.Nodup
 pre:N.take P.length=P
 par: ∀x∈P,sc.names.lookup x=some .local∨sc.names.lookup x=some .cell
 nofree: ∀y∈sc.names,y.2≠.free
theorem qgg {kindOf:Str→Option NameKind} {x:Str}: ∀{binds:List (Str×Value)} {m:Str→Option Value},(∀v,(x,v)∉binds)→bindL kindOf binds m x=m x
 | [],_,_=>rfl
 | (n,v)::r,m,h=>by
  unfold bindL
  rw[qgg fun w hw=>h w (List.mem_cons_of_mem _ hw)]
  split
  ·have:x≠n:=by rintro rfl; exact h v List.mem_cons_self
   simp[this]
  ·rfl
theorem qgi {kindOf:Str→Option NameKind} {x:Str}: ∀{binds:List (Str×Value)} {m:Str→Option Value},(∀v,(x,v)∉binds)→bindC kindOf binds m x=m x
 | [],_,_=>rfl
 | (n,v)::r,m,h=>by
  unfold bindC
  rw[qgi fun w hw=>h w (List.mem_cons_of_mem _ hw)]
  split
  ·rfl
  ·have:x≠n:=by rintro rfl; exact h v List.mem_cons_self
   simp[this]
theorem qgh {kindOf:Str→Option NameKind} {x:Str} {v:Value}: ∀{P:List Str} {vs:List Value} {i:Nat} {m:Str→Option Value},P.Nodup→P[i]? =some x→vs[i]? =some v→kindOf x=some .local→
  bindL kindOf (P.zip vs) m x=some v
 | [],_,_,_,_,h,_,_=>by simp at h
 | _::_,[],_,_,_,_,h,_=>by simp at h
 | p::P,w::vs,0,m,nd,h1,h2,hk=>by
  simp at h1 h2; subst h1; subst h2
  show bindL kindOf ((p,w)::P.zip vs) m p=_
  unfold bindL
  rw[qgg fun v hv=>(List.nodup_cons.mp nd).1 (List.of_mem_zip hv).1,if_pos hk]
  simp
 | p::P,w::vs,i+1,m,nd,h1,h2,hk=>by
  show bindL kindOf ((p,w)::P.zip vs) m x=_
  unfold bindL
  exact qgh (i:=i) (List.nodup_cons.mp nd).2 (by simpa using h1) (by simpa using h2) hk
theorem qgj {kindOf:Str→Option NameKind} {x:Str} {v:Value}: ∀{P:List Str} {vs:List Value} {i:Nat} {m:Str→Option Value},P.Nodup→P[i]? =some x→vs[i]? =some v→kindOf x≠some .local→
  bindC kindOf (P.zip vs) m x=some v
 | [],_,_,_,_,h,_,_=>by simp at h
 | _::_,[],_,_,_,_,h,_=>by simp at h
 | p::P,w::vs,0,m,nd,h1,h2,hk=>by
  simp at h1 h2; subst h1; subst h2
  show bindC kindOf ((p,w)::P.zip vs) m p=_
  unfold bindC
  rw[qgi fun v hv=>(List.nodup_cons.mp nd).1 (List.of_mem_zip hv).1,if_neg hk]
  simp
 | p::P,w::vs,i+1,m,nd,h1,h2,hk=>by
  show bindC kindOf ((p,w)::P.zip vs) m x=_
  unfold bindC
  exact qgj (i:=i) (List.nodup_cons.mp nd).2 (by simpa using h1) (by simpa using h2) hk
def start (N:List Str) (vs:List V):St:=vs.map some++List.replicate (N.length - vs.length) none
def qoz (CX:CXT) (P:Program) (w:World) (K:PySem.W.Frag) (mg:Str→Option Value) (base:Heap) (N:List Str) (qual:Str) (scope:Scope) (f:Addr) (cd:Value) (A:Around) (outer:List Env) (s:Shared) (H:Hp) (E:XK):Cx where
 prog:=P
 w:=w
 K:=K
 mg:=mg
 base:=base
 A:=A.deeper (envOfC qual scope s.heap.objs.size f cd)
 N:=N
 s₀:=s
 H₀:=H
 env:=envOfC qual scope s.heap.objs.size f cd
 outer:=outer
 stack:=envOfC qual scope s.heap.objs.size f cd::outer
 ex:=[]
 calm:=true
 fn:=fun _=>true
 pn:=[]
 xe:=fun e s'=>wpAny (model P w) (A.deeper (envOfC qual scope s.heap.objs.size f cd)) (leaving (envOfC qual scope s.heap.objs.size f cd) e) (fun _ s''=>CX outer H s E e s'') (fun e' s''=>CX outer H s E e' s'') s'
theorem qh8 {sc:Scope} {n:Nat} {x:Str} (h:sc.names.lookup x=some .cell): ∃c,(cellsFrom n sc.names []).lookup x=some c:=by
 have q:=PySem.W.cellsFrom_some sc.names n [] (.inl h)
 exact Option.isSome_iff_exists.mp q
theorem qkm {CX:CXT} {P:Program} {w:World} {K:PySem.W.Frag} {mg:Str→Option Value} {base:Heap} {N ps:List Str} {qual:Str} {scope:Scope} {f:Addr} {cd:Value} {A:Around} {outer:List Env} {s s1:Shared} {H:Hp} {E:XK} {us:List Value} {vs:List V}
  (S:qas N ps scope) (hd:A.handled=none) (e0:qlf P w K mg base A outer s H) (hl:vs.length=ps.length) (r:Vals vs us)
  (x:InCallC s s.heap.objs.size (bindL (envOfC qual scope s.heap.objs.size f cd).kindOf (ps.zip us) fun _=>none) (cellsFrom (s.heap.objs.size+1) scope.names []) (bindC (envOfC qual scope s.heap.objs.size f cd).kindOf (ps.zip us) fun _=>none) s1):
  Inv (qoz CX P w K mg base N qual scope f cd A outer s H E) [] (start N vs) H s1:=by
 have hpl:ps.length≤N.length:=by have:=congrArg List.length S.pre; rw[List.length_take] at this; lia
 obtain ⟨h1,tk,rfl,hk⟩:=x.done
 have noA: ∀b:Addr,b∉(qoz CX P w K mg base N qual scope f cd A outer s H E).ex:=fun b z=>absurd (show b∈([]:List Addr) from z) (by simp)
 refine ⟨⟨e0.mod,S.kind,rfl,rfl,Nat.le_refl _,fun y z c h1 h2=> ?_,fun y hy=> ?_,fun y c _ h=> ?_,fun _=>hd,Around.frames_deeper e0.frames,.inr ⟨rfl,rfl⟩,fun b z=>absurd z (noA b),e0.bs,e0.bsz,fun b _ _=>noA b,fun b z=>absurd z (noA b),e0.funs,e0.frf⟩,
  rfl,e0.bare,Un.kept hk,⟨_,x.toInCall.ns,fun i y v h1 h2 h3=> ?_⟩,fun y c h=>⟨_,x.cell y c h⟩,e0.hok.fresh (Nat.le_refl _),fun y c h=> ?_,fun p hp=>absurd (show p∈([]:List (Addr×Obj)) from hp) (by simp),e0.hok.kept hk,?_⟩
 ·exact name_of_addr x.apart (PySem.mem_of_lookup h1) (PySem.mem_of_lookup h2)
 ·have hy:scope.names.lookup y=some .cell∨scope.names.lookup y=some .free:=hy
  rcases hy with hy | hy
  ·exact qh8 hy
  ·exact absurd rfl (S.nofree _ (PySem.mem_of_lookup hy))
 ·exact Nat.le_of_lt (x.above y c (PySem.mem_of_lookup h))
 ·have hi:i<vs.length:=by
   unfold start at h2
   by_cases hi:i<vs.length
   ·exact hi
   ·rw[List.getElem?_append_right (by simpa using hi)] at h2
    rw[List.getElem?_replicate] at h2
    split at h2<;>cases h2
  have ha:vs[i]? =some v:=by
   unfold start at h2
   rw[List.getElem?_append_left (by simpa using hi),List.getElem?_map] at h2
   cases e:vs[i]? with
   | none=>rw[e] at h2; cases h2
   | some a=>rw[e] at h2; cases h2; rfl
  obtain ⟨u,hu,rv⟩:=r.get ha
  have hp:ps[i]? =some y:=by
   rw[←S.pre,List.getElem?_take_of_lt (by lia)]; exact h1
  have ndP:ps.Nodup:=by rw[←S.pre]; exact S.nd.sublist (List.take_sublist _ _)
  refine ⟨u,rv,?_⟩
  rcases S.par y (List.mem_of_getElem? hp) with k | k
  ·exact .inl ⟨k,qgh ndP hp hu k⟩
  ·obtain ⟨c,e⟩:=qh8 (n:=s.heap.objs.size+1) k
   refine .inr ⟨.inl k,c,e,?_⟩
   have q:=x.cell y c e
   rw[qgj ndP hp hu (by show scope.names.lookup y≠_; rw[k]; decide)] at q
   exact q
 ·exact e0.hok.fresh (Nat.le_of_lt (x.above y c (PySem.mem_of_lookup h)))
 ·unfold start
  show _=N.length
  rw[List.length_append,List.length_map,List.length_replicate]
  lia
theorem qom {CX:CXT} {P:Program} {w:World} {K:PySem.W.Frag} {mg:Str→Option Value} {base:Heap} {k:Nat} {f:Addr} {name qual:Str} {params:Arguments} {body:List Stmt} {scope:Scope} {dV kV doc pm cdv ct oc:Value} {an od:Option Addr}
  {osl:Array (Option Value)} {N ps:List Str} {sp:Sp} (lk:K.lookup f=some ⟨oc,od,.func (PySem.W.fnOf name qual params body scope dV kV doc pm an cdv ct),osl⟩) (hcd:PySem.W.codeIn K cdv qual=true) (S:qas N ps scope)
  (len: ∀vs H Q E,sp vs H Q E→vs.length=ps.length)
  (hbody: ∀(A:Around) (outer:List Env) (s:Shared) (H:Hp) (vs:List V) (Q:VK) (E:XK),qcD k (A.deeper (envOfC qual scope s.heap.objs.size f cdv))→sp vs H Q E→
   ∃t,PSs (qoz CX P w K mg base N qual scope f cdv A outer s H E) body t∧t { nx:=fun _ H'=>Q .non H',rt:=Q } (start N vs) H):
  qbG P w K mg base CX (k+1) f (PySem.W.fnOf name qual params body scope dV kV doc pm an cdv ct) ps sp:=by
 refine ⟨len,fun A outer s H args us vs Q E hr e0 hb r hsp=> ?_⟩
 have hl:=len _ _ _ _ hsp
 have KX:K.In s.heap:=e0.mod.kin.keeps fun b o e=>(e0.bs b o e).1
 have lim:s.heap.NoLimit:=e0.mod.nolimit.keeps fun b o e=>(e0.bs b o e).1
 have hkind: ∀y∈ps.zip us,scope.names.lookup y.1=some .local∨(scope.names.lookup y.1=some .cell∧((cellsFrom (s.heap.objs.size+1) scope.names []).lookup y.1).isSome=true):=fun ⟨n,v⟩ hy=>by
  rcases S.par n (List.of_mem_zip hy).1 with q | q
  ·exact .inl q
  ·exact .inr ⟨q,PySem.W.cellsFrom_some _ _ _ (.inl q)⟩
 refine codeAny_call_function hr.depth (KX _ _ lk) rfl S.co S.gen rfl (PySem.W.codeRec_of KX hcd) (hb _ _ _ _ ?_)
 refine wpAny_newFunctionEnv_cells S.kind hkind fun env he s1 x=> ?_
 subst he
 refine ⟨lim.keeps x.toInCall.keep,codeAny_func ?_⟩
 obtain ⟨t,ht,hq⟩:=hbody A outer s H vs Q E (hr.deeper _) hsp
 have I:Inv (qoz CX P w K mg base N qual scope f cdv A outer s H E) [] (start N vs) H s1:=qkm S hr.hd e0 hl r x
 refine wpAny_mono (ht [] s1 (start N vs) H _ I hq) (fun fl s' hs=> ?_) fun e s' hs=>hs
 have fin: ∀{σ':St} {H':Hp} {v:V} {u:Value},Inv (qoz CX P w K mg base N qual scope f cdv A outer s H E) [] σ' H' s'→RelV v u→Q v H'→CE outer P w H s Q u s':=
  fun {σ' H' v u} J rv q=>⟨v,H',J.os,J.bare,J.base,J.hok,rv,q⟩
 cases fl with
 | ret u=>
  obtain ⟨v,σ',H',J,rv,q⟩:=hs
  exact fin J rv q
 | next=>
  obtain ⟨σ',H',J,q⟩:=hs
  exact fin (v:=V.non) (u:=Value.none) J rfl q
 | brk=>
  obtain ⟨_,_,_,q⟩:=hs
  exact False.elim q
 | cont=>
  obtain ⟨_,_,_,q⟩:=hs
  exact False.elim q
end L2
namespace L2
open PySem PySem.Spec PyProof.Rows
section
variable {X:Cx} {x:Str} {p pos:Pos} {e:Expr} {es:List Expr} {t:TA} {id T:String} {r:List V→Hp→VK→Prop}
def tCB (r:List V→Hp→VK→Prop) (t:TA):TE:=fun σ H Q=>t σ H fun vs H1=>r vs H1 Q
theorem qaO (hc:qdC X (.builtin id) r) (hg:Gl X x) (hm:X.mg x=none) (hv:bootBuiltins x=some (.builtin id)) (ha:PA X (e::es) t) (hn:x≠ "__name__" :=by decide) (hdb:(x==("__debug__" :Str))=false:=by decide)
  (he:starEach (e::es) X.env=(false,eval e X.env)::starEach es X.env:=by rfl) (hpl:(backTo pos (starEach es X.env)).any (·.1)=false:=by rfl):PE X (.Call (.Name x p) (e::es) [] pos) (tCB r t):=by
 intro pins s σ H Q I h
 refine wpAny_Call_Name_kw (qcw I hg hm hv ?_ hn hdb)
 exact PyProof.Rows.callWith_builtin1 (thn (ha pos pins s σ H _ I h) fun us s1 ⟨vs,H1,I1,r1,q1⟩=>hc pins s1 σ H1 vs us Q I1 r1 q1) he hpl
end
end L2
namespace HT
open PySem PyProof.Rows
section
open PySem.SeqAt
open PySem.AutoSeq1 (wpAny_loadPart')
open PySem.MeetsSeq PySem.MeetsSeq2 PySem.MeetsSeq3
end
section
variable {prog:Program} {w:World} {A:Around} {E:Value→Shared→Prop} {s:Shared}
theorem cat_tup {t b:Addr} {vs ws:List Value} {Q:Value→Shared→Prop} (ht:IsTup s.heap t vs.toArray) (hb:IsTup s.heap b ws.toArray) (hv:vs≠[])
  (h1:ws=[]→Q (.ref t) s) (h2:ws≠[]→Q (.ref s.heap.objs.size) { s with heap:=s.heap.push { cls:=.type "tuple",data:=.seq (vs++ws).toArray } })
  (hsz:vs.length+ws.length≤sizeLine):wpAny (model prog w) A (binaryOp .Add (.ref t) (.ref b)) Q E s:=by
 obtain ⟨⟨cls,dd,data,sl⟩,ho,hc,n,hd⟩:=id ht
 obtain ⟨⟨cls2,dd2,data2,sl2⟩,ho2,hc2,n2,hd2⟩:=id hb
 simp only at hc hd hc2 hd2
 subst hc hd hc2 hd2
 have e:vs.toArray++ws.toArray=(vs++ws).toArray:=by simp
 by_cases hw:ws=[]
 ·exact concat_meets ⟨_,ho,rfl⟩ ⟨_,ho2,rfl⟩ noFill_tuple_add seq_tuple_add PySem.F.slot_tuple_add PySem.F.entry_tuple_add (PySem.F.args_tuple_add_2 _ _)
   (tuple_addW1 t b vs.toArray ws.toArray n n2 dd dd2 sl sl2 (by simpa using hv) (by simp[hw])) ⟨ho,ho2,h1 hw⟩
 ·refine concat_meets ⟨_,ho,rfl⟩ ⟨_,ho2,rfl⟩ noFill_tuple_add seq_tuple_add PySem.F.slot_tuple_add PySem.F.entry_tuple_add (PySem.F.args_tuple_add_2 _ _)
   (tuple_addW2 t b vs.toArray ws.toArray n n2 dd dd2 sl sl2 (by simpa using hv) (by simpa using hw) (by rw[List.size_toArray,List.size_toArray]; exact hsz)) ⟨ho,ho2,?_⟩
  rw[e]
  exact h2 hw
def sIx (n d:Nat):Option Int→Nat
 | none=>d
 | some v=>if v<0 then (v+(n:Int)).toNat else min v.toNat n
theorem sIx_none (n d:Nat):sIx n d none=d:=rfl
theorem sIx_nat (n d k:Nat):sIx n d (some (k:Int))=min k n:=by
 show (if (k:Int)<0 then ((k:Int)+(n:Int)).toNat else min (k:Int).toNat n)=min k n
 rw[if_neg (by lia),Int.toNat_natCast]
theorem qps (n d:Nat) (hd:d≤n) (o:Option Int):sIx n d o≤n:=by
 cases o with
 | none=>exact hd
 | some v=>
  show (if v<0 then (v+(n:Int)).toNat else min v.toNat n)≤n
  by_cases hv:v<0
  ·rw[if_pos hv]; lia
  ·rw[if_neg hv]; exact Nat.min_le_right _ _
theorem qkW (v:Int) (n d:Nat):(if v<0 then max (v+(n:Int)) 0 else min v (n:Int))=((sIx n d (some v):Nat):Int):=by
 show (if v<0 then max (v+(n:Int)) 0 else min v (n:Int))=(((if v<0 then (v+(n:Int)).toNat else min v.toNat n):Nat):Int)
 by_cases hv:v<0
 ·simp only[if_pos hv]; lia
 ·simp only[if_neg hv]; lia
theorem qiX (lo hi:Option Int) (n:Nat):Builtin.Slice.sliceAdjust lo hi 1 (n:Int)=(((sIx n 0 lo:Nat):Int),((sIx n n hi:Nat):Int)):=by
 have h1: ¬((1:Int)<0):=by lia
 unfold Builtin.Slice.sliceAdjust
 simp only[h1,if_false]
 refine Prod.ext ?_ ?_
 ·cases lo with
  | none=>rfl
  | some v=>exact qkW v n 0
 ·cases hi with
  | none=>rfl
  | some v=>exact qkW v n n
theorem qis (i j:Nat):Builtin.Slice.slicePlaces (i:Int) (j:Int) 1=j - i:=by
 unfold Builtin.Slice.slicePlaces
 have h1:(1:Int)>0:=by lia
 simp only[h1,if_true,Int.ediv_one]
 split<;>lia
theorem qes {v:Value} {o:Option Int} {Q:Option Int→Shared→Prop} (p:IsPart v o) (h:Q o s):wpAny (model prog w) A (Builtin.Slice.slicePartIndex v) Q E s:=by
 cases p with
 | none=>exact slicePart_none h
 | int i t=>exact slicePart_int h
theorem qdy {sl:Addr} {vl vu:Value} {lo hi:Option Int} {n:Nat} {Q:Int×Int×Nat→Shared→Prop} (hs:s.heap.IsSliceOf sl vl vu .none) (pl:IsPart vl lo) (pu:IsPart vu hi)
  (h:Q (((sIx n 0 lo:Nat):Int),1,sIx n n hi - sIx n 0 lo) s):wpAny (model prog w) A (Builtin.Slice.sliceApplied (.ref sl) (pure (n:Int))) Q E s:=by
 obtain ⟨os,hos,hcs,hds⟩:=id hs
 unfold Builtin.Slice.sliceApplied Builtin.Slice.sliceFields
 refine wpAny_bind (wpAny_bind (wpAny_field hos hds (x:=vl) rfl (wpAny_bind (wpAny_field hos hds (x:=vu) rfl (wpAny_bind (wpAny_field hos hds (x:=.none) rfl (wpAny_pure ?_)))))))
 refine wpAny_bind (slicePart_none ?_)
 show wpAny _ _ (if ((1:Int)==0)=true then _ else _) _ _ s
 rw[if_neg (by decide)]
 refine wpAny_bind (qes pl (wpAny_bind (qes pu (wpAny_bind (wpAny_pure ?_)))))
 show wpAny _ _ (match Builtin.Slice.sliceAdjust lo hi 1 (n:Int) with | (lo,hi)=>pure (lo,(1:Int),Builtin.Slice.slicePlaces lo hi 1)) _ _ s
 rw[qiX lo hi n]
 show wpAny _ _ (pure (((sIx n 0 lo:Nat):Int),(1:Int),Builtin.Slice.slicePlaces ((sIx n 0 lo:Nat):Int) ((sIx n n hi:Nat):Int) 1)) _ _ s
 rw[qis]
 exact wpAny_pure h
theorem qlR (xs:Array Value) (i k:Nat):((List.range k).filterMap fun (m:Nat)=>xs[((i:Int)+(m:Int)*1).toNat]?).toArray=((xs.toList.drop i).take k).toArray:=by
 have e:(fun (m:Nat)=>xs[((i:Int)+(m:Int)*1).toNat]?)=fun m=>xs[i+m]? :=by
  funext m
  have:((i:Int)+(m:Int)*1).toNat=i+m:=by lia
  rw[this]
 rw[e]
 have:=pick_run xs i k
 rw[List.filterMap_map] at this
 have e2:((fun x=>xs[x]?)∘fun x=>i+x)=fun m=>xs[i+m]? :=rfl
 rw[e2] at this
 rw[this]
theorem getItem_tuple_cut {t sl:Addr} {items:Array Value} {vl vu:Value} {lo hi:Option Int} {Q:Value→Shared→Prop} (ht:IsTup s.heap t items) (hs:s.heap.IsSliceOf sl vl vu .none) (pl:IsPart vl lo) (pu:IsPart vu hi)
  (hw: ¬(sIx items.size 0 lo=0∧sIx items.size items.size hi=items.size))
  (h:Q (.ref s.heap.objs.size) { s with heap:=s.heap.push { cls:=.type "tuple",data:=.seq ((items.toList.drop (sIx items.size 0 lo)).take (sIx items.size items.size hi - sIx items.size 0 lo)).toArray } })
  (hsz:items.size≤sizeLine):wpAny (model prog w) A (getItem (.ref t) (.ref sl)) Q E s:=by
 have htake:sizeOk (.seq ((items.toList.drop (sIx items.size 0 lo)).take (sIx items.size items.size hi - sIx items.size 0 lo)).toArray):=by
  show ((items.toList.drop (sIx items.size 0 lo)).take (sIx items.size items.size hi - sIx items.size 0 lo)).toArray.size≤sizeLine
  rw[List.size_toArray,List.length_take,List.length_drop,Array.length_toList]
  lia
 have hj:sIx items.size items.size hi≤items.size:=qps _ _ (Nat.le_refl _) hi
 obtain ⟨os,hos,hcs,hds⟩:=id hs
 have hTs:s.TypeIs (.ref sl) "slice" :=⟨os,hos,hcs⟩
 unfold getItem
 try with_reducible refine wpAny_holding ?_
 first | refine wpAny_bind (wpAny_pure ?_) | skip
 refine wpAny_bind (wpAny_sequenceKey ht.typeIs (by decide) ?_)
 refine wpAny_bind (wpAny_callSpecial?_slot (name:=Str.ofString "__getitem__") ht.typeIs PyProof.Rows.slot_tuple_getitem
  (wpAny_call_entry PyProof.Rows.slot_tuple_getitem ht.typeIs entry_tuple_getitem ?_ (args_tuple_getitem _ _)))
 show wpAny _ _ (Builtin.Tuple.tupleItemsOf (.ref t)>>=_) _ _ s
 refine wpAny_bind (tupleItemsOf_ ht ?_)
 refine wpAny_bind (wpAny_typeOf hTs ?_)
 rw[if_pos (by decide)]
 refine wpAny_bind (qdy hs pl pu ?_)
 have hno: ¬((((sIx items.size 0 lo:Nat):Int)==0&&(1:Int)==1&&(sIx items.size items.size hi - sIx items.size 0 lo)==items.size)=true):=by
  intro q
  rw[Bool.and_eq_true,Bool.and_eq_true] at q
  have q1:((sIx items.size 0 lo:Nat):Int)=0:=eq_of_beq q.1.1
  have q2:sIx items.size items.size hi - sIx items.size 0 lo=items.size:=eq_of_beq q.2
  exact hw ⟨by lia,by lia⟩
 show wpAny _ _ (if (((sIx items.size 0 lo:Nat):Int)==0&&(1:Int)==1&&(sIx items.size items.size hi - sIx items.size 0 lo)==items.size)=true then _ else _) _ _ s
 rw[if_neg hno,qlR]
 first
  | exact wpAny_bind (m:=Builtin.Tuple.tupleExact _) (wpAny_newObj_type (wpAny_pure ⟨_,rfl,wpAny_pure h⟩) htake)
  | exact wpAny_bind (m:=Builtin.Tuple.tupleExact _) (wpAny_newObj_type (wpAny_bind (wpAny_pure (wpAny_pure ⟨_,rfl,wpAny_pure h⟩))) htake)
  | exact wpAny_bind (wpAny_bind (m:=Builtin.Tuple.tupleExact _) (wpAny_newObj_type (wpAny_pure (wpAny_pure ⟨_,rfl,wpAny_pure h⟩)) htake))
  | exact wpAny_bind (wpAny_bind (m:=Builtin.Tuple.tupleExact _) (wpAny_newObj_type (wpAny_pure ⟨_,rfl,wpAny_pure h⟩) htake))
end
end HT
namespace L2
open PySem PySem.Spec PyProof.Rows
abbrev TO:=St→Hp→(Option Int→Hp→Prop)→Prop
def PO (X:Cx) (e:Option Expr) (t:TO):Prop:=
 ∀(pins:List (Addr×Obj)) (s:Shared) (σ:St) (H:Hp) (Q:Option Int→Hp→Prop),Inv X pins σ H s→t σ H Q→
  wpAny (model X.prog X.w) X.A (evalPart e X.env) (fun u s'=> ∃o H',Inv X pins σ H' s'∧IsPart u o∧Q o H') X.xe s
def qnz:TO:=fun _ H Q=>Q none H
def qri (t:TE):TO:=fun σ H Q=>t σ H fun x H1=> ∃i,x= .int i∧Q (some i) H1
section
variable {X:Cx} {e:Expr} {te:TE} {lo hi:Option Expr} {tl th:TO} {pos p2:Pos}
theorem qnR:PO X none qnz:=by
 intro pins s σ H Q I h
 rw[evalPart_none]
 exact wpAny_pure ⟨none,H,I,.none,h⟩
theorem qnQ (h:PE X e te):PO X (some e) (qri te):=by
 intro pins s σ H Q I hw
 rw[evalPart_some]
 refine thn (h pins s σ H _ I hw) fun u s1 hq3455=> ?_
 obtain ⟨x,H1,I1,r1,q1⟩:=hq3455
 obtain ⟨i,rfl,q⟩:=q1
 obtain ⟨t,rfl⟩:=r1
 exact ⟨some i,H1,I1,.int i t,q⟩
def SlR (X:Cx) (r:V→Option Int→Option Int→Hp→VK→Prop):Prop:=
 ∀(pins:List (Addr×Obj)) (s:Shared) (σ:St) (H:Hp) (x:V) (v vl vu:Value) (lo hi:Option Int) (sl:Addr) (Q:VK),Inv X pins σ H s→RelV x v→s.heap.IsSliceOf sl vl vu .none→IsPart vl lo→IsPart vu hi→r x lo hi H Q→
  ∃T id,typeLookup (.type T) "__getitem__" =pure (some (.builtin id))∧s.TypeIs v T∧wpAny (model X.prog X.w) X.A (getItem v (.ref sl)) (EP X pins σ Q) X.xe s
def tSl (r:V→Option Int→Option Int→Hp→VK→Prop) (te:TE) (tl th:TO):TE:=fun σ H Q=>te σ H fun x H1=>tl σ H1 fun l H2=>th σ H2 fun u H3=>r x l u H3 Q
theorem qhv {r:V→Option Int→Option Int→Hp→VK→Prop} (hr:SlR X r) (he:PE X e te) (hl:PO X lo tl) (hu:PO X hi th):PE X (.Subscript e (.Slice lo hi none p2) pos) (tSl r te tl th):=by
 intro pins s σ H Q I h
 refine Subscript_ (thn (he pins s σ H _ I h) fun v s1 ⟨x,H1,I1,r1,q1⟩=> ?_)
 refine wpAny_Slice (thn (hl pins s1 σ H1 _ I1 q1) fun vl s2 ⟨l,H2,I2,pl,q2⟩=>thn (hu pins s2 σ H2 _ I2 q2) fun vu s3 ⟨u,H3,I3,pu,q3⟩=> ?_)
 rw[evalPart_none]
 refine wpAny_pure ?_
 have I4:Inv X pins σ H3 { s3 with heap:=s3.heap.push { cls:=.type "slice",data:=.fields #[vl,vu,.none] } }:=I3.kept (t':=s3.toks) fun b ob q=>Heap.get?_push_of_some _ q
 obtain ⟨T,id,hT,ht,hg⟩:=hr pins { s3 with heap:=s3.heap.push { cls:=.type "slice",data:=.fields #[vl,vu,.none] } } σ H3 x v vl vu l u s3.heap.objs.size Q I4 r1 (Heap.IsSliceOf.new ..) pl pu q3
 show wpAny (model X.prog X.w) X.A (subscriptTail e (.Slice lo hi none p2) v (.ref s3.heap.objs.size)) (EP X pins σ Q) X.xe { s3 with heap:=s3.heap.push { cls:=.type "slice",data:=.fields #[vl,vu,.none] } }
 exact tail_any (ops:=[.ref s3.heap.objs.size,v]) ht hT hg (by with_unfolding_all rfl)
def qkU (xs:List V) (lo hi:Option Int):List V:=(xs.drop (HT.sIx xs.length 0 lo)).take (HT.sIx xs.length xs.length hi - HT.sIx xs.length 0 lo)
theorem qee (xs:List V) (lo hi:Option Int):(qkU xs lo hi).length≤xs.length:=by
 unfold qkU
 rw[List.length_take,List.length_drop]
 lia
def qum (K:PySem.W.Frag):V→Option Int→Option Int→Hp→VK→Prop:=fun x lo hi H Q=> ∃a xs,x= .ref a∧SqT K H a xs∧
 ¬(HT.sIx xs.length 0 lo=0∧HT.sIx xs.length xs.length hi=xs.length)∧∀p,H p=none→Q (.ref p) (upd H p (.tup (qkU xs lo hi)))
theorem qph:SlR X (qum X.K):=by
 intro pins s σ H x v vl vu lo hi sl Q I rx hs pl pu h
 obtain ⟨a,xs,rfl,hx,hw,q⟩:=h
 cases rx
 obtain ⟨its,r,ht,hz⟩:=I.tuple hx
 have hlen:its.toArray.size=xs.length:=by rw[List.size_toArray]; exact r.length.symm
 refine ⟨"tuple",_,PyProof.Rows.slot_tuple_getitem.lookup,ht.typeIs,?_⟩
 refine HT.getItem_tuple_cut ht hs pl pu (by rw[hlen]; exact hw) ?_ (by rw[hlen]; exact hz)
 rw[hlen]
 refine ⟨.ref s.heap.objs.size,_,I.laid (t':=s.toks) (o:=.tup (qkU xs lo hi)) (fun b ob q=>Heap.get?_push_of_some _ q) (Nat.le_refl _) ?_,rfl,q _ (I.hok.fresh (Nat.le_refl _))⟩
 exact ⟨Nat.le_trans (qee xs lo hi) hz,_,(r.drop (HT.sIx xs.length 0 lo)).take (HT.sIx xs.length xs.length hi - HT.sIx xs.length 0 lo),IsTup.new _ _⟩
def qpz (K:PySem.W.Frag):R2:=fun x y H Q=> ∃a b xs ys,x= .ref a∧y= .ref b∧SqT K H a xs∧SqT K H b ys∧xs≠[]∧xs.length+ys.length≤sizeLine∧
 (ys=[]→Q (.ref a) H)∧(ys≠[]→∀p,H p=none→Q (.ref p) (upd H p (.tup (xs++ys))))
theorem Vals.nil_iff {xs:List V} {us:List Value} (r:Vals xs us):us=[]↔xs=[]:=by
 cases r with
 | nil=>simp
 | cons _ _=>simp
theorem qn2:OpR X (binaryOp .Add) (qpz X.K):=by
 intro pins s σ H x y v u Q I rx ry h
 obtain ⟨a,b,xs,ys,rfl,rfl,ha,hb,hx,hz,q1,q2⟩:=h
 cases rx
 cases ry
 obtain ⟨its,r1,p1,_⟩:=I.tuple ha
 obtain ⟨its2,r2,p2,_⟩:=I.tuple hb
 refine HT.cat_tup p1 p2 (fun z=>hx (r1.nil_iff.mp z)) (fun z=>⟨.ref a,H,I,rfl,q1 (r2.nil_iff.mp z)⟩) (fun z=> ?_) (by rw[←r1.length,←r2.length]; exact hz)
 refine ⟨.ref s.heap.objs.size,_,I.laid (t':=s.toks) (o:=.tup (xs++ys)) (fun b ob q=>Heap.get?_push_of_some _ q) (Nat.le_refl _) ?_,rfl,q2 (fun w=>z (r2.nil_iff.mpr w)) _ (I.hok.fresh (Nat.le_refl _))⟩
 exact ⟨by rw[List.length_append]; exact hz,_,r1.append r2,IsTup.new _ _⟩
end
end L2
namespace L2
open PySem PySem.Spec PyProof.Rows
def ixN (n:Nat) (i:Int):Option Nat:=if 0≤i then (if i<n then some i.toNat else none) else if -(n:Int)≤i then some (i+n).toNat else none
def atI {α:Type} (xs:List α) (i:Int):Option α:=(ixN xs.length i).bind fun j=>xs[j]?
theorem qkh {n:Nat} {i:Int} {j:Nat} (h:ixN n i=some j):seqIndex? i n=some j∧j<n∧ -(n:Int)≤i∧i<n:=by
 unfold ixN at h
 by_cases h0:0≤i
 ·rw[if_pos h0] at h
  by_cases h1:i<n
  ·rw[if_pos h1] at h
   have e:i.toNat=j:=Option.some.inj h
   exact ⟨by rw[seqIndex_of h0 h1,e],by lia,by lia,h1⟩
  ·rw[if_neg h1] at h; cases h
 ·rw[if_neg h0] at h
  by_cases h1: -(n:Int)≤i
  ·rw[if_pos h1] at h
   have e:(i+n).toNat=j:=Option.some.inj h
   exact ⟨by rw[seqIndex_neg (by lia) h1,e],by lia,h1,by lia⟩
  ·rw[if_neg h1] at h; cases h
theorem qhc {α:Type} {xs:List α} {i:Int} {v:α} (h:atI xs i=some v): ∃j,seqIndex? i xs.length=some j∧xs[j]? =some v∧j<xs.length∧ -(xs.length:Int)≤i∧i<xs.length:=by
 unfold atI at h
 cases e:ixN xs.length i with
 | none=>rw[e] at h; cases h
 | some j=>
  rw[e] at h
  obtain ⟨h1,h2,h3,h4⟩:=qkh e
  exact ⟨j,h1,h,h2,h3,h4⟩
theorem qk9 {α:Type} {xs:List α} {j:Nat} {v:α} (h:xs[j]? =some v):atI xs (j:Int)=some v:=by
 have hj:j<xs.length:=(List.getElem?_eq_some_iff.mp h).1
 have e:ixN xs.length (j:Int)=some j:=by
  unfold ixN
  rw[if_pos (by lia),if_pos (by lia)]; simp
 unfold atI; rw[e]; exact h
def qhg (b:Expr):Prop:= ∀o i,subscripted b false o i=operate [o,i] (getItem o i)
def IxR (X:Cx) (r:R2):Prop:=
 ∀(value slice:Expr) (pins:List (Addr×Obj)) (s:Shared) (σ:St) (H:Hp) (x y:V) (v u:Value) (Q:VK),Inv X pins σ H s→RelV x v→RelV y u→r x y H Q→
  subscripted slice false v u=operate [v,u] (getItem v u)→wpAny (model X.prog X.w) X.A (subscriptTail value slice v u) (EP X pins σ Q) X.xe s
def MtR (X:Cx) (id:String) (r:V→List V→Hp→VK→Prop):Prop:=
 ∀(pins:List (Addr×Obj)) (s:Shared) (σ:St) (H:Hp) (x:V) (xs:List V) (v:Value) (us:List Value) (Q:VK),Inv X pins σ H s→RelV x v→Vals xs us→r x xs H Q→
  wpAny (model X.prog X.w) X.A (call (.builtin id) (v::us)) (EP X pins σ Q) X.xe s
section
variable {X:Cx} {a b:Expr} {ta tb:TE} {pos:Pos}
theorem IxR.or {r r':R2} (h:IxR X r) (h':IxR X r'):IxR X (fun x y H Q=>r x y H Q∨r' x y H Q):=by
 intro value slice pins s σ H x y v u Q I rx ry q hs
 rcases q with q | q
 ·exact h value slice pins s σ H x y v u Q I rx ry q hs
 ·exact h' value slice pins s σ H x y v u Q I rx ry q hs
theorem qlV {r:R2} (hr:IxR X r) (ha:PE X a ta) (hb:PE X b tb) (hs:qhg b):PE X (.Subscript a b pos) (tOp r ta tb):=by
 intro pins s σ H Q I h
 exact Subscript_ (qs3 ha hb I h fun v u s2 x y H2 I2 rx ry q=>hr a b pins s2 σ H2 x y v u Q I2 rx ry q (hs _ _))
def qr3 (K:PySem.W.Frag):R2:=fun x y H Q=> ∃p xs i v,x= .ref p∧y= .int i∧SqL K H p xs∧atI xs i=some v∧Q v H
def qth (K:PySem.W.Frag):R2:=fun x y H Q=> ∃p xs i v,x= .ref p∧y= .int i∧SqT K H p xs∧atI xs i=some v∧Q v H
def qti:R2:=fun x y H Q=> ∃z i c,x= .str z∧y= .int i∧z.length≤sizeLine∧atI z.cps.toList i=some c∧Q (.str ⟨#[c]⟩) H
theorem qkg:IxR X (qr3 X.K):=by
 intro value slice pins s σ H x y v u Q I rx ry h hs
 obtain ⟨p,xs,i,z,rfl,rfl,hq,he,q⟩:=h
 cases rx
 obtain ⟨t,rfl⟩:=ry
 obtain ⟨its,r,pl,hz⟩:=I.list hq
 obtain ⟨j,h1,h2,h3,h4,h5⟩:=qhc he
 obtain ⟨w,ew,rw'⟩:=r.get h2
 have hl:=r.length
 have hn:=qc4
 have fin:EP X pins σ Q w s:=⟨z,H,I,rw',q⟩
 by_cases h0:0≤i
 ·have hj:i.toNat=j:=by
   rw[seqIndex_of h0 h5] at h1
   exact Option.some.inj h1
  exact item_listR pl.isList h0 (by lia) (by rw[hj]; simpa using ew) fin hs
 ·have hj:(i+(its.toArray.size:Int)).toNat=j:=by
   rw[seqIndex_neg (by lia) h4] at h1
   rw[List.size_toArray,←hl]
   exact Option.some.inj h1
  exact subscriptTail_builtinR (x:=w) pl.isList.typeIs slot_list_getitem.lookup
   (wpAny_getItem_list_neg (Q:=fun r s'=>r=w∧EP X pins σ Q r s') pl.isList (by lia) (by rw[List.size_toArray]<;>lia) (by lia) (by rw[hj]; simpa using ew) ⟨rfl,fin⟩) hs
theorem qqd:IxR X (qth X.K):=by
 intro value slice pins s σ H x y v u Q I rx ry h hs
 obtain ⟨p,xs,i,z,rfl,rfl,hq,he,q⟩:=h
 cases rx
 obtain ⟨t,rfl⟩:=ry
 obtain ⟨its,r,pl,hz⟩:=I.tuple hq
 obtain ⟨j,h1,h2,h3,h4,h5⟩:=qhc he
 obtain ⟨w,ew,rw'⟩:=r.get h2
 have hl:=r.length
 have hn:=qc4
 have fin:EP X pins σ Q w s:=⟨z,H,I,rw',q⟩
 exact subscriptTail_builtinR (x:=w) pl.typeIs slot_tuple_getitem.lookup
  (getItem_tuple (j:=j) (Q:=fun r s'=>r=w∧EP X pins σ Q r s') pl (by lia) (by lia) (by rw[List.size_toArray,←hl]; exact h1) (by simpa using ew) ⟨rfl,fin⟩) hs
theorem qqe:IxR X qti:=by
 intro value slice pins s σ H x y v u Q I rx ry h hs
 obtain ⟨z,i,c,rfl,rfl,hz,he,q⟩:=h
 obtain ⟨t,rfl⟩:=rx
 obtain ⟨t',rfl⟩:=ry
 obtain ⟨j,h1,h2,h3,h4,h5⟩:=qhc he
 have hl:z.cps.toList.length=z.length:=by simp[Str.length]
 rw[hl] at h1 h4 h5
 have hn:=qc4
 exact tail_any (typeIs_str s z t) slot_str_getitem.lookup (getItem_str (c:=c) (by
  have e1:decide (i< -(2 ^ 63:Int))=false:=decide_eq_false (by lia)
  have e2:decide (i≥2 ^ 63)=false:=decide_eq_false (by lia)
  rw[e1,e2,Bool.or_false]) (by rw[h1]; simpa using h2) ⟨.str ⟨#[c]⟩,H,I.tok _,⟨_,rfl⟩,q⟩) hs
def rIx (K:PySem.W.Frag):R2:=fun x y H Q=>qr3 K x y H Q∨qth K x y H Q∨qti x y H Q
theorem qaB:IxR X (rIx X.K):=qkg.or (qqd.or qqe)
theorem qiy (its:List Value) (n j:Nat) (u:Value):Obj.mapSeq (·.setIfInBounds j u) { cls:=.type "list",data:=.seq its.toArray n }={ cls:=.type "list",data:=.seq (its.set j u).toArray n }:=by
 simp[Obj.mapSeq]
theorem Inv.lst {pins:List (Addr×Obj)} {σ:St} {H:Hp} {s:Shared} {p:Addr} {xs:List V} (I:Inv X pins σ H s) (h:H p=some (.lst xs)):
  ∃(its:List Value) (n:Nat),Vals xs its∧s.heap.get? p=some { cls:=.type "list",data:=.seq its.toArray n }∧xs.length≤sizeLine:=by
 obtain ⟨z,its,n,r,e⟩:=I.hok p _ h
 exact ⟨its,n,r,e,z⟩
theorem Inv.lstUpd {pins:List (Addr×Obj)} {σ:St} {H:Hp} {s:Shared} {p:Addr} {xs ys:List V} {its its':List Value} {n n':Nat} {f:Obj→Obj} (I:Inv X pins σ H s) (h:H p=some (.lst xs))
  (ho:s.heap.get? p=some { cls:=.type "list",data:=.seq its.toArray n }) (hf:f { cls:=.type "list",data:=.seq its.toArray n }={ cls:=.type "list",data:=.seq its'.toArray n' }) (r:Vals ys its') (hz:ys.length≤sizeLine) (t:Nat):
  Inv X pins σ (upd H p (.lst ys)) { s with heap:=s.heap.update p f,toks:=t }:=by
 have e:(s.heap.update p f).get? p=some { cls:=.type "list",data:=.seq its'.toArray n' }:=by
  rw[Heap.get?_update_self f ho (by rw[hf]<;>rfl),hf]
 refine I.write (x:=p) (e:=p) (by rw[h]; trivial) (.inl rfl) (fun b u hb q=>(Heap.get?_update_other _ _ (Ne.symm hb)).trans q) ⟨_,e⟩ ?_
 exact ⟨hz,its',n',r,e⟩
def qpy:V→V→V→Hp→(Hp→Prop)→Prop:=fun o i v H Q=> ∃p xs k j,o= .ref p∧i= .int k∧H p=some (.lst xs)∧ixN xs.length k=some j∧Q (upd H p (.lst (xs.set j v)))
theorem qlC:qtZ X qpy:=by
 intro pins s σ H o i v ov iv u Q I ro ri rv h
 obtain ⟨p,xs,k,j,rfl,rfl,hp,hj,q⟩:=h
 cases ro
 obtain ⟨t,rfl⟩:=ri
 obtain ⟨its,n,r,ho,hz⟩:=I.lst hp
 obtain ⟨h1,h2,h3,h4⟩:=qkh hj
 have hl:=r.length
 have hn:=qc4
 have I':Inv X pins σ (upd H p (.lst (xs.set j v))) { s with heap:=s.heap.update p (Obj.mapSeq (·.setIfInBounds j u)) }:=
  I.lstUpd hp ho (qiy its n j u) (r.set rv j) (by rw[List.length_set]; exact hz) s.toks
 by_cases h0:0≤k
 ·have hk:k.toNat=j:=by
   rw[seqIndex_of h0 h4] at h1
   exact Option.some.inj h1
  exact PySem.W.ki_setAt ho h0 (by lia) (by rw[List.size_toArray,←hl]; exact h4) (by rw[hk]; exact ⟨_,I',q⟩)
 ·have hk:(k+(its.toArray.size:Int)).toNat=j:=by
   rw[seqIndex_neg (by lia) h3] at h1
   rw[List.size_toArray,←hl]
   exact Option.some.inj h1
  exact PySem.W.ki_setBack ho (by lia) (by rw[List.size_toArray,←hl]; exact h3) (by lia) (by rw[hk]; exact ⟨_,I',q⟩)
theorem qfy (lo hi:Option Int) (n:Nat):(sliceBounds lo hi none n).1=((HT.sIx n 0 lo:Nat):Int)∧(sliceBounds lo hi none n).2.1=((HT.sIx n n hi:Nat):Int)∧(sliceBounds lo hi none n).2.2=1:=by
 refine ⟨?_,?_,rfl⟩
 ·cases lo with
  | none=>simp[sliceBounds,HT.sIx]
  | some i=>
   simp only[sliceBounds,HT.sIx,Option.getD_none,show (1:Int)>0 by decide,if_true]
   by_cases h:i<0
   ·simp only[h,if_true]<;>lia
   ·simp only[h,if_false]<;>lia
 ·cases hi with
  | none=>simp[sliceBounds,HT.sIx]
  | some i=>
   simp only[sliceBounds,HT.sIx,Option.getD_none,show (1:Int)>0 by decide,if_true]
   by_cases h:i<0
   ·simp only[h,if_true]<;>lia
   ·simp only[h,if_false]<;>lia
theorem qeU (its:List Value) (lo hi:Option Int):slicePick its.toArray lo hi none=((its.drop (HT.sIx its.length 0 lo)).take (HT.sIx its.length its.length hi - HT.sIx its.length 0 lo)).toArray:=by
 obtain ⟨h1,h2,h3⟩:=qfy lo hi its.toArray.size
 unfold slicePick
 rw[h1,h2,h3]
 simp only[sliceRange_one,pick_run,List.size_toArray]<;>rfl
def qun (K:PySem.W.Frag):V→Option Int→Option Int→Hp→VK→Prop:=fun x lo hi H Q=> ∃a xs,x= .ref a∧SqL K H a xs∧∀p,H p=none→Q (.ref p) (upd H p (.lst (qkU xs lo hi)))
theorem qnD:SlR X (qun X.K):=by
 intro pins s σ H x v vl vu lo hi sl Q I rx hs pl pu h
 obtain ⟨a,xs,rfl,hx,q⟩:=h
 cases rx
 obtain ⟨its,r,ht,hz⟩:=I.list hx
 have hlen:=r.length
 refine ⟨"list",_,slot_list_getitem.lookup,ht.isList.typeIs,?_⟩
 refine wpAny_getItem_list_slice ht.isList hs pl pu .none (by simp) ?_ (by rw[List.size_toArray]<;>lia)
 rw[qeU,←hlen]
 refine ⟨.ref s.heap.objs.size,_,I.laid (t':=s.toks) (o:=.lst (qkU xs lo hi)) (fun b ob q=>Heap.get?_push_of_some _ q) (Nat.le_refl _) ?_,rfl,q _ (I.hok.fresh (Nat.le_refl _))⟩
 exact ⟨Nat.le_trans (qee xs lo hi) hz,_,0,(r.drop (HT.sIx xs.length 0 lo)).take (HT.sIx xs.length xs.length hi - HT.sIx xs.length 0 lo),Heap.get?_push_size _ rfl⟩
def qcI:V→Bool
 | .non=>true
 | .bl _=>true
 | .int _=>true
 | .str _=>true
 | _=>false
def eqV:V→V→Bool
 | .non,.non=>true
 | .bl a,.bl b=>a==b
 | .bl a,.int b=>(if a then 1 else 0)==b
 | .int a,.bl b=>a==(if b then 1 else 0)
 | .int a,.int b=>a==b
 | .str a,.str b=>a==b
 | _,_=>false
theorem qhY {A:Around} {s:Shared} {y x:V} {u v:Value} (ry:RelV y u) (rx:RelV x v) (fy:qcI y=true) (fx:qcI x=true):SeqAt.EqAt A s u v (eqV y x):=by
 cases y with
 | non=>
  cases ry
  cases x with
  | non=>cases rx; exact SeqAt.EqAt.same _
  | bl b=>cases rx; exact SeqAt.EqAt.none_bool b
  | int b=>obtain ⟨t,rfl⟩:=rx; exact SeqAt.EqAt.none_int b t
  | str b=>obtain ⟨t,rfl⟩:=rx; exact SeqAt.EqAt.none_str b t
  | _=>exact absurd (show false=true from fx) Bool.false_ne_true
 | bl a=>
  cases ry
  cases x with
  | non=>cases rx; exact SeqAt.EqAt.bool_none a
  | bl b=>cases rx; exact SeqAt.EqAt.bool_bool a b
  | int b=>obtain ⟨t,rfl⟩:=rx; exact SeqAt.EqAt.bool_int a b t
  | str b=>obtain ⟨t,rfl⟩:=rx; exact SeqAt.EqAt.bool_str a b t
  | _=>exact absurd (show false=true from fx) Bool.false_ne_true
 | int a=>
  obtain ⟨t',rfl⟩:=ry
  cases x with
  | non=>cases rx; exact SeqAt.EqAt.int_none a t'
  | bl b=>cases rx; exact SeqAt.EqAt.int_bool a t' b
  | int b=>obtain ⟨t,rfl⟩:=rx; exact SeqAt.EqAt.int_int a t' b t
  | str b=>obtain ⟨t,rfl⟩:=rx; exact SeqAt.EqAt.int_str a t' b t
  | _=>exact absurd (show false=true from fx) Bool.false_ne_true
 | str a=>
  obtain ⟨t',rfl⟩:=ry
  cases x with
  | non=>cases rx; exact SeqAt.EqAt.str_none a t'
  | bl b=>cases rx; exact SeqAt.EqAt.str_bool a t' b
  | int b=>obtain ⟨t,rfl⟩:=rx; exact SeqAt.EqAt.str_int a t' b t
  | str b=>obtain ⟨t,rfl⟩:=rx; exact SeqAt.EqAt.str_str a t' b t
  | _=>exact absurd (show false=true from fx) Bool.false_ne_true
 | _=>exact absurd (show false=true from fy) Bool.false_ne_true
theorem qdv:qdC X (.builtin "len") (fun xs H Q=> ∃p ys,xs=[.ref p]∧(SqL X.K H p ys∨SqT X.K H p ys)∧Q (.int ys.length) H):=by
 intro pins s σ H xs us Q I r h
 obtain ⟨p,ys,rfl,hq,q⟩:=h
 obtain ⟨u,rfl,rx⟩:=qek r
 cases rx
 have hn:=qc4
 rcases hq with hq | hq
 ·obtain ⟨its,r',pl,hz⟩:=I.list hq
  have hlen:=r'.length
  exact Calls.call_len_list pl.isList (by simp only[List.size_toArray]<;>lia) ⟨.int ys.length,H,I.tok _,⟨s.toks+1,by rw[List.size_toArray,hlen]⟩,q⟩
 ·obtain ⟨its,r',pl,hz⟩:=I.tuple hq
  have hlen:=r'.length
  exact len_tuple pl (by simp only[List.size_toArray]<;>lia) ⟨.int ys.length,H,I.tok _,⟨s.toks+1,by rw[List.size_toArray,hlen]⟩,q⟩
theorem qgf:qdC X (.builtin "len") (fun xs H Q=> ∃z,xs=[.str z]∧z.length≤sizeLine∧Q (.int z.length) H):=by
 intro pins s σ H xs us Q I r h
 obtain ⟨z,rfl,hz,q⟩:=h
 obtain ⟨u,rfl,t,rfl⟩:=qek r
 have hn:=qc4
 exact len_str (by lia) ⟨.int z.length,H,I.tok _,⟨_,rfl⟩,q⟩
def tyV (K:PySem.W.Frag) (T:String) (x:V) (H:Hp):Prop:=match x with
 | .str _=>T= "str"
 | .int _=>T= "int"
 | .ref p=>(T= "list" ∧∃xs,SqL K H p xs)∨(T= "tuple" ∧∃o,K.lookup p=some o∧o.cls= .type "tuple" ∧o.dict=none)∨
   (T= "dict" ∧((∃kvs,H p=some (.dK kvs))∨∃kvs,H p=some (.dT kvs)))∨(T= "set" ∧∃S n,H p=some (.set S n))
 | _=>False
theorem qmR {pins:List (Addr×Obj)} {σ:St} {H:Hp} {s:Shared} {T:String} {x:V} {v:Value} (I:Inv X pins σ H s) (r:RelV x v) (ty:tyV X.K T x H):
  s.TypeIs v T∧∀a,v= .ref a→∃ob,s.heap.get? a=some ob∧ob.dict=none:=by
 cases x with
 | str z=>
  obtain ⟨t,rfl⟩:=r
  cases (show T= "str" from ty)
  exact ⟨typeIs_str s z t,fun _ e=>nomatch e⟩
 | int i=>
  obtain ⟨t,rfl⟩:=r
  cases (show T= "int" from ty)
  exact ⟨typeIs_int s i t,fun _ e=>nomatch e⟩
 | ref p=>
  cases r
  rcases ty with ⟨rfl,xs,hq⟩ | ⟨rfl,o,hk,hc,hd⟩ | ⟨rfl,hk⟩ | ⟨rfl,S,n,hk⟩
  ·obtain ⟨its,_,pl,_⟩:=I.list hq
   refine ⟨pl.isList.typeIs,fun a e=> ?_⟩
   cases e
   obtain ⟨o,n,e,c,hd,_⟩:=pl
   exact ⟨o,e,hd⟩
  ·refine ⟨⟨o,I.kIn p o hk,hc⟩,fun a e=> ?_⟩
   cases e
   exact ⟨o,I.kIn _ o hk,hd⟩
  ·have z: ∃o,s.heap.get? p=some o∧o.ExactDict:=by
    rcases hk with ⟨kvs,hk⟩ | ⟨kvs,hk⟩
    ·obtain ⟨_,_,_,_,o,_,_,e,ex,_⟩:=I.hok p _ hk
     exact ⟨o,e,ex⟩
    ·obtain ⟨_,_,_,_,o,_,_,e,ex,_⟩:=I.hok p _ hk
     exact ⟨o,e,ex⟩
   obtain ⟨o,e,ex⟩:=z
   refine ⟨⟨o,e,ex.1⟩,fun a e2=> ?_⟩
   cases e2
   exact ⟨o,e,ex.2.1⟩
  ·obtain ⟨o,_,_,_,e,ex,_⟩:=I.hok p _ hk
   refine ⟨⟨o,e,ex.1⟩,fun a e2=> ?_⟩
   cases e2
   exact ⟨o,e,ex.2.1⟩
 | _=>exact False.elim ty
def tBM (K:PySem.W.Frag) (T:String) (r:V→List V→Hp→VK→Prop) (to:TE) (t:TA):TE:=fun σ H Q=>to σ H fun x H1=>tyV K T x H1∧t σ H1 fun xs H2=>r x xs H2 Q
variable {o e:Expr} {es:List Expr} {to:TE} {t:TA} {name:Str} {apos cpos:Pos} {T id:String} {r:V→List V→Hp→VK→Prop}
theorem qnX (pa:PlainAttrs T) (slot:Slot T name id) (hty:typeOf (.builtin id)=pure (.type "method_descriptor")) (hm:MtR X id r) (ho:PE X o to) (ha:PA X (e::es) t)
  (hbase:attributeBase o name X.env (eval o X.env)=eval o X.env:=by rfl)
  (hfew:((backTo cpos (starEach (e::es) X.env)).all (fun x=> !x.1)&&(backToKw cpos (keywordEach [] X.env)).all (fun x=>x.1.isSome)
   &&decide ((e::es).length+([]:List Keyword).length+(if ([]:List Keyword).isEmpty then 0 else 1)<30))=true:=by rfl)
  (hline:(apos.endLine==cpos.line)=true:=by rfl) (hs:starEach (e::es) X.env=(false,eval e X.env)::starEach es X.env:=by rfl) (hplain:(backTo cpos (starEach es X.env)).any (·.1)=false:=by rfl):
  PE X (.Call (.Attribute o name apos) (e::es) [] cpos) (tBM X.K T r to t):=by
 intro pins s σ H Q I h
 refine wpAny_Call_method_late hbase hfew hline rfl (thn (ho pins s σ H _ I h) fun v s1 ⟨x,H1,I1,r1,ty,q1⟩=> ?_)
 obtain ⟨h1,h2⟩:=qmR I1 r1 ty
 refine ⟨T,id,pa,slot,hty,h1,h2,?_⟩
 have hA:=ha cpos pins s1 σ H1 _ I1 q1
 rw[hs] at hA⊢
 refine Calls.callWith_builtin (by show (false||(backTo cpos (starEach es X.env)).any (·.1))=false; rw[hplain]<;>rfl) (Calls.evalArgs_plain ?_)
 exact thn hA fun us s2 ⟨vs,H2,I2,r2,q2⟩=>hm pins s2 σ H2 x vs v us Q I2 r1 r2 q2
end
end L2
namespace L2
open PySem PySem.Spec PyProof.Rows
def MtM (X:Cx) (id:String) (r:V→List V→Hp→VK→Prop):Prop:=
 ∀(pins:List (Addr×Obj)) (s:Shared) (σ:St) (H:Hp) (x:V) (xs:List V) (v:Value) (us:List Value) (Q:VK),Inv X pins σ H s→RelV x v→Vals xs us→r x xs H Q→
  wpAny (model X.prog X.w) X.A (call (.builtin id) (v::us)) (EP X pins σ Q) X.xe s
theorem Vals.one: ∀{x:V} {us:List Value},Vals [x] us→∃u,us=[u]∧RelV x u
 | _,_,.cons r .nil=>⟨_,rfl,r⟩
theorem Vals.two: ∀{x y:V} {us:List Value},Vals [x,y] us→∃u v,us=[u,v]∧RelV x u∧RelV y v
 | _,_,_,.cons r (.cons q .nil)=>⟨_,_,rfl,r,q⟩
section
variable {X:Cx} {pins:List (Addr×Obj)} {σ:St} {H:Hp} {s:Shared} {l b:Addr} {xs ys zs:List V}
theorem Inv.lset {its its':List Value} {n:Nat} {f:Array Value→Array Value} {t':Nat} (I:Inv X pins σ H s) (hH:H l=some (.lst xs))
  (e:s.heap.get? l=some { cls:=.type "list",data:=.seq its.toArray n }) (hf:f its.toArray=its'.toArray) (hv:Vals ys its') (hz:ys.length≤sizeLine):
  Inv X pins σ (upd H l (.lst ys)) { s with heap:=s.heap.update l (Obj.mapSeq f),toks:=t' }:=by
 have q:=PySem.IsL.update e f
 rw[hf] at q
 refine I.write (x:=l) (e:=l) (by rw[hH]; exact trivial) (.inl rfl) (fun b' u hb hu=>(Heap.get?_update_other s.heap (Obj.mapSeq f) (Ne.symm hb)).trans hu) ⟨_,q⟩ ?_
 exact ⟨hz,its',_,hv,q⟩
theorem Inv.lnew {its:List Value} {t':Nat} (I:Inv X pins σ H s) (hv:Vals ys its) (hz:ys.length≤sizeLine):
  Inv X pins σ (upd H s.heap.objs.size (.lst ys)) { s with heap:=s.heap.push { cls:=.type "list",data:=.seq its.toArray },toks:=t' }:=
 I.laid (fun _ _ q=>Heap.get?_push_of_some _ q) (Nat.le_refl _) ⟨hz,its,0,hv,Heap.get?_push_size _ rfl⟩
theorem Inv.fresh (I:Inv X pins σ H s):H s.heap.objs.size=none:=I.hok.fresh (Nat.le_refl _)
theorem Inv.lstM (I:Inv X pins σ H s) (hH:H l=some (.lst xs)):xs.length≤sizeLine∧∃(its:List Value) (n:Nat),Vals xs its∧xs.length=its.length∧s.heap.get? l=some { cls:=.type "list",data:=.seq its.toArray n }:=by
 obtain ⟨z,its,n,r,e⟩:=I.hok l _ hH
 exact ⟨z,its,n,r,r.length,e⟩
theorem ql2 {n:Nat} (h:n≤sizeLine):Builtin.List.listTooLong n=false:=by
 unfold Builtin.List.listTooLong
 exact decide_eq_false (by lia)
end
section
variable {X:Cx}
def qjE:V→List V→Hp→VK→Prop:=fun x vs H Q=> ∃l xs y,x= .ref l∧vs=[y]∧H l=some (.lst xs)∧xs.length<sizeLine∧Q .non (upd H l (.lst (xs++[y])))
theorem qd1:MtM X "list.append" qjE:=by
 intro pins s σ H x vs v us Q I rx rv h
 obtain ⟨l,xs,y,rfl,rfl,hH,hz,q⟩:=h
 cases rx
 obtain ⟨u,rfl,ru⟩:=rv.one
 obtain ⟨z,its,n,r,hl,e⟩:=I.lstM hH
 refine call_meets F.slot_list_append ⟨_,e,rfl⟩ F.entry_list_append (F.args_list_append_2 _ _) (PySem.list_append l its.toArray n u (by rw[List.size_toArray]; lia)) ⟨e,?_⟩
 refine ⟨.non,_,I.lset (its':=its++[u]) hH e (by simp) (r.append (.cons ru .nil)) ?_,rfl,q⟩
 rw[List.length_append,List.length_singleton]
 lia
def qjD:V→List V→Hp→VK→Prop:=fun x vs H Q=> ∃l b xs zs,x= .ref l∧vs=[.ref b]∧H l=some (.lst xs)∧H b=some (.lst zs)∧xs.length+zs.length≤sizeLine∧Q .non (upd H l (.lst (xs++zs)))
theorem qjX:MtM X "list.extend" qjD:=by
 intro pins s σ H x vs v us Q I rx rv h
 obtain ⟨l,b,xs,zs,rfl,rfl,hH,hB,hz,q⟩:=h
 cases rx
 obtain ⟨u,rfl,ru⟩:=rv.one
 cases ru
 obtain ⟨z,its,n,r,hl,e⟩:=I.lstM hH
 obtain ⟨z2,its2,n2,r2,hl2,e2⟩:=I.lstM hB
 have hsz:its.toArray.size+its2.toArray.size≤sizeLine:=by rw[List.size_toArray,List.size_toArray]; lia
 have hlong: ¬(!its.toArray.isEmpty&&Builtin.List.listTooLong (its.toArray.size+its2.toArray.size))=true:=by
  rw[ql2 hsz,Bool.and_false]
  exact Bool.false_ne_true
 refine call_meets F.slot_list_extend ⟨_,e,rfl⟩ F.entry_list_extend (F.args_list_extend_2 _ _)
  (AutoSeq1.list_extend_list_list_0 l its.toArray n b its2.toArray n2 hlong (by rw[List.size_toArray]; lia) (by lia)) ⟨e,e2,?_⟩
 refine ⟨.non,_,I.lset (its':=its++its2) hH e (by simp) (r.append r2) ?_,rfl,q⟩
 rw[List.length_append]
 lia
def qtj:R2:=fun x y H Q=> ∃l b xs zs,x= .ref l∧y= .ref b∧H l=some (.lst xs)∧H b=some (.lst zs)∧xs.length+zs.length≤sizeLine∧∀p,H p=none→Q (.ref p) (upd H p (.lst (xs++zs)))
theorem qm7:OpR X (binaryOp .Add) qtj:=by
 intro pins s σ H x y v u Q I rx ry h
 obtain ⟨l,b,xs,zs,rfl,rfl,hH,hB,hz,q⟩:=h
 cases rx
 cases ry
 obtain ⟨z,its,n,r,hl,e⟩:=I.lstM hH
 obtain ⟨z2,its2,n2,r2,hl2,e2⟩:=I.lstM hB
 refine PySem.P.add_list e e2 ?_ (by rw[List.size_toArray,List.size_toArray]; lia)
 have ea:its.toArray++its2.toArray=(its++its2).toArray:=by simp
 rw[ea]
 exact ⟨.ref _,_,I.lnew (t':=s.toks) (r.append r2) (by rw[List.length_append]; lia),rfl,q _ I.fresh⟩
end
section
variable {prog:Program} {w:World} {A:Around} {E:Value→Shared→Prop} {s:Shared}
end
section
variable {X:Cx}
end
end L2
namespace Att
open PySem PySem.W PySem.Calls PyProof.Rows
theorem qd5 {P:Params} {h:Heap}: ∀(ns:List Int) (vs:List Value),WellAll P h vs (ns.map WData.int)→IntsAre vs ns:=by
 intro ns
 induction ns with
 | nil=>
  intro vs w
  rw[List.map_nil] at w
  cases w
  exact .nil
 | cons n ns ih=>
  intro vs w
  rw[List.map_cons] at w
  cases w with
  | cons a b=>
   cases a
   exact .cons _ _ (ih _ b)
theorem qjr {l:OpenLaw} {n:Nat} (hn:l.most=some n) {P:Params} {h:Heap} {args:List WData} {vals:List Value}
  (hpre:l.row.toRowW.claim.pre args=true) (hwl:WellAll P h vals args):
  ∃a vs ns,vals=[Value.ref a]∧args=[WData.list (ns.map WData.int)]∧h.get? a=some { cls:=.type "list",data:=.seq vs.toArray }∧IntsAre vs ns∧ns.length≤n:=by
 have hsh:WShape.hasAll [] args [.list .int]=true:=(pre_splitW hpre).1
 have hc:l.pre.holds [] { args:=args }=true:=(pre_splitW hpre).2
 obtain ⟨d,r,rfl,h1,h2⟩:=hasAllW_cons hsh
 obtain rfl:=hasAllW_nil h2
 obtain ⟨xs,rfl,h3⟩:=hasW_list h1
 obtain ⟨ns,rfl⟩:=items_int h3
 have hlen:ns.length≤n:=by
  unfold OpenLaw.pre at hc
  have h4:(WTm.not (.lt (.lit (.int (n:Int))) (.len (.arg 0)))).holds [] { args:=[.list (ns.map .int)] }=true:=by
   have h4:=(holds_andW hc).1
   rw[hn] at h4
   exact h4
  have h5:=condW_of h4 (w_not (w_lt w_lit (w_len_list (w_arg rfl))))
  rw[List.length_map] at h5
  refine Nat.le_of_not_lt fun q=> ?_
  have q':(n:Int)<((ns.length:Nat):Int):=by lia
  first
   | (rw[decide_eq_true q'] at h5; exact absurd h5 (by decide))
   | (simp at h5; lia)
 cases hwl with
 | cons w1 w2=>
  cases w2
  cases w1 with
  | list ho hall=>exact ⟨_,_,ns,rfl,rfl,ho,qd5 ns _ hall,hlen⟩
theorem qjH (l:OpenLaw) (args:List WData):l.row.toRowW.claim.post args (.bool true) args=true:=
 postW_of (r:=l.row.toRowW) (X:=(true==true))
  (show WShape.has [] (.bool true) .bool=true by first | rfl | decide | simp[WShape.has,WShape.arms,WShape.armsAll])
  (show (WTm.eq .res (.lit (.bool true))).value [] { args:=args,res:=some (.bool true),after:=args }=some (.bool (true==true)) from w_eq_bool (w_res rfl) w_lit) rfl
theorem attach_call {l:OpenLaw} {n:Nat} {q:Program} {loose:List Str} {XP:(Str→Option Value)→Heap→Prop} {YP:World→Heap→Prop} {d:DefRec}
  (hn:l.most=some n) (hdf:d.params.defaults=[])
  (call: ∀(w:World) (s₀ s₁:Shared) (mg mb:Str→Option Value) (fa:Addr) (o:Obj) (pm cd doc:Value) (a:Addr) (vs:List Value) (ns:List Int),
   Ground q loose [] XP w s₀ mg mb s₁.heap→YP w s₁.heap→
   s₁.heap.get? fa=some o→o.data= .func (docDef d.name d.params d.body d.scope pm cd doc)→s₁.heap.CodeRec cd d.name→mg d.name=some (.ref fa)→
   s₁.heap.get? a=some { cls:=.type "list",data:=.seq vs.toArray }→IntsAre vs ns→ns.length≤n→s₁.gens= #[]→
   codeAny (model l.prog w) callerA (.call (.ref fa) ⟨[.ref a],[]⟩) (fun r s'=>r= .ok (.ret (.bool true))∧OldK s₁.heap s'.heap∧s'.os=s₁.os∧AllBare s'.gens) s₁):
  WalkO q loose XP YP l.row.toRowW d [] (fun f vs=>PySem.call f vs):=by
 intro w s₀ s₁ mg mb G Y fa o pm cd doc dV kV ho hd hcd hD hmg hg args vals as hpre hlay hrd hwl hlo
 obtain rfl:dV= .none:=Dflts.none hD hdf
 obtain rfl:kV= .none:=Dflts.noKw hD
 obtain ⟨a,vs,ns,rfl,rfl,hobj,hints,hlen⟩:=qjr hn hpre hwl
 refine enter_call (codeAny_mono (call w s₀ s₁ mg mb fa o pm cd doc a vs ns G Y ho (fd_plain hd) hcd hmg hobj hints hlen hg) fun r s' hq=> ?_)
 obtain ⟨rfl,h2,h3,h4⟩:=hq
 exact ⟨.inl ⟨.bool true,.bool true,[],rfl,fun _=>rfl,.bool true,qjH l _,fun _=>⟨List.Pairwise.nil,fun _ hm=>(nomatch hm)⟩⟩,h2,h3,h4⟩
section
variable {prog:Program} {w:World} {A:Around} {E:Value→Shared→Prop} {s:Shared} {K:Frag}
def qto (h:Heap) (L d:Addr):List (Addr×Obj):=(List.range h.objs.size).filterMap fun a=>if a=L∨a=d then none else (h.get? a).map fun o=>(a,o)
end
end Att
namespace L2
open PySem PySem.Spec PyProof.Rows
theorem qdO: ∀{vs:List Value} {ns:List Int},IntsAre vs ns→Vals (ns.map V.int) vs
 | _,_,.nil=>.nil
 | _,_,.cons n t h=>.cons ⟨t,rfl⟩ (qdO h)
def qs6 (H:Hp):Prop:= ∀b,H b=none∨∃o xs,H b=some (.frz o (.lst xs))
theorem ql9 {P:Program} {w:World} {K:PySem.W.Frag} {mg mb:Str→Option Value} {CX:CXT} {k:Nat} {fa a:Addr} {fd:FuncData} {x:Str} {sp:Sp} {s₁:Shared} {vs:List Value} {ns:List Int}
  (KX:K.In s₁.heap) (hns:s₁.heap.Ns mainGlobals mg) (hb:s₁.heap.Ns builtinsNs mb) (hbb: ∀x:Str,x≠ "__name__" →mb x=bootBuiltins x) (hlim:s₁.heap.NoLimit) (hg:s₁.gens= #[])
  (ha:s₁.heap.get? a=some { cls:=.type "list",data:=.seq vs.toArray }) (hi:IntsAre vs ns) (hl:ns.length≤sizeLine) (hr:qcD k callerA)
  (F: ∀base:Heap,K.In base→base.Ns mainGlobals mg→qbG P w K mg base CX k fa fd [x] sp) (hbind: ∀(s:Shared) (u:Value),BindsTo s fd ⟨[u],[]⟩ [(x,u)])
  (hsp: ∀H:Hp,qs6 H→SqL K H a (ns.map V.int)→sp [.ref a] H (fun v _=>v= .bl true) fun _ _ _=>False)
  (hCX: ∀H e s',CX [] H s₁ (fun _ _ _=>False) e s'→False):
  codeAny (model P w) callerA (.call (.ref fa) ⟨[.ref a],[]⟩) (fun r s'=>r= .ok (.ret (.bool true))∧OldK s₁.heap s'.heap∧s'.os=s₁.os∧AllBare s'.gens) s₁:=by
 have rv:=qdO hi
 have lenV:=hi.length
 have core: ∀H:Hp,qs6 H→SqL K H a (ns.map V.int)→HOk P w H s₁.heap→(∀b,H b≠none→b=a)→(H a≠none→K.lookup a=none)→
   codeAny (model P w) callerA (.call (.ref fa) ⟨[.ref a],[]⟩) (fun r s'=>r= .ok (.ret (.bool true))∧OldK s₁.heap s'.heap∧s'.os=s₁.os∧AllBare s'.gens) s₁:=by
  intro H hO hS hok hA hK
  have base_of: ∀{b:Addr} {o:Obj},s₁.heap.get? b=some o→H b=none→(qgn s₁.heap H).get? b=some o:=fun e n=>qhO e n
  have noA: ∀{b:Addr} {o:Obj} {es:Array DictEntry} {ep:Nat},s₁.heap.get? b=some o→o.data= .dict es ep→H b=none:=fun {b o es ep} e d=>by
   cases q:H b with
   | none=>rfl
   | some u=>
    have e':b=a:=hA b (by rw[q]; simp)
    subst e'
    rw[ha] at e; cases e
    have d':Data.seq vs.toArray _=Data.dict es ep:=d
    cases d'
  have nsK: ∀{b:Addr} {m:Str→Option Value},s₁.heap.Ns b m→(qgn s₁.heap H).Ns b m:=fun {b m} ⟨o,es,ep,e,d,r⟩=>⟨o,es,ep,base_of e (noA e d),d,r⟩
  have hKb:K.In (qgn s₁.heap H):=fun b o e=>base_of (KX b o e) (by
   cases q:H b with
   | none=>rfl
   | some u=>
    have e':b=a:=hA b (by rw[q]; simp)
    subst e'
    rw[hK (by rw[q]; simp)] at e; cases e)
  have hM:Mod K mg (qgn s₁.heap H):=⟨hKb,nsK hns,⟨mb,nsK hb,hbb⟩,let ⟨mc,h1,h2⟩:=hlim; ⟨mc,nsK h1,h2⟩⟩
  have e0:qlf P w K mg (qgn s₁.heap H) callerA [] s₁ H:=⟨rfl,hM,fun b o e=>qjS e,Nat.le_of_eq (qfX _ _),trivial,fun b hb=>absurd (show b∈([]:List Addr) from hb) (by simp),hok,.of_eq hg⟩
  refine codeAny_mono ((F _ hKb (nsK hns)).run callerA [] s₁ H ⟨[.ref a],[]⟩ [.ref a] [.ref a] _ _ hr e0 (hbind s₁ (.ref a)) (.cons rfl .nil) (hsp H hO hS)) fun r s' h=> ?_
  cases r with
  | error e=>exact (hCX H e s' h).elim
  | ok fl=>
   cases fl with
   | next=>exact False.elim h
   | brk=>exact False.elim h
   | cont=>exact False.elim h
   | ret u=>
    obtain ⟨v,H',os,bare,un,hok',r',q⟩:=h
    have q':v= .bl true:=q
    subst q'
    obtain rfl:u=Value.bool true:=r'
    refine ⟨rfl,OldK.of_keep fun b o e=> ?_,os,bare⟩
    cases q:H b with
    | none=>exact un.keep b o e q (by intro z; exact absurd (show b∈([]:List Addr) from z) (by simp)) (by simp)
    | some u=>
     rcases hO b with z | ⟨ob,xs,z⟩
     ·rw[q] at z; cases z
     ·have z2:=un.frzs b ob _ z
      obtain ⟨e1,_⟩:=hok b _ z
      obtain ⟨e2,_⟩:=hok' b _ z2
      rw[e] at e1; cases e1
      exact e2
 cases hk:K.lookup a with
 | some o=>
  have e:=KX a o hk
  rw[ha] at e
  cases e
  refine core (fun _=>none) (fun _=>.inl rfl) (.inr ⟨_,vs.toArray,_,hk,rfl,rfl,rfl,by rw[List.size_toArray,lenV]; exact hl,by simpa using rv⟩) (fun b u z=>by have z':(none:Option HO)=some u:=z; cases z') (fun b z=>absurd rfl z) fun z=>absurd rfl z
 | none=>
  refine core (fun b=>if b=a then some (.frz { cls:=.type "list",data:=.seq vs.toArray } (.lst (ns.map V.int))) else none) (fun b=> ?_) (.inl (.inr ⟨{ cls:=.type "list",data:=.seq vs.toArray },if_pos rfl⟩)) (fun b u z=> ?_) (fun b z=> ?_) fun _=>hk
  ·by_cases hb:b=a
   ·exact .inr ⟨_,_,if_pos hb⟩
   ·exact .inl (if_neg hb)
  ·by_cases hb:b=a
   ·have z':=(if_pos hb).symm.trans z
    cases z'
    subst hb
    exact ⟨ha,by rw[List.length_map]; exact hl,vs,_,rv,ha⟩
   ·have z':=(if_neg hb).symm.trans z
    cases z'
  ·by_cases hb:b=a
   ·exact hb
   ·exact absurd (if_neg hb) z
end L2
namespace L2
open PySem PySem.Spec PyProof.Rows
abbrev KOf {K:PySem.W.Frag} {h:Heap} (_:K.In h):PySem.W.Frag:=K
theorem qrf {l:PySem.W.OpenLaw} {n k:Nat} {q:Program} {loose:List Str} {XP:(Str→Option Value)→Heap→Prop} {YP:World→Heap→Prop} {d:DefRec} {K:Params→PySem.W.Frag} {CX:World→CXT} {sp:World→Sp} {x:Str}
  (hn:l.most=some n) (hn2:n≤sizeLine) (hdf:d.params.defaults=[]) (hr:qcD k callerA)
  (hY: ∀(w:World) (h:Heap),YP w h→(K w.params).In h)
  (F: ∀(w:World) (mg:Str→Option Value) (fa:Addr) (h:Heap),(K w.params).In h→h.Ns mainGlobals mg→mg d.name=some (.ref fa)→
   ∃fd:FuncData,(∀(s:Shared) (u:Value),BindsTo s fd ⟨[u],[]⟩ [(x,u)])∧
    ∀base:Heap,(K w.params).In base→base.Ns mainGlobals mg→qbG l.prog w (K w.params) mg base (CX w) k fa fd [x] (sp w))
  (hsp: ∀(w:World) (H:Hp) (a:Addr) (ns:List Int),ns.length≤n→qs6 H→SqL (K w.params) H a (ns.map V.int)→sp w [.ref a] H (fun v _=>v= .bl true) fun _ _ _=>False)
  (hCX: ∀(w:World) (H:Hp) (s:Shared) (e:Value) (s':Shared),CX w [] H s (fun _ _ _=>False) e s'→False):
  PySem.W.WalkO q loose XP YP l.row.toRowW d [] (fun f vs=>PySem.call f vs):=by
 refine Att.attach_call hn hdf fun w s₀ s₁ mg mb fa o pm cd doc a vs ns G Y ho hd hcd hmg hobj hints hlen hg=> ?_
 have KX:=hY w _ Y
 obtain ⟨fd,hb,hF⟩:=F w mg fa _ KX G.T.g hmg
 exact ql9 KX G.T.g G.T.b G.T.builtins G.T.nolimit hg hobj hints (Nat.le_trans hlen hn2) hr hF hb (fun H hO hS=>hsp w H a ns hlen hO hS) fun H e s'=>hCX w H s₁ e s'
end L2
namespace L2
open PySem PySem.Spec PyProof.Rows
def qbc (s:Stmt):Arguments:=match s with
 | .FunctionDef _ a _ _ _ _ _ _ _ _=>a
 | _=>{ posonlyargs:=[],args:=[],vararg:=none,kwonlyargs:=[],kw_defaults:=[],kwarg:=none,defaults:=[] }
def qaX (s:Stmt):List Stmt:=match s with
 | .FunctionDef _ _ b _ _ _ _ _ _ _=>b
 | _=>[]
def qaf (s:Stmt):Scope:=match s with
 | .FunctionDef _ _ _ _ _ _ sc _ _ _=>sc
 | _=>{ kind:=.function,names:=[],isGenerator:=false,isCoroutine:=false }
abbrev CX0:CXT:=fun _ _ _ _ _ _=>False
abbrev E0:XK:=fun _ _ _=>False
theorem qsb {X:Cx}:qgk CX0 X E0:=fun _ _ _ _ _ _ _ h=>h.elim
structure Fun (K:PySem.W.Frag) (x qual:Str) (st:Stmt) (f:Addr) (fd:FuncData):Prop where
 ex: ∃(oc:Value) (od:Option Addr) (kV doc pm:Value) (an:Option Addr) (cdv ct:Value) (osl:Array (Option Value)),
  fd=PySem.W.fnOf x qual (qbc st) (qaX st) (qaf st) .none kV doc pm an cdv ct∧K.lookup f=some ⟨oc,od,.func fd,osl⟩∧PySem.W.codeIn K cdv qual=true
 kp:PySem.W.keepIn K (.ref f)=true
section
variable {P:Program} {w:World} {K:PySem.W.Frag} {mg:Str→Option Value} {base:Heap}
theorem Fun.ok {x qual:Str} {st:Stmt} {f:Addr} {fd:FuncData} {N ps:List Str} {k:Nat} {sp:Sp} (F:Fun K x qual st f fd) (S:qas N ps (qaf st)) (len: ∀vs H Q E,sp vs H Q E→vs.length=ps.length)
  (hbody: ∀(cdv:Value) (A:Around) (outer:List Env) (s:Shared) (H:Hp) (vs:List V) (Q:VK) (E:XK),qcD k (A.deeper (envOfC qual (qaf st) s.heap.objs.size f cdv))→sp vs H Q E→
   ∃t,PSs (qoz CX0 P w K mg base N qual (qaf st) f cdv A outer s H E).nox (qaX st) t∧t { nx:=fun _ H'=>Q .non H',rt:=Q } (start N vs) H):qbG P w K mg base CX0 (k+1) f fd ps sp:=by
 obtain ⟨oc,od,kV,doc,pm,an,cdv,ct,osl,rfl,lk,hcd⟩:=F.ex
 refine qom lk hcd S len fun A outer s H vs Q E hr hsp=> ?_
 obtain ⟨t,h,q⟩:=hbody cdv A outer s H vs Q E hr hsp
 exact ⟨t,h.nox,q⟩
theorem Fun.binds {x qual:Str} {st:Stmt} {f:Addr} {fd:FuncData} {ps:List Str} (F:Fun K x qual st f fd)
  (h: ∀(kV doc pm:Value) (an:Option Addr) (cdv ct:Value) (us:List Value),us.length=ps.length→bindArgs (PySem.W.fnOf x qual (qbc st) (qaX st) (qaf st) .none kV doc pm an cdv ct) ⟨us,[]⟩=pure (ps.zip us)):qfp K fd ps []:=by
 obtain ⟨oc,od,kV,doc,pm,an,cdv,ct,osl,rfl,lk,hcd⟩:=F.ex
 exact .all (h kV doc pm an cdv ct)
theorem qfY {x qual:Str} {st:Stmt} {f:Addr} {oc:Value} {od an:Option Addr} {osl:Array (Option Value)} {kV doc pm cdv ct:Value} (l:K.lookup f=some ⟨oc,od,.func (PySem.W.fnOf x qual (qbc st) (qaX st) (qaf st) .none kV doc pm an cdv ct),osl⟩)
  (c:PySem.W.codeIn K cdv qual=true) (k:PySem.W.keepIn K (.ref f)=true):Fun K x qual st f (PySem.W.fnOf x qual (qbc st) (qaX st) (qaf st) .none kV doc pm an cdv ct):=⟨⟨oc,od,kV,doc,pm,an,cdv,ct,osl,rfl,l,c⟩,k⟩
end
theorem qbh {n:Nat} (h:n≤1000):n<sizeLine:=Nat.lt_of_le_of_lt h (by decide)
section
variable {X:Cx}
theorem pv (i:Nat) {x:Str} {pos:Pos} (hN:X.N[i]? =some x:=by rfl) (hv:Vis X.env.scope x:=by first | exact Or.inl rfl | exact Or.inr (Or.inl rfl) | exact Or.inr (Or.inr rfl)) (hd:(x==("__debug__" :Str))=false:=by decide)
  (hcd:(x==("__classdict__" :Str))=false:=by decide):PE X (.Name x pos) (qli i):=qpO hN hv hd hcd
end
theorem qoR {A B:Prop} (h:B):if false=true then A else B:=by
 rw[if_neg Bool.false_ne_true]
 exact h
theorem qoQ {A B:Prop} (h:A):if true=true then A else B:=by
 rw[if_pos rfl]
 exact h
def qmN (H H':Hp):Prop:= ∀b o,H b=some o→H' b=some o
theorem qmN.refl (H:Hp):qmN H H:=fun _ _ h=>h
theorem qmN.seq {K:PySem.W.Frag} {H H':Hp} {a:Addr} {xs:List V} (e:qmN H H') (h:SqL K H a xs):SqL K H' a xs:=by
 rcases h with (h | ⟨o,h⟩) | h
 ·exact .inl (.inl (e _ _ h))
 ·exact .inl (.inr ⟨o,e _ _ h⟩)
 ·exact .inr h
end L2
end
section
namespace L2
open PySem PySem.Spec PyProof.Rows
def qkX (env:Env):List (Str×NameKind)→List (Str×Addr)→List (Str×Addr)
 | [],acc=>acc
 | x::r,acc=>qkX env r (if x.2== .free then (match env.cells.lookup x.1 with | some a=>(x.1,a)::acc | none=>acc) else acc)
theorem qeN {env:Env}: ∀(names:List (Str×NameKind)) (acc:List (Str×Addr)),(∀x∈names,x.2= .free→∃c,env.cells.lookup x.1=some c)→
  (forIn names acc fun x r=>(match x with | (name,kind)=>if (kind==NameKind.free)=true then do let a ←cellOf env name; pure (ForInStep.yield ((name,a)::r)) else pure (ForInStep.yield r):Sem (ForInStep (List (Str×Addr)))))=pure (qkX env names acc)
 | [],acc,_=>by rw[List.forIn_nil]; rfl
 | (n,k)::r,acc,h=>by
  rw[List.forIn_cons]
  have ih:=fun acc'=>qeN (env:=env) r acc' fun x hx=>h x (List.mem_cons_of_mem _ hx)
  by_cases hk:(k==NameKind.free)=true
  ·have hk':k= .free:=by simpa using hk
   obtain ⟨c,hc⟩:=h (n,k) List.mem_cons_self hk'
   simp only[hk,if_true,cellOf,hc,qkX]
   exact ih _
  ·simp only[hk,if_false,qkX]
   exact ih _
theorem qiS {scope:Scope} {env:Env} (h: ∀x∈scope.names,x.2= .free→∃c,env.cells.lookup x.1=some c):closureFor scope env=pure (qkX env scope.names []):=by
 have e:=qeN (env:=env) scope.names [] h
 unfold closureFor
 exact (congrArg (fun m=>m>>=fun r=>pure r) e)
theorem qh7 {env:Env} {x:Str} {c:Addr}: ∀(names:List (Str×NameKind)) (acc:List (Str×Addr)),(∀y d,acc.lookup y=some d→env.cells.lookup y=some d)→
  (qkX env names acc).lookup x=some c→env.cells.lookup x=some c
 | [],acc,ha,h=>ha x c h
 | (n,k)::r,acc,ha,h=>by
  refine qh7 r _ (fun y d hy=> ?_) h
  dsimp only at hy
  by_cases hk:(k==NameKind.free)=true
  ·rw[if_pos hk] at hy
   cases e:env.cells.lookup n with
   | none=>rw[e] at hy; exact ha y d hy
   | some a=>
    rw[e] at hy
    dsimp only at hy
    rw[List.lookup_cons] at hy
    cases hb:y==n with
    | true=>
     rw[hb] at hy
     have e1:y=n:=eq_of_beq hb
     subst e1
     rw[e]; exact hy
    | false=>rw[hb] at hy; exact ha y d hy
  ·rw[if_neg hk] at hy
   exact ha y d hy
theorem qef {env:Env} {x:Str} {c:Addr}: ∀(names:List (Str×NameKind)) (acc:List (Str×Addr)),env.cells.lookup x=some c→(acc.lookup x=some c∨(x,NameKind.free)∈names)→
  (qkX env names acc).lookup x=some c
 | [],acc,hc,h=>by
  rcases h with h | h
  ·exact h
  ·cases h
 | (n,k)::r,acc,hc,h=>by
  refine qef r _ hc ?_
  dsimp only
  by_cases hk:(k==NameKind.free)=true
  ·rw[if_pos hk]
   by_cases hn:x=n
   ·subst hn
    rw[hc]
    exact .inl (by simp[List.lookup_cons])
   ·have hb:(x==n)=false:=by simpa using hn
    cases e:env.cells.lookup n with
    | none=>
     rcases h with h | h
     ·exact .inl h
     ·rcases List.mem_cons.mp h with h | h
      ·cases h; exact absurd rfl hn
      ·exact .inr h
    | some a=>
     dsimp only
     rcases h with h | h
     ·exact .inl (by rw[List.lookup_cons,hb]; exact h)
     ·rcases List.mem_cons.mp h with h | h
      ·cases h; exact absurd rfl hn
      ·exact .inr h
  ·rw[if_neg hk]
   rcases h with h | h
   ·exact .inl h
   ·rcases List.mem_cons.mp h with h | h
    ·cases h; exact absurd rfl hk
    ·exact .inr h
theorem qcs {env:Env} {x:Str} {k:NameKind}: ∀{names:List (Str×NameKind)},(∀y∈names,y.2≠.cell)→k= .cell∨k= .free→
  (names.map fun (n,k)=>if (k==NameKind.free&&env.scope.kind== .function&&env.kindOf n==some .cell) then (n,NameKind.cell) else (n,k)).lookup x=some k→names.lookup x=some .free
 | [],_,_,h=>by simp at h
 | (n,k')::r,hc,hk,h=>by
  have ih:=@qcs env x k r (fun y hy=>hc y (List.mem_cons_of_mem _ hy)) hk
  rw[List.map_cons] at h
  dsimp only at h
  by_cases hf:(k'==NameKind.free&&env.scope.kind== .function&&env.kindOf n==some .cell)=true
  ·rw[if_pos hf] at h
   have hk':k'= .free:=by
    have:=hf; simp only[Bool.and_eq_true,beq_iff_eq] at this; exact this.1.1
   subst hk'
   cases hx:x==n with
   | true=>simp[List.lookup_cons,hx]
   | false=>
    simp only[List.lookup_cons,hx] at h⊢
    exact ih h
  ·rw[if_neg hf] at h
   cases hx:x==n with
   | true=>
    simp only[List.lookup_cons,hx] at h⊢
    cases h
    have hne:=hc (n,k) List.mem_cons_self
    rcases hk with e | e
    ·exact absurd e hne
    ·rw[e]
   | false=>
    simp only[List.lookup_cons,hx] at h⊢
    exact ih h
theorem qdr {env:Env} {x:Str}: ∀{names:List (Str×NameKind)},names.lookup x=some .free→
  let m:=(names.map fun (n,k)=>if (k==NameKind.free&&env.scope.kind== .function&&env.kindOf n==some .cell) then (n,NameKind.cell) else (n,k)).lookup x
  m=some .cell∨m=some .free
 | [],h=>by simp at h
 | (n,k)::r,h=>by
  have ih:=@qdr env x r
  dsimp only at ih⊢
  rw[List.map_cons]
  dsimp only
  cases hx:x==n with
  | true=>
   simp only[List.lookup_cons,hx] at h
   cases h
   by_cases hf:(NameKind.free==NameKind.free&&env.scope.kind== .function&&env.kindOf n==some .cell)=true
   ·rw[if_pos hf]; exact .inl (by simp[List.lookup_cons,hx])
   ·rw[if_neg hf]; exact .inr (by simp[List.lookup_cons,hx])
  | false=>
   simp only[List.lookup_cons,hx] at h
   by_cases hf:(k==NameKind.free&&env.scope.kind== .function&&env.kindOf n==some .cell)=true
   ·rw[if_pos hf]; simp only[List.lookup_cons,hx]; exact ih h
   ·rw[if_neg hf]; simp only[List.lookup_cons,hx]; exact ih h
def qbd (X:Cx) (scope:Scope) (own:List Str) (fr:List (Str×Nat)) (fp:List Addr) (s3:Shared) (H3:Hp):Cx where
 prog:=X.prog
 w:=X.w
 K:=X.K
 mg:=X.mg
 base:=X.base
 A:=X.A
 N:=own++fr.map (·.1)
 s₀:=s3
 H₀:=H3
 env:=compEnvC scope (qkX X.env scope.names []) s3.heap.objs.size X.env
 outer:=X.stack
 stack:=X.stack
 ex:=fp
 calm:=X.calm
 fn:=fun _=>false
 pn:=[]
 xe:=fun _ _=>False
def qdQ (own:List Str) (fr:List (Str×Nat)) (σ:St):St:=own.map (fun _=>none)++fr.map fun p=>(σ[p.2]?).join
def qmP (Y:Cx) (ifs:List Expr) (tt:TT):Prop:=
 ∀(pins:List (Addr×Obj)) (s:Shared) (σ:St) (H:Hp) (Q:Bool→Hp→Prop),Inv Y pins σ H s→tt σ H Q→
  wpAny (model Y.prog Y.w) Y.A (forIn ifs true fun c r=>if r=true then do let ok ←isTrue c Y.env (eval c Y.env); pure (ForInStep.yield ok) else pure (ForInStep.yield r)) (TP Y pins σ Q) Y.xe s
def qnA:TT:=fun _ H Q=>Q true H
theorem qlQ {Y:Cx}:qmP Y [] qnA:=fun _ _ _ H _ I h=>wpAny_tests_nil ⟨H,I,h⟩
theorem qlP {Y:Cx} {c:Expr} {t:TT} (h:PT Y c t):qmP Y [c] t:=fun pins s σ H Q I q=>wpAny_tests_one (h pins s σ H Q I q)
theorem fls {α:Type} {t:Sem α} {Q Q':α→Shared→Prop} {M:Model} {A:Around} {E:Value→Shared→Prop} {s:Shared} (h:wpAny M A t Q (fun _ _=>False) s) (hQ: ∀a s,Q a s→Q' a s):wpAny M A t Q' E s:=
 wpAny_mono h hQ fun _ _ x=>x.elim
section
variable {prog:Program} {w:World} {A:Around} {R:Result→Shared→Prop} {s:Shared}
theorem qiU {elt tg iter:Expr} {ifs:List Expr} {scope:Scope} {pos:Pos} {it acc:Value} {env:Env} (J:Nat→Shared→Prop)
  (qei: ∀n s,J n s→wpAny (model prog w) A (pyNext it) (fun r s1=>match r with
   | none=>R (.ok .next) s1
   | some v=>wpAny (model prog w) A (letOwnedTupleGo tg it v) (fun _ s2=>wpAny (model prog w) A (assign tg env v) (fun _ s3=>
     wpAny (model prog w) A (forIn ifs true fun c r=>if r=true then do let ok ←isTrue c env (eval c env); pure (ForInStep.yield ok) else pure (ForInStep.yield r)) (fun ok s4=>
      if ok=true then wpAny (model prog w) A (eval elt env) (fun x s5=>wpAny (model prog w) A (call (.builtin "list.append") [acc,x]) (fun _ s6=> ∃m,m<n∧J m s6) (fun _ _=>False) s5) (fun _ _=>False) s4
      else ∃m,m<n∧J m s4) (fun _ _=>False) s3) (fun _ _=>False) s2) (fun _ _=>False) s1) (fun _ _=>False) s)
  (n:Nat) (h:J n s):codeAny (model prog w) A (.compLoop (.ListComp elt [⟨tg,iter,ifs,0⟩] scope pos) 0 it acc env) R s:=by
 refine codeAny_loop rfl J (fun n s hJ=> ?_) n h
 show wpAny _ A ((compTurn (.ListComp elt [⟨tg,iter,ifs,0⟩] scope pos) 0 it acc env).onRaise (fun x=>do noteFrame x env; theTreesLotGoes x)) _ _ s
 refine wpAny_noted ?_
 rw[compTurn_list]
 refine wpAny_bind (wpAny_standAt (wpAny_bind (fls (qei n s hJ) fun r s1 h1=> ?_)))
 cases r with
 | none=>exact wpAny_pure h1
 | some v=>
  refine wpAny_bind (fls h1 fun _ s2 h2=>wpAny_bind (fls h2 fun _ s3 h3=>wpAny_bind (fls h3 fun ok s4 h4=> ?_)))
  cases ok with
  | false=>exact wpAny_pure ⟨rfl,h4⟩
  | true=>exact wpAny_bind (wpAny_bind (fls h4 fun x s5 h5=>wpAny_bind (fls h5 fun _ s6 h6=>wpAny_pure (wpAny_pure ⟨rfl,h6⟩))))
end
end L2
end
section
namespace L2
open PySem PySem.Spec PyProof.Rows
def qqT (J:It) (D:Addr) (g:TG) (tt:TT) (te:TE) (σ0:St) (H0:Hp) (Q:Addr→Hp→Prop):Prop:=
 ∃W:Nat→Nat→St→Hp→Prop,(∃m,W 0 m σ0 H0)∧∀i m σ1 H2,W i m σ1 H2→
  (J.stop i H2∧Q D H2)∨(J.go i H2∧∃(Ny:St→V→Hp→Prop) (Nn:St→Hp→Prop),
   (∀σ2 y H6,Ny σ2 y H6→∃ys,H6 D=some (.lst ys)∧ys.length<sizeLine∧∃m',m'<m∧W (i+1) m' σ2 (upd H6 D (.lst (ys++[y]))))∧
   (∀σ2 H5,Nn σ2 H5→∃m',m'<m∧W (i+1) m' σ2 H5)∧
   ∀x H3,J.yld i H2 x H3→g x σ1 H3 fun σ2 H4=>tt σ2 H4 fun b H5=>if b=true then te σ2 H5 (Ny σ2) else Nn σ2 H5)
def qhl (wi:TI) (g:TG) (tt:TT) (te:TE) (own:List Str) (fr:List (Str×Nat)) (σ:St) (H:Hp) (Q:Addr→Hp→Prop):Prop:=
 wi σ H fun J H1=> ∀D,H1 D=none→qqT J D g tt te (qdQ own fr σ) (upd H1 D (.lst [])) Q
section
variable {X:Cx} {elt tg iter:Expr} {ifs:List Expr} {scope:Scope} {pos ppos:Pos} {own:List Str} {fr:List (Str×Nat)} {wi:TI} {g:TG} {tt:TT} {te:TE}
theorem qgb {use:Option (Value→Sem Unit)} {Qf:Value→Shared→Prop} {pins:List (Addr×Obj)} {σ:St} {H:Hp} {s:Shared} {Q:Addr→Hp→Prop}
  (hc:X.calm=true) (hi:PI X tg iter wi) (hk:scope.kind= .function) (hcell: ∀y∈scope.names,y.2≠.cell) (hnames: ∀y∈scope.names,y.2= .local→scope.names.lookup y.1=some .local)
  (hfree: ∀y∈scope.names,y.2= .free→X.env.kindOf y.1=some .cell∨X.env.kindOf y.1=some .free) (hfr: ∀p∈fr,X.N[p.2]? =some p.1∧scope.names.lookup p.1=some .free)
  (hb: ∀(fp:List Addr) (s3:Shared) (H3:Hp),PG (qbd X scope own fr fp s3 H3) tg g∧qmP (qbd X scope own fr fp s3 H3) ifs tt∧PE (qbd X scope own fr fp s3 H3) elt te)
  (hs: ∀x,foldedSetIterable iter X.env x=pure x) (I:Inv X pins σ H s) (h:qhl wi g tt te own fr σ H Q)
  (fin: ∀(D C:Addr) (H':Hp) (s':Shared) (m:Str→Option Value),Inv X pins σ H' s'→qi1 X pins H' C→s'.heap.Ns C m→Q D H'→compPost (model X.prog X.w) X.A X.xe use Qf (.ref D) C (.ok .next) s'):
  wpAny (model X.prog X.w) X.A (comprehension (.ListComp elt [⟨tg,iter,ifs,0⟩] scope pos) scope X.env ppos (newList []) false (eval iter X.env) use) Qf X.xe s:=by
 have hcel: ∀x∈scope.names,x.2= .free→∃c,X.env.cells.lookup x.1=some c:=fun x hx e=>I.ok.has x.1 (hfree x hx e)
 refine wpAny_comprehension_free (cl:=qkX X.env scope.names []) rfl hs (qiS hcel) hk hnames ?_
 refine thn (hi pins s σ H _ I h) fun xv s1 h1=>thn h1 fun itv s2 h2=> ?_
 obtain ⟨it,fp,tn,J,H2,rfl,I2,T,st2,f2,h2⟩:=h2
 refine wpAny_newObj_type (hd:=by size_fits) ?_
 generalize hD:s2.heap.objs.size=D
 have I3:Inv X pins σ (upd H2 D (.lst [])) { s2 with heap:=s2.heap.push { cls:=.type "list",dict:=none,data:=.seq ([]:List Value).toArray } }:=by
  rw[←hD]
  exact I2.lnew (its:=[]) (ys:=[]) (t':=s2.toks) .nil (Nat.zero_le _)
 have nD:H2 D=none:=I2.hok.fresh (Nat.le_of_eq hD)
 obtain ⟨W,⟨m0,w0⟩,qei⟩:=h2 D nD
 have f3: ∀b∈fp,b<s2.heap.objs.size∧qi1 X pins (upd H2 D (.lst [])) b:=fun b hb=>by
  obtain ⟨o,e,_⟩:=T.obj _ _ st2 b hb
  have lt:=Heap.lt_size e
  exact ⟨lt,by rw[qaj (by rw[←hD]; exact Nat.ne_of_lt lt)]; exact (f2 b hb).1,(f2 b hb).2⟩
 have st3:tn 0 (s2.heap.push { cls:=.type "list",dict:=none,data:=.seq ([]:List Value).toArray }):=T.keep _ _ _ st2 fun b _ o e=>Heap.get?_push_of_some _ e
 generalize hs3:({ s2 with heap:=s2.heap.push { cls:=.type "list",dict:=none,data:=.seq ([]:List Value).toArray } }:Shared)=s3 at I3⊢
 have hh3:s3.heap=s2.heap.push { cls:=.type "list",dict:=none,data:=.seq ([]:List Value).toArray }:=by rw[←hs3]
 rw[←hh3] at st3
 have sz3:s3.heap.objs.size=s2.heap.objs.size+1:=by rw[hh3,Heap.size_push]
 generalize hH3:upd H2 D (.lst [])=H3 at I3 w0 f3
 refine wpAny_newFunctionEnv hcell (by intro y hy; simp at hy) (fun h4 hn4 hs4=> ?_) hk
 have old4: ∀b o,s3.heap.get? b=some o→h4.get? b=some o:=fun b o e=>
  (hs4.2 b (Nat.ne_of_lt (Heap.lt_size e))).trans (Heap.get?_push_of_some _ e)
 generalize hs4':({ s3 with heap:=h4,toks:=s3.toks+([]:List (Str×Value)).length }:Shared)=s4
 have hh4:s4.heap=h4:=by rw[←hs4']
 have cl_sub: ∀x c,(qkX X.env scope.names []).lookup x=some c→X.env.cells.lookup x=some c:=fun x c=>qh7 _ _ (fun _ _ z=>by cases z)
 have Y0:Inv (qbd X scope own fr fp s3 H3) [] (qdQ own fr σ) H3 s4:=by
  refine ⟨⟨I3.ok.mod,hk,I3.ok.glob,I3.ok.blt,Nat.le_refl _,fun x y c h1 h2=>I3.ok.inj x y c (cl_sub x c h1) (cl_sub y c h2),fun x hx=> ?_,fun x c z=>absurd (show false=true from z) Bool.false_ne_true,I3.ok.hd,I3.ok.frames,.inl rfl,fun b hb=>⟨?_,fun x c e=>(f3 b hb).2.2.2.2.2.1 x c (cl_sub x c e)⟩,
   I3.bs,Nat.le_trans I3.ok.bsz I3.sz,fun b o e hb=> ?_,fun b hb z=> ?_,I3.stack,I3.stkFree⟩,by rw[←hs4']; rfl,by rw[←hs4']; exact I3.bare,?_,⟨_,by rw[hh4]; exact hn4,fun i x v e1 e2 e3=> ?_⟩,fun x c e=> ?_,I3.hok.fresh (Nat.le_refl _),fun x c e=>I3.freeC x c (cl_sub x c e),fun p hp=>absurd (show p∈([]:List (Addr×Obj)) from hp) (by simp),?_,?_⟩
  ·have hx':(relabel scope X.env).names.lookup x=some .cell∨(relabel scope X.env).names.lookup x=some .free:=hx
   have hf:scope.names.lookup x=some .free:=by
    rcases hx' with z | z
    ·exact qcs hcell (.inl rfl) z
    ·exact qcs hcell (.inr rfl) z
   obtain ⟨c,hc⟩:=hcel (x,.free) (PySem.mem_of_lookup hf) rfl
   exact ⟨c,qef _ _ hc (.inr (PySem.mem_of_lookup hf))⟩
  ·have:=(f3 b hb).1
   exact Nat.ne_of_lt (Nat.lt_of_lt_of_le this (show s2.heap.objs.size≤s3.heap.objs.size by rw[sz3]; exact Nat.le_succ _))
  ·rcases (f3 b hb).2.2.2.2.1 with z | z
   ·exact I3.ok.noex b o e z
   ·exact absurd (Nat.lt_of_lt_of_le (Heap.lt_size (I3.ok.bs b o e).1) z) (Nat.lt_irrefl _)
  ·rcases List.mem_cons.mp (I3.stkSub b z) with q | q
   ·exact (f3 b hb).2.2.1 q
   ·exact (f3 b hb).2.2.2.1 q
  ·exact Un.kept (by rw[hh4]; exact old4)
  ·
   have hi':own.length≤i:=by
    by_cases q:own.length≤i
    ·exact q
    ·exfalso
     have e2':(own.map (fun _=>(none:Option V))++fr.map fun p=>(σ[p.2]?).join)[i]? =some (some v):=e2
     rw[List.getElem?_append_left (by simpa using q),List.getElem?_map] at e2'
     cases q2:own[i]? with
     | none=>rw[q2] at e2'; cases e2'
     | some z=>rw[q2] at e2'; cases e2'
   have e2':(own.map (fun _=>(none:Option V))++fr.map fun p=>(σ[p.2]?).join)[i]? =some (some v):=e2
   rw[List.getElem?_append_right (by simpa using hi'),List.getElem?_map,List.length_map] at e2'
   have e1':(own++fr.map (·.1))[i]? =some x:=e1
   rw[List.getElem?_append_right hi',List.getElem?_map] at e1'
   cases q2:fr[i - own.length]? with
   | none=>rw[q2] at e2'; cases e2'
   | some p=>
    rw[q2] at e1' e2'
    obtain rfl:p.1=x:=Option.some.inj e1'
    have e4:(σ[p.2]?).join=some v:=Option.some.inj e2'
    have e5:σ[p.2]? =some (some v):=by
     cases q3:σ[p.2]? with
     | none=>rw[q3] at e4; cases e4
     | some z=>rw[q3] at e4; exact congrArg some e4
    obtain ⟨g1,g2⟩:=hfr p (List.mem_of_getElem? q2)
    have kx:=hfree (p.1,.free) (PySem.mem_of_lookup g2) rfl
    obtain ⟨mX,hnX,hlX⟩:=I3.loc
    obtain ⟨u,ru,lu⟩:=hlX p.2 p.1 v g1 e5 (kx.elim (fun z=>.inr (.inl z)) fun z=>.inr (.inr z))
    refine ⟨u,ru,.inr ⟨qdr g2,?_⟩⟩
    rcases lu with ⟨z,_⟩ | ⟨_,c,e6,e7⟩
    ·rcases kx with kx | kx
     ·rw[kx] at z; cases z
     ·rw[kx] at z; cases z
    ·obtain ⟨oc,hoc,hd⟩:=e7
     exact ⟨c,qef _ _ e6 (.inr (PySem.mem_of_lookup g2)),oc,by rw[hh4]; exact old4 _ _ hoc,hd⟩
  ·obtain ⟨v,oc,hoc,hd⟩:=I3.cell x c (cl_sub x c e)
   exact ⟨v,oc,by rw[hh4]; exact old4 _ _ hoc,hd⟩
  ·exact I3.hok.kept (by rw[hh4]; exact old4)
  ·show (own.map (fun _=>(none:Option V))++fr.map fun p=>(σ[p.2]?).join).length=(own++fr.map (·.1)).length
   simp
 have fY: ∀{H':Hp},(∀b∈fp,H' b=none)→∀b∈fp,qi1 (qbd X scope own fr fp s3 H3) [] H' b:=fun {H'} hn b hb=>
  ⟨hn b hb,(Y0.ok.exf b hb).1,Y0.ok.exfs b hb,.inl hb,(Y0.ok.exf b hb).2,fun p hp=>absurd (show p∈([]:List (Addr×Obj)) from hp) (by simp)⟩
 have st4:tn 0 s4.heap:=T.keep _ _ _ st3 (by rw[hh4]; exact fun b _ o e=>old4 b o e)
 have hcY:(qbd X scope own fr fp s3 H3).calm=true:=hc
 obtain ⟨hg,ht,he⟩:=hb fp s3 H3
 have loop:codeAny (model X.prog X.w) X.A (.compLoop (.ListComp elt [⟨tg,iter,ifs,0⟩] scope pos) 0 (.ref it) (.ref D) (compEnvC scope (qkX X.env scope.names []) s3.heap.objs.size X.env)) (compPost (model X.prog X.w) X.A X.xe use Qf (.ref D) s3.heap.objs.size) s4:=by
  refine qiU (fun n s'=> ∃i σ' H',Inv (qbd X scope own fr fp s3 H3) [] σ' H' s'∧tn i s'.heap∧(∀b∈fp,H' b=none)∧W i n σ' H') ?_ m0 ⟨0,_,_,Y0,st4,fun b hb=>(f3 b hb).2.1,w0⟩
  rintro n s5 ⟨i,σ5,H5,I5,st5,fr5,w5⟩
  rcases qei i n σ5 H5 w5 with ⟨stop,q⟩ | ⟨go,Ny,Nn,hNy,hNn,step⟩
  ·refine thn (T.done (qbd X scope own fr fp s3 H3) rfl rfl rfl hcY i [] s5 σ5 H5 _ I5 (fY fr5) st5 stop) fun r s6 hq127=> ?_
   obtain ⟨hr,I6⟩:=hq127
   subst hr
   have IX:Inv X pins σ H5 s6:=I3.call' (ch:=fp) I6.os I6.base I6.hok I6.bare fun b hb=>⟨(f3 b hb).2.2.2.2.1,(f3 b hb).2.2.1,(f3 b hb).2.2.2.2.2.1,(f3 b hb).2.2.2.2.2.2⟩
   obtain ⟨m6,hn6,_⟩:=I6.loc
   exact fin D _ H5 s6 m6 IX (I3.fpOk (Nat.le_refl _) I6.free) hn6 q
  ·refine thn (T.item (qbd X scope own fr fp s3 H3) rfl rfl rfl hcY i [] s5 σ5 H5 _ I5 (fY fr5) st5 go) fun r s6 hq132=> ?_
   obtain ⟨u,hr,h6⟩:=hq132
   subst hr
   refine thn h6 fun _ s7 hq134=> ?_
   obtain ⟨x,H7,I7,r7,y7,st7,fr7⟩:=hq134
   have I7':=I7.pinned (fY fr7) (T.obj _ _ st7)
   refine thn (hg _ s7 σ5 H7 x u _ I7' r7 (step x H7 y7)) fun _ s8 hq136=> ?_
   obtain ⟨σ8,H8,I8,q8⟩:=hq136
   refine thn (ht _ s8 σ8 H8 _ I8 q8) fun b s9 hq137=> ?_
   obtain ⟨H9,I9,q9⟩:=hq137
   have again: ∀{s':Shared} {H':Hp} {m':Nat},Inv (qbd X scope own fr fp s3 H3) ([]++qfH fp s7.heap) σ8 H' s'→m'<n→W (i+1) m' σ8 H'→∃m,m<n∧∃i σ' H',Inv (qbd X scope own fr fp s3 H3) [] σ' H' s'∧tn i s'.heap∧(∀b∈fp,H' b=none)∧W i m σ' H':=fun {s' H' m'} I' hm w'=>by
    refine ⟨m',hm,i+1,σ8,H',I'.unpinned,T.keep _ _ _ st7 fun b hb o e=>(I'.pin (b,o) (List.mem_append_right _ (List.mem_append_right _ (qcG hb e)))).1,fun b hb=> ?_,w'⟩
    obtain ⟨o,e,d⟩:=T.obj _ _ st7 b hb
    exact (I'.pin (b,o) (List.mem_append_right _ (List.mem_append_right _ (qcG hb e)))).2.1
   cases b with
   | false=>
    obtain ⟨m',hm,w'⟩: ∃m',m'<n∧W (i+1) m' σ8 H9:=hNn σ8 H9 (by simpa using q9)
    show ∃m,_
    exact again I9 hm w'
   | true=>
    have q9':te σ8 H9 (Ny σ8):=by simpa using q9
    show wpAny _ _ _ _ _ _
    refine thn (he _ s9 σ8 H9 _ I9 q9') fun xv s10 hq150=> ?_
    obtain ⟨y,H10,I10,r10,q10⟩:=hq150
    obtain ⟨ys,hys,hlen,m',hm,w'⟩:=hNy σ8 y H10 q10
    refine thn (qd1 _ s10 σ8 H10 (.ref D) [y] (.ref D) [xv] (fun _ H'=> ∃m',m'<n∧W (i+1) m' σ8 H') I10 rfl (.cons r10 .nil) ⟨D,ys,y,rfl,rfl,hys,hlen,m',hm,w'⟩) fun _ s11 hq152=> ?_
    obtain ⟨_,H11,I11,_,m2,hm2,w2⟩:=hq152
    exact again I11 hm2 w2
 refine codeAny_compStart_list ?_ ?_
 ·exact loop
 ·exact T.self X.A 0 s4 _ _ st4 loop
theorem qnV (hc:X.calm=true) (hi:PI X tg iter wi) (hk:scope.kind= .function) (hcell: ∀y∈scope.names,y.2≠.cell) (hnames: ∀y∈scope.names,y.2= .local→scope.names.lookup y.1=some .local)
  (hfree: ∀y∈scope.names,y.2= .free→X.env.kindOf y.1=some .cell∨X.env.kindOf y.1=some .free) (hfr: ∀p∈fr,X.N[p.2]? =some p.1∧scope.names.lookup p.1=some .free)
  (hb: ∀(fp:List Addr) (s3:Shared) (H3:Hp),PG (qbd X scope own fr fp s3 H3) tg g∧qmP (qbd X scope own fr fp s3 H3) ifs tt∧PE (qbd X scope own fr fp s3 H3) elt te)
  (hs: ∀x,foldedSetIterable iter X.env x=pure x:=by intro _; rfl):
  PE X (.ListComp elt [⟨tg,iter,ifs,0⟩] scope pos) (fun σ H Q=>qhl wi g tt te own fr σ H fun D H'=>Q (.ref D) H'):=by
 intro pins s σ H Q I h
 rw[eval_ListComp]
 refine qgb (use:=none) hc hi hk hcell hnames hfree hfr hb hs I h fun D C H' s' m I' f' hn q=> ?_
 obtain ⟨f0,f1,f2,f3,f4,f5⟩:=f'
 exact ⟨m,hn,fun h' hs'=>⟨.ref D,H',I'.turned (t':=s'.toks) (fun b o hb e=>(hs'.2 b hb).trans e) f0 f1 f3 f4 f5,rfl,q⟩⟩
theorem ps_setcomp {i:Nat} {y:Str} {py spos:Pos} (hc:X.calm=true) (hi:PI X tg iter wi) (hk:scope.kind= .function) (hcell: ∀y∈scope.names,y.2≠.cell) (hnames: ∀y∈scope.names,y.2= .local→scope.names.lookup y.1=some .local)
  (hfree: ∀y∈scope.names,y.2= .free→X.env.kindOf y.1=some .cell∨X.env.kindOf y.1=some .free) (hfr: ∀p∈fr,X.N[p.2]? =some p.1∧scope.names.lookup p.1=some .free)
  (hb: ∀(fp:List Addr) (s3:Shared) (H3:Hp),PG (qbd X scope own fr fp s3 H3) tg g∧qmP (qbd X scope own fr fp s3 H3) ifs tt∧PE (qbd X scope own fr fp s3 H3) elt te)
  (hN:X.N.Nodup) (hiN:X.N[i]? =some y) (hy:X.env.scope.names.lookup y=some .local)
  (hsw:swapsWith (.ListComp elt [⟨tg,iter,ifs,0⟩] scope pos) (some (.Name y py)) spos.line X.env=pure true) (hs: ∀x,foldedSetIterable iter X.env x=pure x:=by intro _; rfl):
  PS X (.Assign [.Name y py] (.ListComp elt [⟨tg,iter,ifs,0⟩] scope pos) spos) (fun D σ H=>qhl wi g tt te own fr σ H fun d H'=>D.nx (σ.set i (some (.ref d))) H'):=by
 intro pins s σ H D I h
 rw[exec_Assign_Name_used _ _ _ _ hsw]
 refine wpAny_bind (wpAny_standAt (wpAny_bind ?_))
 show wpAny _ _ (do let _ ←comprehension (.ListComp elt [⟨tg,iter,ifs,0⟩] scope pos) scope X.env _ (newList []) false (eval iter X.env) (some (assign (.Name y py) X.env))) _ _ s
 refine wpAny_bind (thn (qgb (use:=some (assign (.Name y py) X.env)) (Qf:=fun _ s'=>SP X pins D .next s') hc hi hk hcell hnames hfree hfr hb hs I h fun d C H' s' m I' f' hn q=> ?_) fun _ s' hq=>wpAny_pure (wpAny_pure hq))
 obtain ⟨f0,f1,f2,f3,f4,f5⟩:=id f'
 show wpAny _ _ (assign (.Name y py) X.env (.ref d)) _ _ s'
 refine wpAny_assign_Name (qfw I' hN hiN (.inl hy) (v:=.ref d) rfl (fun s'' I'' ⟨a,sb,ha⟩=> ?_) (.inr hy))
 have hne:C≠a:=by
  rcases ha with rfl | ha
  ·exact f1
  ·exact fun z=>f4 y a ha z.symm
 refine ⟨m,hn.sameBut sb hne,fun h' hs'=>⟨_,H',I''.turned (t':=s''.toks) (fun b o hb e=>(hs'.2 b hb).trans e) f0 f1 f3 f4 f5,q⟩⟩
end
theorem qmE {J:It} {n:Nat} {D:Addr} {g:TG} {tt:TT} {te:TE} {σ0:St} {H0:Hp} {Q:Addr→Hp→Prop} (Pv:Nat→List V→St→Hp→Prop) (h0:Pv 0 [] σ0 H0) (hn:n≤sizeLine) (hD: ∀i ys σ H,Pv i ys σ H→H D=some (.lst ys)) (hl: ∀i ys σ H,Pv i ys σ H→ys.length≤i)
  (hgo: ∀i ys σ H,i<n→Pv i ys σ H→J.go i H) (hstop: ∀ys σ H,Pv n ys σ H→J.stop n H∧Q D H)
  (hs: ∀i ys σ H x H',i<n→Pv i ys σ H→J.yld i H x H'→g x σ H' fun σ2 H4=>tt σ2 H4 fun b H5=>if b=true then te σ2 H5 fun y H6=>H6 D=some (.lst ys)∧Pv (i+1) (ys++[y]) σ2 (upd H6 D (.lst (ys++[y]))) else Pv (i+1) ys σ2 H5):
  qqT J D g tt te σ0 H0 Q:=by
 refine ⟨fun i m σ H=>m=n - i∧i≤n∧∃ys,Pv i ys σ H,⟨n,by simp,Nat.zero_le _,[],h0⟩,?_⟩
 rintro i m σ H ⟨rfl,hi,ys,p⟩
 by_cases hlt:i<n
 ·refine .inr ⟨hgo i ys σ H hlt p,fun σ2 y H6=>H6 D=some (.lst ys)∧Pv (i+1) (ys++[y]) σ2 (upd H6 D (.lst (ys++[y]))),fun σ2 H5=>Pv (i+1) ys σ2 H5,fun σ2 y H6 q=>⟨ys,q.1,?_,n - (i+1),by lia,rfl,hlt,_,q.2⟩,fun σ2 H5 q=>⟨n - (i+1),by lia,rfl,hlt,ys,q⟩,fun x H3 y=>hs i ys σ H x H3 hlt p y⟩
  have:=hl i ys σ H p
  lia
 ·have e:i=n:=by lia
  subst e
  exact .inl (hstop ys σ H p)
end L2
end
section
namespace St
open PySem.W PyProof.Rows
def qeo {α:Type} (N:Nat) (ask:Nat→Nat→Bool):KasT α→(α→Prop)→Prop
 | .ret a,Q=>Q a
 | .ask i j k,Q=>i<N∧j<N∧qeo N ask (k (ask i j)) Q
theorem qb9 {α β:Type} {N:Nat} {ask:Nat→Nat→Bool} {f:α→KasT β} {Q:β→Prop}: ∀{t:KasT α},qeo N ask t (fun a=>qeo N ask (f a) Q)→qeo N ask (t.bind f) Q
 | .ret _,h=>h
 | .ask _ _ _,⟨h1,h2,h⟩=>⟨h1,h2,qb9 h⟩
theorem qbx {α:Type} {N:Nat} {ask:Nat→Nat→Bool} {Q Q':α→Prop} (hq: ∀a,Q a→Q' a): ∀{t:KasT α},qeo N ask t Q→qeo N ask t Q'
 | .ret _,h=>hq _ h
 | .ask _ _ _,⟨h1,h2,h⟩=>⟨h1,h2,qbx hq h⟩
def g (p:Array Nat) (i:Nat):Nat:=p.getD i 0
theorem qql {p q:Array Nat} {i j:Nat} (h:p[i]? =q[j]?):g p i=g q j:=by
 unfold g
 rw[Array.getD_eq_getD_getElem?,Array.getD_eq_getD_getElem?,h]
theorem qmk {p:Array Nat} {i j:Nat} (hj:j≤p.size) (t:Nat):g (kas_rev p i j) t=if i≤t∧t<j then g p (i+j - 1 - t) else g p t:=by
 have e:=getElem?_mirror_all (i:=i) hj t
 by_cases h1:i≤t∧t<j
 ·rw[if_pos h1] at e⊢; exact qql e
 ·rw[if_neg h1] at e⊢; exact qql e
theorem qsM {p:Array Nat} {k l:Nat} (hk:k<p.size) (hl:l≤k) (t:Nat):g (bubble p k (k - l)) t=if t=l then g p k else if l<t∧t≤k then g p (t - 1) else g p t:=by
 have e:=getElem?_bubble hk (k - l) (Nat.sub_le _ _) t
 rw[show k - (k - l)=l by lia] at e
 by_cases h1:t=l
 ·rw[if_pos h1] at e⊢; exact qql e
 ·rw[if_neg h1] at e⊢
  by_cases h2:l<t∧t≤k
  ·rw[if_pos h2] at e⊢; exact qql e
  ·rw[if_neg h2] at e⊢; exact qql e
theorem qeV (p:Array Nat) (i j:Nat):(kas_rev p i j).size=p.size:=mirror_size _ _ _ _
section
variable (N:Nat) (k:Nat→Int)
def L (a b:Nat):Prop:=k a<k b∨(k a=k b∧a<b)
structure Pre (n:Nat) (p:Array Nat):Prop where
 sz:p.size=N
 lo: ∀i,i<n→g p i<n
 hi: ∀i,n≤i→i<N→g p i=i
def Srt (p:Array Nat) (n:Nat):Prop:= ∀i j,i<j→j<n→L k (g p i) (g p j)
def Dsc (p:Array Nat) (n:Nat):Prop:= ∀i j,i<j→j<n→L k (g p j) (g p i)
structure qoE (p:Array Nat) (n q:Nat):Prop where
 pre:Pre N n p
 q1:q+1≤n
 a: ∀i j,i<j→j<n - (q+1)→L k (g p j) (g p i)
 b: ∀i j,i<n - (q+1)→n - (q+1)≤j→j<n→k (g p j)<k (g p i)
 c: ∀i j,n - (q+1)≤i→i<j→j<n→k (g p i)=k (g p j)∧g p i<g p j
def qcV:Nat→Nat→Bool:=fun i j=>decide (k i<k j)
end
section
variable {N:Nat} {k:Nat→Int}
theorem Pre.lt {n:Nat} {p:Array Nat} (h:Pre N n p) (hn:n≤N) {i:Nat} (hi:i<N):g p i<N:=by
 by_cases q:i<n
 ·exact Nat.lt_of_lt_of_le (h.lo i q) hn
 ·rw[h.hi i (by lia) hi]; exact hi
theorem L.le {a b:Nat} (h:L k a b):k a≤k b:=by
 rcases h with h | h
 ·lia
 ·lia
theorem Pre.more {n:Nat} {p:Array Nat} (h:Pre N n p) (hn:n<N):Pre N (n+1) p:=
 ⟨h.sz,fun i hi=>by
  by_cases q:i<n
  ·exact Nat.lt_succ_of_lt (h.lo i q)
  ·have e:i=n:=by lia
   subst e
   rw[h.hi i (Nat.le_refl _) hn]; lia,fun i h1 h2=>h.hi i (by lia) h2⟩
theorem qlb {p:Array Nat}: ∀(f n:Nat),1≤n→n+f≤N→Pre N n p→Srt k p n→
  qeo N (qcV k) (kas_asc p f n) fun m=>n≤m∧m≤n+f∧Pre N m p∧Srt k p m∧(m=n+f∨k (g p m)<k (g p (m - 1)))
 | 0,n,h1,hf,hp,hs=>⟨Nat.le_refl _,Nat.le_refl _,hp,hs,.inl rfl⟩
 | f+1,n,h1,hf,hp,hs=>by
  refine ⟨hp.lt (by lia) (by lia),hp.lt (by lia) (by lia),?_⟩
  show qeo N (qcV k) (if qcV k (g p n) (g p (n - 1))=true then .ret n else kas_asc p f (n+1)) _
  by_cases hc:k (g p n)<k (g p (n - 1))
  ·rw[if_pos (by simpa [qcV] using hc)]
   exact ⟨Nat.le_refl _,by lia,hp,hs,.inr hc⟩
  ·rw[if_neg (by simpa [qcV] using hc)]
   have hs':Srt k p (n+1):=fun i j hij hj=>by
    by_cases q:j<n
    ·exact hs i j hij q
    ·have e:j=n:=by lia
     subst e
     have en:=hp.hi j (Nat.le_refl _) (by lia)
     have lt:=hp.lo i hij
     have le:k (g p i)≤k (g p (j - 1)):=by
      by_cases q2:i=j - 1
      ·rw[q2]; exact Int.le_refl _
      ·exact (hs i (j - 1) (by lia) (by lia)).le
     unfold L
     rw[en] at hc⊢
     lia
   refine qbx (fun m h=> ?_) (qlb f (n+1) (by lia) (by lia) (hp.more (by lia)) hs')
   obtain ⟨a,b,c,d,e⟩:=h
   exact ⟨by lia,by lia,c,d,e.elim (fun z=>.inl (by lia)) .inr⟩
def fin (p:Array Nat) (n q:Nat):Array Nat:=if q>0 then kas_rev p (n - (q+1)) n else p
theorem qoE.fin {p:Array Nat} {n q:Nat} (h:qoE N k p n q) (hn:n≤N):Pre N n (fin p n q)∧Dsc k (fin p n q) n:=by
 unfold St.fin
 by_cases hq:q>0
 ·rw[if_pos hq]
  have gr:=qmk (p:=p) (i:=n - (q+1)) (j:=n) (by rw[h.pre.sz]; exact hn)
  refine ⟨⟨by rw[qeV]; exact h.pre.sz,fun i hi=> ?_,fun i h1 h2=> ?_⟩,fun i j hij hj=> ?_⟩
  ·rw[gr]
   split
   ·exact h.pre.lo _ (by lia)
   ·exact h.pre.lo _ hi
  ·rw[gr,if_neg (by lia)]; exact h.pre.hi i h1 h2
  ·rw[gr,gr]
   have hq1:=h.q1
   by_cases q1:n - (q+1)≤j
   ·rw[if_pos (show n - (q+1)≤j∧j<n from ⟨q1,hj⟩)]
    by_cases q2:n - (q+1)≤i
    ·rw[if_pos (show n - (q+1)≤i∧i<n from ⟨q2,by lia⟩)]
     have e:=h.c (n - (q+1)+n - 1 - j) (n - (q+1)+n - 1 - i) (by lia) (by lia) (by lia)
     exact .inr e
    ·rw[if_neg (by lia)]
     exact .inl (h.b i _ (by lia) (by lia) (by lia))
   ·rw[if_neg (by lia),if_neg (by lia)]
    exact h.a i j hij (by lia)
 ·rw[if_neg hq]
  have e:q=0:=by lia
  subst e
  refine ⟨h.pre,fun i j hij hj=> ?_⟩
  have hq1:=h.q1
  by_cases q1:j<n - (0+1)
  ·exact h.a i j hij q1
  ·exact .inl (h.b i j (by lia) (by lia) hj)
theorem qg2: ∀(f:Nat) (p:Array Nat) (n q:Nat),n+f≤N→qoE N k p n q→
  qeo N (qcV k) (kas_desc f p n q) fun r=>n≤r.2.1∧r.2.1≤n+f∧qoE N k r.1 r.2.1 r.2.2
 | 0,p,n,q,hf,h=>⟨Nat.le_refl _,Nat.le_refl _,h⟩
 | f+1,p,n,q,hf,h=>by
  have hq1:=h.q1
  have lt: ∀{i},i<N→g p i<N:=fun hi=>h.pre.lt (by lia) hi
  refine ⟨lt (by lia),lt (by lia),?_⟩
  have en:=h.pre.hi n (Nat.le_refl _) (by lia)
  show qeo N (qcV k) (if qcV k (g p n) (g p (n - 1))=true then (if q>0 then kas_desc f (kas_rev p (n - (q+1)) n) (n+1) 0 else kas_desc f p (n+1) 0)
   else .ask (g p (n - 1)) (g p n) fun d=>if d=true then .ret (p,n,q) else kas_desc f p (n+1) (q+1)) _
  have kle: ∀i,i<n→k (g p (n - 1))≤k (g p i):=fun i hi=>by
   by_cases q1:i<n - (q+1)
   ·exact Int.le_of_lt (h.b i (n - 1) q1 (by lia) (by lia))
   ·by_cases q2:i=n - 1
    ·rw[q2]; exact Int.le_refl _
    ·exact Int.le_of_eq (h.c i (n - 1) (by lia) (by lia) (by lia)).1.symm
  by_cases hc:k (g p n)<k (g p (n - 1))
  ·rw[if_pos (by simpa [qcV] using hc)]
   have key:qoE N k (fin p n q) (n+1) 0:=by
    obtain ⟨fp,fd⟩:=h.fin (by lia)
    have e2:=fp.hi n (Nat.le_refl _) (by lia)
    refine ⟨fp.more (by lia),by lia,fun i j hij hj=>fd i j hij (by lia),fun i j hi h1 h2=> ?_,fun i j h1 h2 h3=>by lia⟩
    have ej:j=n:=by lia
    subst ej
    rw[e2]
    rw[en] at hc
    refine Int.lt_of_lt_of_le hc ?_
    have: ∃i',i'<j∧g (fin p j q) i=g p i':=by
     unfold St.fin
     by_cases hq:q>0
     ·rw[if_pos hq,qmk (by rw[h.pre.sz]; lia)]
      split
      ·exact ⟨_,by lia,rfl⟩
      ·exact ⟨i,by lia,rfl⟩
     ·rw[if_neg hq]
      exact ⟨i,by lia,rfl⟩
    obtain ⟨i',hi',e3⟩:=this
    rw[e3]
    exact kle i' hi'
   have e:(if q>0 then kas_desc f (kas_rev p (n - (q+1)) n) (n+1) 0 else kas_desc f p (n+1) 0)=kas_desc f (fin p n q) (n+1) 0:=by
    unfold St.fin
    split<;>rfl
   rw[e]
   refine qbx (fun r hr=>⟨by lia,by lia,hr.2.2⟩) (qg2 f (fin p n q) (n+1) 0 (by lia) key)
  ·rw[if_neg (by simpa [qcV] using hc)]
   refine ⟨lt (by lia),lt (by lia),?_⟩
   show qeo N (qcV k) (if qcV k (g p (n - 1)) (g p n)=true then .ret (p,n,q) else kas_desc f p (n+1) (q+1)) _
   by_cases hd:k (g p (n - 1))<k (g p n)
   ·rw[if_pos (by simpa [qcV] using hd)]
    exact ⟨Nat.le_refl _,Nat.le_add_right _ _,h⟩
   ·rw[if_neg (by simpa [qcV] using hd)]
    have ek:k (g p n)=k (g p (n - 1)):=by lia
    have key:qoE N k p (n+1) (q+1):=by
     refine ⟨h.pre.more (by lia),by lia,fun i j hij hj=>h.a i j hij (by lia),fun i j hi h1 h2=> ?_,fun i j h1 h2 h3=> ?_⟩
     ·by_cases e:j=n
      ·subst e
       rw[ek]
       exact h.b i (j - 1) (by lia) (by lia) (by lia)
      ·exact h.b i j (by lia) (by lia) (by lia)
     ·by_cases e:j=n
      ·subst e
       refine ⟨?_,?_⟩
       ·rw[ek]
        by_cases e2:i=j - 1
        ·rw[e2]
        ·exact (h.c i (j - 1) (by lia) (by lia) (by lia)).1
       ·rw[en]; exact h.pre.lo i h2
      ·exact h.c i j (by lia) h2 (by lia)
    exact qbx (fun r hr=>⟨by lia,by lia,hr.2.2⟩) (qg2 f p (n+1) (q+1) (by lia) key)
def Out (N:Nat) (k:Nat→Int) (r:Nat×Array Nat):Prop:=1≤r.1∧r.1≤N∧Pre N r.1 r.2∧Srt k r.2 r.1
theorem qnw {p:Array Nat} {n:Nat} (h1:1≤n) (hn:n≤N) (hp:Pre N n p) (hd:Dsc k p n):qeo N (qcV k) (kas_tail3 n N p) (Out N k):=by
 have gr:=qmk (p:=p) (i:=0) (j:=n) (by rw[hp.sz]; exact hn)
 refine qb9 (qbx (fun m h=> ?_) (qlb (p:=kas_rev p 0 n) (N - n) n h1 (by lia) ⟨by rw[qeV]; exact hp.sz,fun i hi=> ?_,fun i h2 h3=> ?_⟩ fun i j hij hj=> ?_))
 ·exact ⟨by lia,by lia,h.2.2.1,h.2.2.2.1⟩
 ·rw[gr,if_pos ⟨Nat.zero_le _,hi⟩]; exact hp.lo _ (by lia)
 ·rw[gr,if_neg (by lia)]; exact hp.hi i h2 h3
 ·rw[gr,gr,if_pos ⟨Nat.zero_le _,by lia⟩,if_pos ⟨Nat.zero_le _,hj⟩]
  exact hd _ _ (by lia) (by lia)
theorem qeb {p:Array Nat} {n:Nat} (hn:n+1≤N) (h:qoE N k p (n+1) 0):qeo N (qcV k) (kas_descPart n N p) (Out N k):=by
 refine qb9 (qbx (fun r hr=> ?_) (qg2 (N - (n+1)) p (n+1) 0 (by lia) h))
 obtain ⟨h1,h2,h3⟩:=hr
 obtain ⟨f1,f2⟩:=h3.fin (by lia)
 have e:(if r.2.2>0 then kas_tail3 r.2.1 N (kas_rev r.1 (r.2.1 - (r.2.2+1)) r.2.1) else kas_tail3 r.2.1 N r.1)=kas_tail3 r.2.1 N (fin r.1 r.2.1 r.2.2):=by
  unfold St.fin
  split<;>rfl
 show qeo N (qcV k) (if r.2.2>0 then kas_tail3 r.2.1 N (kas_rev r.1 (r.2.1 - (r.2.2+1)) r.2.1) else kas_tail3 r.2.1 N r.1) _
 rw[e]
 exact qnw (by lia) (by lia) f1 f2
theorem qmD {p:Array Nat} (hN:1≤N) (hp:Pre N 1 p):qeo N (qcV k) (kas_count N p) (Out N k):=by
 refine qb9 (qbx (fun n h=> ?_) (qlb (p:=p) (N - 1) 1 (Nat.le_refl _) (by lia) hp fun i j h1 h2=>by lia))
 obtain ⟨h1,h2,h3,h4,h5⟩:=h
 by_cases e:n=N
 ·rw[if_pos (by simpa using e)]
  exact ⟨h1,by lia,h3,h4⟩
 ·rw[if_neg (by simpa using e)]
  have hlt:k (g p n)<k (g p (n - 1)):=h5.resolve_left (by lia)
  by_cases hg:n>1
  ·rw[if_pos hg]
   refine ⟨h3.lt (by lia) (by lia),h3.lt (by lia) (by lia),?_⟩
   show qeo N (qcV k) (if qcV k (g p 0) (g p (n - 1))=true then .ret (n,p) else kas_descPart n N (kas_rev p 0 n)) _
   by_cases hc:k (g p 0)<k (g p (n - 1))
   ·rw[if_pos (by simpa [qcV] using hc)]
    exact ⟨h1,by lia,h3,h4⟩
   ·rw[if_neg (by simpa [qcV] using hc)]
    have gr:=qmk (p:=p) (i:=0) (j:=n) (by rw[h3.sz]; lia)
    have like: ∀i,i<n→k (g p i)=k (g p (n - 1)):=fun i hi=>by
     have a1:k (g p 0)≤k (g p i):=by
      by_cases q:i=0
      ·rw[q]; exact Int.le_refl _
      ·exact (h4 0 i (by lia) hi).le
     have a2:k (g p i)≤k (g p (n - 1)):=by
      by_cases q:i=n - 1
      ·rw[q]; exact Int.le_refl _
      ·exact (h4 i (n - 1) (by lia) (by lia)).le
     lia
    refine qeb (by lia) ⟨Pre.more ⟨by rw[qeV]; exact h3.sz,fun i hi=> ?_,fun i q1 q2=> ?_⟩ (by lia),by lia,fun i j hij hj=> ?_,fun i j hi q1 q2=> ?_,fun i j q1 q2 q3=>by lia⟩
    ·rw[gr,if_pos ⟨Nat.zero_le _,hi⟩]; exact h3.lo _ (by lia)
    ·rw[gr,if_neg (by lia)]; exact h3.hi i q1 q2
    ·rw[gr,gr,if_pos ⟨Nat.zero_le _,by lia⟩,if_pos ⟨Nat.zero_le _,by lia⟩]
     exact h4 _ _ (by lia) (by lia)
    ·have ej:j=n:=by lia
     subst ej
     have hi':i<j:=by simpa using hi
     have e1:g (kas_rev p 0 j) j=g p j:=by rw[gr,if_neg (by lia)]
     have e2:g (kas_rev p 0 j) i=g p (0+j - 1 - i):=by rw[gr,if_pos ⟨Nat.zero_le _,hi'⟩]
     rw[e1,e2,like (0+j - 1 - i) (by lia)]
     exact hlt
  ·rw[if_neg hg]
   have e1:n=1:=by lia
   subst e1
   refine qeb (by lia) ⟨h3.more (by lia),by lia,fun i j hij hj=>by lia,fun i j hi q1 q2=> ?_,fun i j q1 q2 q3=>by lia⟩
   have ei:i=0:=by lia
   have ej:j=1:=by lia
   subst ei ej
   exact hlt
theorem qe0 {p:Array Nat} {n:Nat} (hn:n<N) (hp:Pre N n p) (hs:Srt k p n): ∀(f l r:Nat),l≤r→r≤n→r - l≤f→(∀i,i<l→k (g p i)≤k (g p n))→(∀i,r≤i→i<n→k (g p n)<k (g p i))→
  qeo N (qcV k) (kas_place p n f l r) fun m=>m≤n∧(∀i,i<m→k (g p i)≤k (g p n))∧∀i,m≤i→i<n→k (g p n)<k (g p i)
 | 0,l,r,h1,h2,h3,hl,hr=>⟨by lia,hl,fun i q1 q2=>hr i (by lia) q2⟩
 | f+1,l,r,h1,h2,h3,hl,hr=>by
  unfold kas_place
  by_cases hge:l≥r
  ·rw[if_pos hge]
   exact ⟨by lia,hl,fun i q1 q2=>hr i (by lia) q2⟩
  ·rw[if_neg hge]
   refine ⟨hp.lt (by lia) hn,hp.lt (by lia) (by lia),?_⟩
   show qeo N (qcV k) (if qcV k (g p n) (g p ((l+r) / 2))=true then kas_place p n f l ((l+r) / 2) else kas_place p n f ((l+r) / 2+1) r) _
   have srt: ∀i j,i≤j→j<n→k (g p i)≤k (g p j):=fun i j hij hj=>by
    by_cases q:i=j
    ·rw[q]; exact Int.le_refl _
    ·exact (hs i j (by lia) hj).le
   by_cases hc:k (g p n)<k (g p ((l+r) / 2))
   ·rw[if_pos (by simpa [qcV] using hc)]
    exact qe0 hn hp hs f l _ (by lia) (by lia) (by lia) hl fun i q1 q2=>Int.lt_of_lt_of_le hc (srt _ _ q1 q2)
   ·rw[if_neg (by simpa [qcV] using hc)]
    refine qe0 hn hp hs f _ r (by lia) (by lia) (by lia) (fun i q1=> ?_) hr
    have:=srt i ((l+r) / 2) (by lia) (by lia)
    lia
theorem qnq: ∀(f:Nat) (p:Array Nat) (n:Nat),n+f=N→Pre N n p→Srt k p n→qeo N (qcV k) (kas_bin f p n) fun p'=>Pre N N p'∧Srt k p' N
 | 0,p,n,hf,hp,hs=>by
  have e:n=N:=by lia
  subst e
  exact ⟨hp,hs⟩
 | f+1,p,n,hf,hp,hs=>by
  refine qb9 (qbx (fun l h=> ?_) (qe0 (by lia) hp hs n 0 n (by lia) (Nat.le_refl _) (by lia) (fun i q=>by lia) fun i q1 q2=>by lia))
  obtain ⟨h1,h2,h3⟩:=h
  have gb:=qsM (p:=p) (k:=n) (l:=l) (by rw[hp.sz]; lia) h1
  have en:=hp.hi n (Nat.le_refl _) (by lia)
  refine qnq f _ (n+1) (by lia) ⟨by rw[bubble_size]; exact hp.sz,fun i hi=> ?_,fun i q1 q2=> ?_⟩ fun i j hij hj=> ?_
  ·rw[gb]
   split
   ·rw[en]; lia
   ·split
    ·exact Nat.lt_succ_of_lt (hp.lo _ (by lia))
    ·exact Nat.lt_succ_of_lt (hp.lo _ (by lia))
  ·rw[gb,if_neg (by lia),if_neg (by lia)]; exact hp.hi i (by lia) q2
  ·rw[gb,gb]
   by_cases c1:j=l
   ·rw[if_pos c1,if_neg (by lia),if_neg (by lia)]
    have a1:=h2 i (by lia)
    have a2:=hp.lo i (by lia)
    unfold L
    rw[en] at a1⊢
    lia
   ·rw[if_neg c1]
    by_cases c2:l<j∧j≤n
    ·rw[if_pos c2]
     by_cases c3:i=l
     ·rw[if_pos c3]
      exact .inl (h3 _ (by lia) (by lia))
     ·rw[if_neg c3]
      by_cases c4:l<i∧i≤n
      ·rw[if_pos c4]; exact hs _ _ (by lia) (by lia)
      ·rw[if_neg c4]; exact hs _ _ (by lia) (by lia)
    ·rw[if_neg c2,if_neg (by lia),if_neg (by lia)]
     exact hs _ _ hij (by lia)
theorem qjd (hN:1≤N):qeo N (qcV k) (kas_sort N) fun p=>Pre N N p∧Srt k p N:=by
 have gr: ∀i,i<N→g (List.toArray (List.range N)) i=i:=fun i hi=>by
  unfold g
  rw[Array.getD_eq_getD_getElem?]
  simp[hi]
 refine qb9 (qbx (fun r h=> ?_) (qmD hN ⟨by simp,fun i hi=> ?_,fun i h1 h2=>gr i h2⟩))
 ·obtain ⟨h1,h2,h3,h4⟩:=h
  by_cases c:r.1<N
  ·rw[if_pos c,show max r.1 1=r.1 by lia]
   exact qnq _ _ _ (by lia) h3 h4
  ·rw[if_neg c]
   have e:r.1=N:=by lia
   rw[e] at h3 h4
   exact ⟨h3,h4⟩
 ·rw[gr i (by lia)]; exact hi
end
end St
end
section
namespace St
open PySem PySem.W PySem.Calls PyProof.Rows
theorem qgT {α:Type} {N:Nat} {ask:Nat→Nat→Bool} {cmp:Nat→Nat→(Bool→Shared→Prop)→Shared→Prop} {Q:α→Shared→Prop} {Q':α→Prop} {s:Shared}
  (hc: ∀i j (C:Bool→Shared→Prop),i<N→j<N→C (ask i j) s→cmp i j C s) (hq: ∀a,Q' a→Q a s): ∀{t:KasT α},qeo N ask t Q'→t.kasWp cmp Q s
 | .ret a,h=>hq a h
 | .ask i j k,⟨h1,h2,h⟩=>hc i j _ h1 h2 (qgT hc hq h)
def qcn (kz:List Int) (n:Nat) (p:Array Nat):Prop:=Pre n n p∧Srt (fun i=>kz.getD i 0) p n
abbrev Kp (h h':Heap):Prop:= ∀b o,h.get? b=some o→h'.get? b=some o
section
variable {prog:Program} {w:World} {A:Around} {E:Value→Shared→Prop} {s:Shared} {D kS:Addr} {vs:List Value} {kz:List Int} {P:PySem.Fin→Shared→Prop} {h0:Heap}
theorem qmS {st:SortSt} {keys:Array Value} {e e1:Nat} {p:Array Nat} (hk:s.heap.get? kS=some (seqObj "list" keys e)) (hD:s.heap.get? D=some (seqObj "list" #[] e1)) (hkD:kS≠D) (h64:vs.length<64) (hks:keys.size≤64)
  (kp:Kp h0 s.heap) (hD0:h0.get? D=none) (hk0:h0.get? kS=none) (ho:qcn kz vs.length p) (har:(arrOf st).map (·.2)=List.toArray (p.toList.map fun i=>vs.getD i Value.none)) (hfl:failedOf st=none)
  (h: ∀h' tk c,Kp h0 h'→h'.get? D=some (seqObj "list" (List.toArray (p.toList.map fun i=>vs.getD i Value.none)) c)→P (.done (.ret .none)) { s with heap:=h',toks:=tk }):
  wpAny (model prog w) A (ksk_tail D false e1 (.ref kS) st) P E s:=by
 unfold ksk_tail
 have s1:=Heap.SameBut.update s.heap kS (Obj.mapSeq fun _=>(#[]:Array Value))
 have hD1:(s.heap.update kS (Obj.mapSeq fun _=>(#[]:Array Value))).get? D=some (seqObj "list" #[] e1):=(s1.2 D hkD.symm).trans hD
 have hsz:(p.toList.map fun i=>vs.getD i Value.none).length=vs.length:=by rw[List.length_map,Array.length_toList,ho.1.sz]
 refine wpAny_bind (listUpdate_at hk rfl ?_ (Nat.le_trans hks (by rw[sizeLine_eq]; decide)) (Nat.zero_le _))
 refine wpAny_bind (wpAny_letGo ?_)
 refine wpAny_bind (seqEpoch_at hD1 rfl ?_)
 rw[har]
 refine wpAny_bind (listUpdate_at hD1 rfl ?_ (Nat.zero_le _) (by show (List.toArray _).size≤_; rw[List.size_toArray,hsz,sizeLine_eq]; lia))
 rw[hfl]
 simp only[bne_self_eq_false,Bool.false_eq_true,if_false]
 have hfin: ∃c,((s.heap.update kS (Obj.mapSeq fun _=>(#[]:Array Value))).update D (Obj.mapSeq fun _=>List.toArray (p.toList.map fun i=>vs.getD i Value.none))).get? D=some (seqObj "list" (List.toArray (p.toList.map fun i=>vs.getD i Value.none)) c):=⟨_,get?_update_seq hD1 fun _=>List.toArray (p.toList.map fun i=>vs.getD i Value.none)⟩
 obtain ⟨c,hc⟩:=hfin
 refine wpAny_pure (h _ _ c (fun b o q=> ?_) hc)
 have nk:b≠kS:=fun z=>by rw[z,hk0] at q; cases q
 have nD:b≠D:=fun z=>by rw[z,hD0] at q; cases q
 exact ((Heap.SameBut.update (s.heap.update kS (Obj.mapSeq fun _=>(#[]:Array Value))) D _).2 b nD).trans ((s1.2 b nk).trans (kp b o q))
end
section
variable {prog:Program} {w:World} {A:Around} {E:Value→Shared→Prop} {s:Shared} {l:Addr} {vs:List Value} {kz:List Int} {Q:Value→Shared→Prop}
theorem get_none {h:Heap} {a:Addr} (x:h.objs.size≤a):h.get? a=none:=Heap.get?_none_of_le x
end
end St
end
section
namespace L2
open PySem PySem.Spec PyProof.Rows
theorem Inv.grow {X:Cx} {pins:List (Addr×Obj)} {σ:St} {H:Hp} {s:Shared} {P c':Addr} {ps more:Array Value} {h':Heap} {φ:Heap→Prop} {t':Nat} (I:Inv X pins σ H s) (hP:H P=some (.tbl ps)) (hx:Heap.ExtBut P s.heap h')
  (hP':h'.get? P=some (PySem.W.tabObj (ps++more))) (hc:s.heap.objs.size≤c') (hφ:qbu X.prog X.w (upd (upd H P (.tbl (ps++more))) c' (.ext φ)) h' c' (.ext φ)):
  Inv X pins σ (upd (upd H P (.tbl (ps++more))) c' (.ext φ)) { s with heap:=h',toks:=t' }:=by
 have nc: ∀b o,s.heap.get? b=some o→b≠c':=fun b o e=>Nat.ne_of_lt (Nat.lt_of_lt_of_le (Heap.lt_size e) hc)
 have nct: ∀b u,H b=some u→b≠c':=fun b u e z=>by rw[z,I.hok.fresh hc] at e; cases e
 have nP: ∀b,H b=none→b≠P:=fun b e z=>by rw[z,hP] at e; cases e
 have hPl:=(I.hok P _ hP).lt
 have cP:P≠c':=nct P _ hP
 refine I.step (g':=s.gens) (d':=s.drawn) (ch:=[]) (fun _ z=>nomatch z) (fun b o _ _ _ e n=>hx b o (nP b n) e) (fun b o _ _ _ e n=>⟨o.slots,hx b o (nP b n) e⟩) (fun b o _ e n=>by rw[qaj (nc b o e),qaj (nP b n)]; exact n)
  (fun b o _ e=> ?_) (fun b xs e=> ?_) (fun b o u e=> ?_) (fun b qs e=> ?_) (fun m hm=> ?_) (fun b u e=> ?_) I.bare
 ·by_cases z:b=P
  ·exact ⟨_,by rw[z]; exact hP'⟩
  ·exact ⟨o,hx b o z e⟩
 ·rw[qaj (nct b _ e),qaj (fun z=>by rw[z,hP] at e; cases e)]; exact e
 ·rw[qaj (nct b _ e),qaj (fun z=>by rw[z,hP] at e; cases e)]; exact e
 ·by_cases z:b=P
  ·subst z
   rw[hP] at e; cases e
   exact ⟨more,by rw[qaj cP,qan]⟩
  ·exact ⟨#[],by rw[qaj (nct b _ e),qaj z,e]; simp⟩
 ·exact hm.extBut hx (nP _ I.free)
 ·by_cases z:b=c'
  ·subst z
   rw[qan] at e; cases e
   exact hφ
  ·rw[qaj z] at e
   by_cases z2:b=P
   ·subst z2
    rw[qan] at e; cases e
    exact hP'
   ·rw[qaj z2] at e
    refine (I.hok b u e).stay (fun c v hc2 q=>hx c v ?_ q) (fun c q=> ?_) fun c xs q=> ?_
    ·rcases hc2 with rfl | hc2
     ·exact z2
     ·intro z3; rw[z3,hP] at hc2; cases hc2
    ·rw[qaj (nct c _ q),qaj (fun z3=>by rw[z3,hP] at q; cases q)]; exact q
    ·rw[qaj (nct c _ q),qaj (fun z3=>by rw[z3,hP] at q; cases q)]; exact q
def qqK (c:Addr) (qual:Str):HO:=.ext fun h=>h.CodeRec (.ref c) qual
def Tab (P:Addr) (pos:Pos) (qual:Str) (H:Hp):Prop:=
 ∃ps,H P=some (.tbl ps)∧PySem.TriplesOk ps.toList∧(PySem.codeAmong pos ps.toList=none∨∃c,PySem.codeAmong pos ps.toList=some (.ref c)∧H c=some (qqK c qual))
theorem qdn {a b:Value} {c:Value} {la lb:Int} {ta tb:Tok} (ha:a= .int la ta) (hb:b= .int lb tb): ∀(l:List Value),PySem.TriplesOk l→PySem.TriplesOk (l++[a,b,c])
 | [],_=>by subst ha hb; exact trivial
 | [_],h=>by cases ‹Value› <;>exact h.elim
 | [x,y],h=>by cases x<;>first | exact h.elim | (cases y<;>exact h.elim)
 | x::y::z::r,h=>by
  cases x<;>first | exact h.elim | skip
  cases y<;>first | exact h.elim | skip
  exact qdn ha hb r h
theorem qg9 {c:Addr} {qual:Str} {h h':Heap} (x:h.CodeRec (.ref c) qual) (k: ∀o,h.get? c=some o→h'.get? c=some o):h'.CodeRec (.ref c) qual:=by
 obtain ⟨c2,oc,vs,tq,e,ho,hd,hq⟩:=x
 cases e
 exact ⟨c,oc,vs,tq,rfl,k _ ho,hd,hq⟩
def qiZ (P:Addr) (H H':Hp):Prop:= ∀b o,H b=some o→b≠P→H' b=some o
theorem qhI {X:Cx} {pins:List (Addr×Obj)} {σ:St} {H:Hp} {s:Shared} {P c:Addr} {params:Arguments} {body:Expr} {scope:Scope} {pos:Pos} {qual:Str} {E:Value→Shared→Prop} {Q:Value→Shared→Prop} (I:Inv X pins σ H s)
  (hcode:X.env.code= .ref c) (C:PySem.W.CodeHd X.base c P) (hb: ∃bm ob,X.mg "__builtins__" =some (.ref bm)∧bm≠builtinsNs∧X.base.get? bm=some ob∧ob.cls= .type "module" ∧ob.dict=some builtinsNs∧ob.data= .plain)
  (hfree: ∀x∈scope.names,x.2≠.free) (hd:defaultsOf params X.env=([],[])) (hq:X.env.qual++("<lambda>" :Str)=qual) (hT:Tab P pos qual H)
  (h: ∀(f c':Addr) (ctv:Value) (H':Hp) (s':Shared),Inv X pins σ H' s'→Tab P pos qual H'→qiZ P H H'→(∀b,H b≠none→H' b≠none)→(∀b o,s.heap.get? b=some o→b≠P→s'.heap.get? b=some o)→s.heap.objs.size≤f→H' f=none→
   s'.heap.get? f=some (PySem.W.kla_obj "<lambda>" qual params body scope [] ((X.mg "__name__").getD .none) c' ctv)→s'.heap.CodeRec (.ref c') qual→Q (.ref f) s'):
  wpAny (model X.prog X.w) X.A (eval (.Lambda params body scope pos) X.env) Q E s:=by
 obtain ⟨ps,hP,htr,hor⟩:=hT
 have hgP:mainGlobals≠P:=fun z=>by
  obtain ⟨o,es,ep,e,hdd,_⟩:=I.mod.glob
  have:=(I.bs _ _ e).2
  rw[z,hP] at this; cases this
 have hPo:s.heap.get? P=some (PySem.W.tabObj ps):=I.hok P _ hP
 have CS:PySem.W.CodeHd s.heap c P:=C.keeps I.bk
 have hbS:s.heap.BuiltinsAt X.mg P:=by
  obtain ⟨bm,ob,b1,b2,b3,b4,b5,b6⟩:=hb
  refine ⟨bm,ob,b1,b2,fun z=> ?_,fun z=> ?_,I.bk _ _ b3,b4,b5,b6⟩
  ·obtain ⟨o,es,ep,e,hdd,_⟩:=I.mod.glob
   rw[z,e] at b3; cases b3; rw[hdd] at b6; cases b6
  ·have:=(I.bs _ _ b3).2
   rw[z,hP] at this; cases this
 have hg:s.heap.Ns mainGlobals X.mg:=I.mod.glob.keeps I.bk
 refine PySem.W.kla_eval hd ?_
 rw[hq]
 rcases hor with hn | ⟨c2,hs,hH⟩
 ·refine PySem.W.kla_makeFunction (closureFor_none hfree) I.ok.glob hg hcode CS hPo htr hn hgP hbS fun c' ctv h' tk hx hge hlt hrec htb=> ?_
  have I1:Inv X pins σ (upd (upd H P (.tbl (ps++ #[rawInt pos.line,rawInt pos.col,.ref c']))) c' (qqK c' qual)) { s with heap:=h',toks:=tk }:=I.grow hP hx htb hge ⟨hrec,by
    obtain ⟨c2,oc,vs,tq,e,ho,_⟩:=hrec
    cases e
    exact ⟨oc,ho⟩,fun h1 h2 p k=>qg9 p k⟩
  have nP:P≠c':=Nat.ne_of_lt (Nat.lt_of_lt_of_le (I.hok P _ hP).lt hge)
  have sz:s.heap.objs.size≤h'.objs.size:=Nat.le_trans hge (Nat.le_of_lt hlt)
  refine h _ c' ctv _ _ (I1.kept (t':=tk) fun b u e=>Heap.get?_push_of_some _ e) ⟨_,by rw[qaj nP,qan],?_,.inr ⟨c',?_,qan⟩⟩ (fun b o e hb=> ?_) (fun b e=> ?_) (fun b o e hb=>Heap.get?_push_of_some _ (hx b o hb e)) sz ?_ (Heap.get?_push_size _ rfl) (hrec.keeps fun b o e=>Heap.get?_push_of_some _ e)
  ·rw[Array.toList_append]
   exact qdn rfl rfl _ htr
  ·rw[Array.toList_append]
   exact PySem.codeAmong_snoc _ htr hn
  ·rw[qaj (Nat.ne_of_lt (Nat.lt_of_lt_of_le (I.hok b _ e).lt hge)),qaj hb]; exact e
  ·by_cases z:b=c'
   ·rw[z,qan]; simp
   ·rw[qaj z]
    by_cases z2:b=P
    ·rw[z2,qan]; simp
    ·rw[qaj z2]; exact e
  ·exact I1.hok.fresh (Nat.le_refl _)
 ·refine PySem.W.kla_makeFunctionHit (cv:=.ref c2) (closureFor_none hfree) I.ok.glob hg hcode CS hPo htr hs hbS fun ctv h' tk kp sz=> ?_
  have I1:Inv X pins σ H { s with heap:=h',toks:=tk }:=I.kept (t':=tk) kp
  have hrec:h'.CodeRec (.ref c2) qual:=(I1.hok c2 _ hH).1
  exact h _ c2 ctv H _ (I1.kept (t':=tk) fun b u e=>Heap.get?_push_of_some _ e) ⟨ps,hP,htr,.inr ⟨c2,hs,hH⟩⟩ (fun b o e _=>e) (fun b e=>e) (fun b o e _=>Heap.get?_push_of_some _ (kp b o e)) sz (I1.hok.fresh (Nat.le_refl _)) (Heap.get?_push_size _ rfl)
   (hrec.keeps fun b o e=>Heap.get?_push_of_some _ e)
end L2
end
section
namespace L2
open PySem PySem.Spec PyProof.Rows
theorem qiZ.seqL {K:PySem.W.Frag} {P:Addr} {H H':Hp} {a:Addr} {xs:List V} {ps:Array Value} (e:qiZ P H H') (hP:H P=some (.tbl ps)) (h:SqL K H a xs):SqL K H' a xs:=by
 rcases h with (h | ⟨o,h⟩) | h
 ·exact .inl (.inl (e _ _ h fun z=>by rw[z,hP] at h; cases h))
 ·exact .inl (.inr ⟨o,e _ _ h fun z=>by rw[z,hP] at h; cases h⟩)
 ·exact .inr h
theorem qcW {xs:List V} {us:List Value} (r:Vals xs us) (j:Nat):RelV (xs.getD j .non) (us.getD j .none):=by
 induction r generalizing j with
 | nil=>exact rfl
 | cons a t ih=>
  cases j with
  | zero=>exact a
  | succ j=>simpa using ih j
theorem vals_pick {xs:List V} {us:List Value} (r:Vals xs us): ∀l:List Nat,Vals (l.map fun j=>xs.getD j .non) (l.map fun j=>us.getD j .none)
 | []=>.nil
 | j::l=>.cons (qcW r j) (vals_pick r l)
section
variable {X:Cx} {e:Expr} {te:TE} {x:Str} {P c:Addr} {params:Arguments} {scope:Scope} {p1 p2 p3 lpos kpos p pos:Pos} {i j:Nat} {qual:Str}
end
end L2
end
section
namespace L2
open PySem PySem.Spec PyProof.Rows
section
variable {X:Cx}
theorem ql1:OpR X (compareOp .Is) (fun x y H Q=> ∃c d,x= .bl c∧y= .bl d∧Q (.bl (c==d)) H):=by
 intro pins s σ H x y v u Q I rx ry h
 obtain ⟨c,d,rfl,rfl,q⟩:=h
 cases rx; cases ry
 exact is_bool ⟨.bl (c==d),H,I,rfl,q⟩
theorem qjP:OpR X (compareOp .LtE) (fun x y H Q=> ∃i j,x= .str i∧y= .str j∧Q (.bl (!decide (j.cps.toList<i.cps.toList))) H):=by
 intro pins s σ H x y v u Q I rx ry h
 obtain ⟨i,j,rfl,rfl,q⟩:=h
 obtain ⟨t,rfl⟩:=rx
 obtain ⟨t',rfl⟩:=ry
 exact PySem.P.le_str ⟨.bl _,H,I,rfl,q⟩
theorem qeQ: ∀{bs:List Bool} {us:List Value},Vals (bs.map V.bl) us→us=bs.map Value.bool
 | [],_,.nil=>rfl
 | b::bs,_,.cons r t=>by
  have e:_=Value.bool b:=r
  rw[e,qeQ t]
  rfl
theorem qjB (bs:List Bool):(List.range bs.length).all (fun i=>bs.getD i false)=bs.all id:=by
 rw[Bool.eq_iff_iff,List.all_eq_true,List.all_eq_true]
 constructor
 ·intro h b hb
  obtain ⟨i,hi,rfl⟩:=List.mem_iff_getElem.mp hb
  have:=h i (List.mem_range.mpr hi)
  simpa [List.getD_eq_getElem?_getD,hi] using this
 ·intro h i hi
  have hi':=List.mem_range.mp hi
  have:=h bs[i] (List.getElem_mem hi')
  simpa [List.getD_eq_getElem?_getD,hi'] using this
theorem qdL (hc:X.calm=true):qdC X (.builtin "all") (fun xs H Q=> ∃(a:Addr) (bs:List Bool),xs=[.ref a]∧SqL X.K H a (bs.map V.bl)∧Q (.bl (bs.all id)) H):=by
 intro pins s σ H xs us Q I r h
 obtain ⟨a,bs,rfl,hS,q⟩:=h
 obtain ⟨u,rfl,ru⟩:=qek r
 cases ru
 obtain ⟨its,rv,pl,hz⟩:=I.list hS
 have e:=qeQ rv
 have hlt:a<s.heap.objs.size:=Heap.lt_size pl.isList.choose_spec.1
 have hh:X.A.in1.handled=none:=I.ok.hd hc
 refine call_all_walk (wpAny_pyIter_list pl.isList ?_)
 refine ⟨s.heap.objs.size,_,_,its.toArray.size,_,_,fun i=>bs.getD i false,rfl,Walks.list hh s.heap.objs.size a (Nat.ne_of_lt hlt) its.toArray,⟨⟨_,Heap.get?_push_size _ rfl,rfl,rfl⟩,pl.isList.at fun o e=>Heap.get?_push_of_some _ e⟩,fun i v s' Q' E' hv hq=> ?_,fun h' tk k=> ?_⟩
 ·rw[e] at hv
  have hv':(bs.map Value.bool)[i]? =some v:=by simpa using hv
  rw[List.getElem?_map] at hv'
  cases z:bs[i]? with
  | none=>rw[z] at hv'; cases hv'
  | some b=>
   rw[z] at hv'
   cases hv'
   have eb:bs.getD i false=b:=by simp[List.getD_eq_getElem?_getD,z]
   have hq':Q' (bs.getD i false) s':=hq
   rw[eb] at hq'
   exact wpAny_truthy_bool hq'
 ·have en:its.toArray.size=bs.length:=by rw[e]; simp
  rw[en,qjB]
  refine ⟨.bl (bs.all id),H,?_,rfl,q⟩
  refine I.kept (t':=tk) fun b o eo=>k b o ?_ (Heap.get?_push_of_some _ eo)
  intro z
  have:b=s.heap.objs.size:=by simpa using z
  exact Nat.ne_of_lt (Heap.lt_size eo) this
def VEq (X:Cx) (H:Hp) (x y:V) (b:Bool):Prop:= ∀(pins:List (Addr×Obj)) (σ:St) (s:Shared) (u v:Value),Inv X pins σ H s→RelV x u→RelV y v→SeqAt.EqAt X.A.in1 s u v b
theorem VEq.ref {H:Hp} (a:Addr):VEq X H (.ref a) (.ref a) true:=fun pins σ s u v I ru rv=>by
 cases ru; cases rv
 exact SeqAt.EqAt.same _
theorem VEq.flat {H:Hp} {x y:V} (fx:qcI x=true) (fy:qcI y=true):VEq X H x y (eqV x y):=fun pins σ s u v I ru rv=>qhY ru rv fx fy
theorem qgF (hu:X.A.units<cLine):OpR X (compareOp .Eq) (fun x y H Q=> ∃a b xs ys,x= .ref a∧y= .ref b∧SqL X.K H a xs∧SqL X.K H b ys∧
  ((xs.length≠ys.length∧Q (.bl false) H)∨(xs.length=ys.length∧∃e:Nat→Bool,(∀i x y,xs[i]? =some x→ys[i]? =some y→VEq X H x y (e i))∧Q (.bl ((List.range xs.length).all e)) H))):=by
 intro pins s σ H x y v u Q I rx ry h
 obtain ⟨a,b,xs,ys,rfl,rfl,ha,hb,h⟩:=h
 cases rx; cases ry
 obtain ⟨i1,r1,p1,z1⟩:=I.list ha
 obtain ⟨i2,r2,p2,z2⟩:=I.list hb
 have l1:=r1.length
 have l2:=r2.length
 rcases h with ⟨hne,q⟩ | ⟨heq,e,he,q⟩
 ·exact SeqAt.eq_list_lengthsAt p1.isList p2.isList (by simp; lia) hu ⟨.bl false,H,I,rfl,q⟩
 ·refine SeqAt.eq_listAt (e:=e) p1.isList p2.isList (by simp; lia) hu (fun j h1 h2=> ?_) ⟨.bl _,H,I,rfl,?_⟩
  ·have h1':j<i1.length:=by simpa using h1
   have h2':j<i2.length:=by simpa using h2
   have hx:xs[j]? =some xs[j]:=List.getElem?_eq_getElem (by lia)
   have hy:ys[j]? =some ys[j]:=List.getElem?_eq_getElem (by lia)
   obtain ⟨u1,e1,q1⟩:=r1.get hx
   obtain ⟨u2,e2,q2⟩:=r2.get hy
   have e3:i1.toArray[j]=u1:=by
    rw[List.getElem?_eq_getElem h1'] at e1
    simpa using Option.some.inj e1
   have e4:i2.toArray[j]=u2:=by
    rw[List.getElem?_eq_getElem h2'] at e2
    simpa using Option.some.inj e2
   rw[e3,e4]
   exact he j _ _ hx hy pins σ s u1 u2 I q1 q2
  ·rw[List.size_toArray,←l1]; exact q
end
end L2
end
section
namespace L2
open PySem PySem.Spec PyProof.Rows
def Its (z:Str):It:=⟨fun i _=>i<z.cps.size,fun i H x H'=>H'=H∧∃c,z.cps[i]? =some c∧x= .str ⟨#[c]⟩,fun i _=>z.cps.size≤i⟩
theorem qlu {P:Program} {w:World} {K:PySem.W.Frag} {tg:Expr} {z:Str} {it:Addr} {ty:String} {t:Tok} (hty:ty= "str_ascii_iterator" ∨ty= "str_iterator"):qoZ P w K tg (Its z) [it] it (fun i h=>h.IsStrIter it ty z t i) where
 mem:=by simp
 obj:=fun i h st b hb=>by
  have e:b=it:=by simpa using hb
  subst e
  obtain ⟨o,e,c,d⟩:=st
  exact ⟨o,e,fun v q=>by rw[d] at q; cases q⟩
 keep:=fun i h h' st k=>by
  obtain ⟨o,e,r⟩:=st
  exact ⟨o,k it (by simp) _ e,r⟩
 item:=by
  intro X hP hw hK hc i pins s σ H E I hf st hg
  subst hP hw hK
  obtain ⟨f0,f1,f2,f3,f4,f5⟩:=hf it (by simp)
  have hcx:z.cps[i]? =some z.cps[i]:=Array.getElem?_eq_getElem hg
  have fin: ∀h',h'.IsStrIter it ty z t (i+1)→Heap.SameBut it s.heap h'→∃u,some (Value.str ⟨#[z.cps[i]]⟩ s.toks)=some u∧wpAny (model X.prog X.w) X.A (letOwnedTupleGo tg (.ref it) u) (fun _ s2=> ∃x H',Inv X pins σ H' s2∧RelV x u∧(Its z).yld i H x H'∧s2.heap.IsStrIter it ty z t (i+1)∧∀b∈[it],H' b=none) E { s with heap:=h',toks:=s.toks+1 }:=fun h' st' sb=>by
   have I1:Inv X pins σ H { s with heap:=h',toks:=s.toks+1 }:=I.turned (fun b o hb e=>(sb.2 b hb).trans e) f0 f1 f3 f4 f5
   obtain ⟨o,e,c,d⟩:=id st'
   refine ⟨_,rfl,qmj (s:={ s with heap:=h',toks:=s.toks+1 }) e c d ?_ ⟨.str ⟨#[z.cps[i]]⟩,H,I1,⟨_,rfl⟩,⟨rfl,_,hcx,rfl⟩,st',fun b hb=>(hf b hb).1⟩⟩
   rcases hty with rfl | rfl<;>decide
  rcases hty with rfl | rfl
  ·exact wpAny_pyNext_ascii_item st hcx fun h' st' sb=>fin h' st' sb
  ·exact wpAny_pyNext_wide_item st hcx fun h' st' sb=>fin h' st' sb
 done:=by
  intro X hP hw hK hc i pins s σ H E I hf st hg
  subst hP hw hK
  obtain ⟨f0,f1,f2,f3,f4,f5⟩:=hf it (by simp)
  have hcx:z.cps[i]? =none:=Array.getElem?_eq_none hg
  rcases hty with rfl | rfl
  ·exact wpAny_pyNext_ascii_end (I.ok.hd hc) st hcx fun h' eb=>⟨rfl,I.turned (t':=s.toks) (fun b o hb e=>eb b o hb e) f0 f1 f3 f4 f5⟩
  ·exact wpAny_pyNext_wide_end (I.ok.hd hc) st hcx fun h' eb=>⟨rfl,I.turned (t':=s.toks) (fun b o hb e=>eb b o hb e) f0 f1 f3 f4 f5⟩
 self:=fun A i s Q E st h=>by
  rcases hty with rfl | rfl
  ·exact wpAny_pyIter_striter_ascii st h
  ·exact wpAny_pyIter_striter_wide st h
def quD (te:TE):TI:=fun σ H R=>te σ H fun x H1=> ∃z,x= .str z∧R (Its z) H1
theorem qpK {X:Cx} {tg e:Expr} {te:TE} (he:PE X e te):PI X tg e (quD te):=by
 intro pins s σ H R I h
 refine thn (he pins s σ H _ I h) fun v s1 hq48=> ?_
 obtain ⟨x,H1,I1,r1,z,hz,q⟩:=hq48
 subst hz
 obtain ⟨t,rfl⟩:=r1
 have fin: ∀ty:String,(ty= "str_ascii_iterator" ∨ty= "str_iterator")→PIE X pins σ tg R (.ref s1.heap.objs.size) { s1 with heap:=s1.heap.push { cls:=.type ty,data:=.fields #[.str z t,.int 0 0] } }:=fun ty hty=>
  ⟨_,_,_,Its z,H1,rfl,I1.kept (t':=s1.toks) fun b o e=>Heap.get?_push_of_some _ e,qlu (t:=t) hty,⟨_,Heap.get?_push_size _ rfl,rfl,rfl⟩,fun b hb=>by
   have e:b=s1.heap.objs.size:=by simpa using hb
   subst e
   exact I1.fpOk (Nat.le_refl _) (I1.hok.fresh (Nat.le_refl _)),q⟩
 cases ha:z.cps.all (· <128)
 ·exact wpAny_pyIter_wide ha (fin _ (.inr rfl))
 ·exact wpAny_pyIter_ascii ha (fin _ (.inl rfl))
theorem Inv.turnT {X:Cx} {pins:List (Addr×Obj)} {σ:St} {H:Hp} {s:Shared} {h':Heap} {t':Nat} {ch:List Addr} {T:Addr} {xs:List V} (I:Inv X pins σ H s) (hch: ∀b∈ch,qi1 X pins H b) (k: ∀b o,b∉ch→s.heap.get? b=some o→h'.get? b=some o)
  (hT:s.heap.objs.size≤T) (new:qbu X.prog X.w (upd H T (.tup xs)) h' T (.tup xs)):Inv X pins σ (upd H T (.tup xs)) { s with heap:=h',toks:=t' }:=by
 have nT: ∀b o,s.heap.get? b=some o→b≠T:=fun b o e=>Nat.ne_of_lt (Nat.lt_of_lt_of_le (Heap.lt_size e) hT)
 have nTt: ∀b u,H b=some u→b≠T:=fun b u e z=>by rw[z,I.hok.fresh hT] at e; cases e
 have nch: ∀b u,H b=some u→b∉ch:=fun b u e z=>by rw[(hch b z).1] at e; cases e
 refine I.step (g':=s.gens) (d':=s.drawn) (ch:=ch) (fun b hb=> ?_) (fun b o _ _ hc e _=>k b o hc e) (fun b o _ _ hc e _=>⟨o.slots,k b o hc e⟩) (fun b o _ e n=>by rw[qaj (nT b o e)]; exact n) (fun b o hc e=>⟨o,k b o hc e⟩)
  (fun b ys e=>by rw[qaj (nTt b _ e)]; exact e) (fun b o u e=>by rw[qaj (nTt b _ e)]; exact e) (fun b ps e=>⟨#[],by rw[qaj (nTt b _ e),e]; simp⟩) (fun m hm=> ?_) (fun b u e=> ?_) I.bare
 ·obtain ⟨_,f1,_,f3,f4,f5⟩:=hch b hb
  exact ⟨f3,f1,f4,f5⟩
 ·obtain ⟨o,es,ep,ho,r⟩:=hm
  exact ⟨o,es,ep,k _ o (fun z=>(hch _ z).2.1 rfl) ho,r⟩
 ·by_cases z:b=T
  ·subst z
   rw[qan] at e; cases e
   exact new
  ·rw[qaj z] at e
   refine (I.hok b u e).stay (fun c v hc q=>k c v ?_ q) (fun c q=>by rw[qaj (nTt c _ q)]; exact q) fun c ys q=>by rw[qaj (nTt c _ q)]; exact q
   rcases hc with rfl | hc
   ·exact nch _ _ e
   ·exact nch _ _ hc
theorem Inv.turnL {X:Cx} {pins:List (Addr×Obj)} {σ:St} {H:Hp} {s:Shared} {h':Heap} {t':Nat} {ch:List Addr} (I:Inv X pins σ H s) (hch: ∀b∈ch,qi1 X pins H b) (k: ∀b o,b∉ch→s.heap.get? b=some o→h'.get? b=some o):
  Inv X pins σ H { s with heap:=h',toks:=t' }:=by
 have nch: ∀b u,H b=some u→b∉ch:=fun b u e z=>by rw[(hch b z).1] at e; cases e
 refine I.step (g':=s.gens) (d':=s.drawn) (ch:=ch) (fun b hb=> ?_) (fun b o _ _ hc e _=>k b o hc e) (fun b o _ _ hc e _=>⟨o.slots,k b o hc e⟩) (fun b o _ e n=>n) (fun b o hc e=>⟨o,k b o hc e⟩)
  (fun b ys e=>e) (fun b o u e=>e) (fun b ps e=>⟨#[],by rw[e]; simp⟩) (fun m hm=> ?_) (fun b u e=> ?_) I.bare
 ·obtain ⟨_,f1,_,f3,f4,f5⟩:=hch b hb
  exact ⟨f3,f1,f4,f5⟩
 ·obtain ⟨o,es,ep,ho,r⟩:=hm
  exact ⟨o,es,ep,k _ o (fun z=>(hch _ z).2.1 rfl) ho,r⟩
 ·refine (I.hok b u e).stay (fun c v hc q=>k c v ?_ q) (fun c q=>q) fun c ys q=>q
  rcases hc with rfl | hc
  ·exact nch _ _ e
  ·exact nch _ _ hc
def Itz (K:PySem.W.Frag) (l1 l2:Addr):It:=
 ⟨fun i H=> ∃xs ys,SqL K H l1 xs∧SqL K H l2 ys∧i<xs.length∧i<ys.length,
   fun i H v H'=> ∃T x y,v= .ref T∧H T=none∧H'=upd H T (.tup [x,y])∧(∀xs,SqL K H l1 xs→xs[i]? =some x)∧∀ys,SqL K H l2 ys→ys[i]? =some y,
   fun i H=> ∃xs ys,SqL K H l1 xs∧SqL K H l2 ys∧i=min xs.length ys.length⟩
def qs4 (z TI TO i1 i2 l1 l2:Addr) (i:Nat) (h:Heap):Prop:=
 IsZip h z TI TO .none∧IsPair h TI (.ref i1) (.ref i2)∧(∃a b,IsPair h TO a b)∧h.IsListIter i1 l1 i∧h.IsListIter i2 l2 i
theorem qlt {P:Program} {w:World} {K:PySem.W.Frag} {elts:List Expr} {k:Nat} {pos:Pos} {z TI TO i1 i2 l1 l2:Addr} (D:ZipApart z TI TO i1 i2 l1 l2):qoZ P w K (.Tuple elts k pos) (Itz K l1 l2) [z,TI,TO,i1,i2] z (qs4 z TI TO i1 i2 l1 l2) where
 mem:=by simp
 obj:=fun i h st b hb=>by
  obtain ⟨a1,a2,⟨x,y,a3⟩,⟨o4,a4,c4,d4⟩,⟨o5,a5,c5,d5⟩⟩:=st
  have hb':b=z∨b=TI∨b=TO∨b=i1∨b=i2:=by simpa using hb
  rcases hb' with rfl | rfl | rfl | rfl | rfl
  ·exact ⟨_,a1,fun v q=>by have q':Data.fields _=Data.cell v:=q; cases q'⟩
  ·exact ⟨_,a2,fun v q=>by have q':Data.seq _ _=Data.cell v:=q; cases q'⟩
  ·exact ⟨_,a3,fun v q=>by have q':Data.seq _ _=Data.cell v:=q; cases q'⟩
  ·exact ⟨o4,a4,fun v q=>by rw[d4] at q; cases q⟩
  ·exact ⟨o5,a5,fun v q=>by rw[d5] at q; cases q⟩
 keep:=fun i h h' st kk=>by
  obtain ⟨a1,a2,⟨x,y,a3⟩,a4,a5⟩:=st
  exact ⟨kk z (by simp) _ a1,kk TI (by simp) _ a2,⟨x,y,kk TO (by simp) _ a3⟩,a4.at fun o e=>kk i1 (by simp) o e,a5.at fun o e=>kk i2 (by simp) o e⟩
 item:=by
  intro X hP hw hK hc i pins s σ H E I hf st hg
  subst hP hw hK
  obtain ⟨xs,ys,h1,h2,g1,g2⟩:=hg
  obtain ⟨its1,r1,p1,z1⟩:=I.list h1
  obtain ⟨its2,r2,p2,z2⟩:=I.list h2
  have e1:=r1.length
  have e2:=r2.length
  have W:=WalksT.zip2 (prog:=X.prog) (w:=X.w) (I.ok.hd hc) z TI TO i1 i2 l1 l2 D its1.toArray its2.toArray
  obtain ⟨a1,a2,a3,a4,a5⟩:=st
  have hch: ∀b∈[z,TO,i1,i2],qi1 X pins H b:=fun b hb=>hf b (by
   have hb':b=z∨b=TO∨b=i1∨b=i2:=by simpa using hb
   rcases hb' with rfl | rfl | rfl | rfl<;>simp)
  refine W.item i s _ E (by simp; lia) ⟨a1,a2,a3,a4,a5,p1.isList,p2.isList⟩ fun T vals h' tk hv hT hti hmid kp=> ?_
  obtain ⟨u1,u2,q1,q2,rfl⟩:=hv
  refine ⟨_,rfl,W.go elts k pos i T _ _ E hmid fun h2' st' kp2=> ?_⟩
  obtain ⟨b1,b2,b3,b4,b5,_,_⟩:=st'
  have nT:T∉[z,TO,i1,i2]:=W.apart i T h' hmid
  obtain ⟨ox,hox,rox⟩:=hti
  have hx1:xs[i]? =some xs[i]:=List.getElem?_eq_getElem g1
  have hy1:ys[i]? =some ys[i]:=List.getElem?_eq_getElem g2
  obtain ⟨w1,ew1,rw1⟩:=r1.get hx1
  obtain ⟨w2,ew2,rw2⟩:=r2.get hy1
  have eu1:its1[i]? =some u1:=by simpa using q1
  have eu2:its2[i]? =some u2:=by simpa using q2
  rw[eu1] at ew1; cases ew1
  rw[eu2] at ew2; cases ew2
  have I1:Inv X pins σ (upd H T (.tup [xs[i],ys[i]])) { s with heap:=h2',toks:=tk }:=by
   refine I.turnT hch (fun b o hb e=>kp2 b o hb (kp b o hb e)) hT ⟨by show 2≤sizeLine; decide,[u1,u2],.cons rw1 (.cons rw2 .nil),ox,kp2 T ox nT hox,rox⟩
  refine ⟨.ref T,_,I1,rfl,⟨T,_,_,rfl,I.hok.fresh hT,rfl,fun xs' hx'=>by rw[I.list_inj hx' h1]; exact hx1,fun ys' hy'=>by rw[I.list_inj hy' h2]; exact hy1⟩,⟨b1,b2,b3,b4,b5⟩,fun b hb=> ?_⟩
  obtain ⟨o,eo,_⟩: ∃o,s.heap.get? b=some o∧True:=by
   have hb':b=z∨b=TI∨b=TO∨b=i1∨b=i2:=by simpa using hb
   obtain ⟨x,y,a3'⟩:=a3
   obtain ⟨o4,a4',_⟩:=a4
   obtain ⟨o5,a5',_⟩:=a5
   rcases hb' with rfl | rfl | rfl | rfl | rfl
   ·exact ⟨_,a1,trivial⟩
   ·exact ⟨_,a2,trivial⟩
   ·exact ⟨_,a3',trivial⟩
   ·exact ⟨_,a4',trivial⟩
   ·exact ⟨_,a5',trivial⟩
  rw[qaj (Nat.ne_of_lt (Nat.lt_of_lt_of_le (Heap.lt_size eo) hT))]
  exact (hf b hb).1
 done:=by
  intro X hP hw hK hc i pins s σ H E I hf st hg
  subst hP hw hK
  obtain ⟨xs,ys,h1,h2,g1⟩:=hg
  obtain ⟨its1,r1,p1,z1⟩:=I.list h1
  obtain ⟨its2,r2,p2,z2⟩:=I.list h2
  have e1:=r1.length
  have e2:=r2.length
  have W:=WalksT.zip2 (prog:=X.prog) (w:=X.w) (I.ok.hd hc) z TI TO i1 i2 l1 l2 D its1.toArray its2.toArray
  have hch: ∀b∈[z,TO,i1,i2],qi1 X pins H b:=fun b hb=>hf b (by
   have hb':b=z∨b=TO∨b=i1∨b=i2:=by simpa using hb
   rcases hb' with rfl | rfl | rfl | rfl<;>simp)
  obtain ⟨a1,a2,a3,a4,a5⟩:=st
  have en:min its1.toArray.size its2.toArray.size=i:=by simp; lia
  rw[en] at W
  exact W.done s _ E ⟨a1,a2,a3,a4,a5,p1.isList,p2.isList⟩ fun h' tk kp=>⟨rfl,I.turnL hch kp⟩
 self:=fun A i s Q E st h=>wpAny_pyIter_zip st.1 h
end L2
end
section
namespace L2
open PySem PySem.Spec PyProof.Rows
def qgm (mg:Str→Option Value) (base:Heap):Prop:= ∃bm ob,mg "__builtins__" =some (.ref bm)∧bm≠builtinsNs∧base.get? bm=some ob∧ob.cls= .type "module" ∧ob.dict=some builtinsNs∧ob.data= .plain
end L2
end
section
namespace L2
open PySem PySem.Spec PySem.Calls PyProof.Rows
theorem qbu.obj {P:Program} {w:World} {H:Hp} {h:Heap} {a:Addr} {o:HO} (x:qbu P w H h a o): ∃u,h.get? a=some u:=by
 cases o with
 | lst xs=>obtain ⟨_,_,_,_,e⟩:=x; exact ⟨_,e⟩
 | tup xs=>obtain ⟨_,_,_,p⟩:=x; exact p.imp fun _ q=>q.1
 | dK kvs=>obtain ⟨_,_,_,_,o,_,_,e,_⟩:=x; exact ⟨_,e⟩
 | dT kvs=>obtain ⟨_,_,_,_,o,_,_,e,_⟩:=x; exact ⟨_,e⟩
 | set S n=>obtain ⟨o,_,_,_,e,_⟩:=x; exact ⟨_,e⟩
 | ins C dx fs=>obtain ⟨_,_,_,e,_⟩:=x; exact ⟨_,e⟩
 | own y=>obtain ⟨_,e⟩:=x; exact ⟨_,e⟩
 | xd fs=>obtain ⟨_,⟨_,_,_,e,_⟩,_⟩:=x; exact ⟨_,e⟩
 | rng lo hi=>obtain ⟨_,_,_,e⟩:=x; exact ⟨_,e⟩
 | frz ob u=>obtain ⟨e,_⟩:=x; exact ⟨_,e⟩
 | tbl ps=>exact ⟨_,(show h.get? a=some _ from x)⟩
 | met f y=>exact ⟨_,(show h.get? a=some _ from x)⟩
 | ext φ=>obtain ⟨_,⟨_,e⟩,_⟩:=x; exact ⟨_,e⟩
structure qld (P:Program) (w:World) (outer:List Env) (H:Hp) (s:Shared) (H':Hp) (B h':Heap):Prop where
 hok:HOk P w H' B
 st:B.StaysIn h'
 bk: ∀b o,s.heap.get? b=some o→H b=none→b∉frs outer→B.get? b=some o
 th: ∀b o,s.heap.get? b=some o→b∉frs outer→∃o',B.get? b=some o'
 sl: ∀b o,s.heap.get? b=some o→b∈frs outer→(∀vs,o.data≠.fields vs)∧∃sl,h'.get? b=some { o with slots:=sl }
 free: ∀b o,s.heap.get? b=some o→H b=none→H' b=none
 tups: ∀b xs,H b=some (.tup xs)→H' b=some (.tup xs)
 frzs: ∀b o u,H b=some (.frz o u)→H' b=some (.frz o u)
 tbls: ∀b ps,H b=some (.tbl ps)→∃more,H' b=some (.tbl (ps++more))
section
variable {P:Program} {w:World} {outer:List Env} {H H':Hp} {s s':Shared} {B h' h'':Heap}
theorem qld.on (L:qld P w outer H s H' B h') (st:B.StaysIn h'') (up:h'.UpToSlots h''):qld P w outer H s H' B h'':=
 { L with
  st:=st
  sl:=fun b o e hb=>by
   obtain ⟨nf,sl,q⟩:=L.sl b o e hb
   obtain ⟨sl',q'⟩:=up b _ q nf
   exact ⟨nf,sl',q'⟩ }
end
section
variable {X:Cx} {pins:List (Addr×Obj)} {σ:St} {H H':Hp} {s s':Shared} {B h' h'':Heap} {C a t:Addr}
theorem qfZ (hst:X.stack=X.env::X.outer) (hf:X.env.frame=some X.env.locals):frs X.stack=X.env.locals::frs X.outer:=by
 rw[hst]
 show ((X.env::X.outer).filterMap (·.frame))=_
 rw[List.filterMap_cons,hf]
 rfl
theorem qld.leave (hst:X.stack=X.env::X.outer) (hf:X.env.frame=some X.env.locals) (hex:X.ex=[]) (I:Inv X pins σ H s) (L:qld X.prog X.w X.stack H s H' B h'):qld X.prog X.w X.outer X.H₀ X.s₀ H' B h':=by
 have nx: ∀b:Addr,b∉X.ex:=fun b z=>by rw[hex] at z; cases z
 have neL: ∀b o,X.s₀.heap.get? b=some o→b≠X.env.locals:=fun b o e=>Nat.ne_of_lt (Nat.lt_of_lt_of_le (Heap.lt_size e) I.ok.above)
 have out: ∀b o,X.s₀.heap.get? b=some o→b∉frs X.outer→b∉frs X.stack:=fun b o e nb z=>by
  rw[qfZ hst hf] at z
  rcases List.mem_cons.mp z with q | q
  ·exact neL b o e q
  ·exact nb q
 refine ⟨L.hok,L.st,fun b o e n nb=> ?_,fun b o e nb=> ?_,fun b o e hb=> ?_,fun b o e n=> ?_,fun b xs q=>L.tups b xs (I.base.tups b xs q),fun b o u q=>L.frzs b o u (I.base.frzs b o u q),fun b ps q=> ?_⟩
 ·exact L.bk b o (I.base.keep b o e n nb (nx b)) (I.base.free b o e n (nx b)) (out b o e nb)
 ·obtain ⟨o',e'⟩:=I.base.there b o e (nx b)
  exact L.th b o' e' (out b o e nb)
 ·obtain ⟨sl,e1⟩:=I.base.slot b o e (I.ok.frf b hb) hb (nx b)
  obtain ⟨nf,sl',e2⟩:=L.sl b _ e1 (by rw[qfZ hst hf]; exact List.mem_cons_of_mem _ hb)
  exact ⟨nf,sl',e2⟩
 ·obtain ⟨sl,e1⟩:=I.base.any e n (nx b)
  exact L.free b _ e1 (I.base.free b o e n (nx b))
 ·obtain ⟨m1,e1⟩:=I.base.tbls b ps q
  obtain ⟨m2,e2⟩:=L.tbls b _ e1
  exact ⟨m1++m2,by rw[e2,Array.append_assoc]⟩
theorem qld.made (I:Inv X pins σ H s) (k: ∀b o,s.heap.get? b=some o→h'.get? b=some o):qld X.prog X.w X.stack H s H (PySem.W.hideAll s.heap (frs X.stack)) h' where
 hok:=fun a o e=>(I.hok a o e).stay (fun b u hb r=>PySem.W.hideAll_get _ r fun z=>by
   have n:=I.stkFree b z
   rcases hb with q | q
   ·rw[q,e] at n; cases n
   ·rw[q] at n; cases n) (fun _ r=>r) fun _ _ r=>r
 st:=fun b o e=>k b o (PySem.W.of_hideAll _ e)
 bk:=fun b o e n nb=>PySem.W.hideAll_get _ e nb
 th:=fun b o e nb=>⟨o,PySem.W.hideAll_get _ e nb⟩
 sl:=fun b o e hb=>by
  obtain ⟨_,o',e',nf⟩:=I.stack.mem hb
  rw[e] at e'; cases e'
  exact ⟨nf,o.slots,k b o e⟩
 free:=fun _ _ _ n=>n
 tups:=fun _ _ q=>q
 frzs:=fun _ _ _ q=>q
 tbls:=fun _ ps q=>⟨#[],by rw[q]; simp⟩
end
structure Fly (P:Program) (w:World) (outer:List Env) (H:Hp) (s:Shared) (C:Addr) (H':Hp) (a t:Addr) (B:Heap) (s':Shared):Prop where
 os:s'.os=s.os
 bare:AllBare s'.gens
 fly:Heap.FlyingW B outer a (.ref C) (.ref t) s'.heap
 lies:qld P w outer H s H' B s'.heap
 new:H' a=none
structure qu7 (P:Program) (w:World) (outer:List Env) (H:Hp) (s:Shared) (C:Addr) (H':Hp) (a t L:Addr) (B:Heap) (s':Shared):Prop where
 os:s'.os=s.os
 bare:AllBare s'.gens
 held:Heap.HeldW B outer a (.ref C) (.ref t) L s'.heap
 lies:qld P w outer H s H' B s'.heap
 new:H' a=none
section
variable {X:Cx} {M:Model} {E:Value→Shared→Prop} {pins:List (Addr×Obj)} {σ:St} {H H':Hp} {s s':Shared} {B h' h'':Heap} {C a t:Addr}
theorem Fly.made {args:List Value} (hst:X.stack=X.env::X.outer) (hf:X.env.frame=some X.env.locals) (hex:X.ex=[]) (I:Inv X pins σ H s) (hm:Heap.MadeExcOf s.heap h' a (.ref C) args):
  wpAny M X.A (leaving X.env (.ref a)) (fun _ s''=> ∃t B,Fly X.prog X.w X.outer X.H₀ X.s₀ C H a t B s'') E { s with heap:=h' }:=by
 have hin: ∀env∈X.stack,∀b,env.frame=some b→b∈frs X.stack:=fun env he b hb=>List.mem_filterMap.mpr ⟨env,he,hb⟩
 have L:=qld.made (h':=h') I hm.keeps
 refine wpAny_leaves_madeW (base:=PySem.W.hideAll s.heap (frs X.stack)) (h:=s.heap) (s:={ s with heap:=h' }) (I.ok.frames.trans (congrArg _ hst)) hf (fun b o q=>PySem.W.of_hideAll _ q) (hst▸PySem.W.funFrames_hide I.stack hin) hm fun h'' t fl _ _ up=> ?_
 refine ⟨t,_,I.os,I.bare,fl,(L.on fl.1 up).leave hst hf hex I,?_⟩
 cases q:H a with
 | none=>rfl
 | some o=>
  obtain ⟨u,hu⟩:=(I.hok a o q).obj
  rw[hm.new] at hu; cases hu
theorem Fly.look {Q:Unit→Shared→Prop} (hst:X.stack=X.env::X.outer) (hf:X.env.frame=some X.env.locals) (I:Inv X pins σ H s) (F:Fly X.prog X.w X.stack H s C H' a t B s')
  (h: ∀s'',Fly X.prog X.w X.stack H s C H' a t B s''→Q () s''):
  wpAny M X.A (noteFrame (.ref a) X.env) (fun _ s₂=>wpAny M X.A (setFlight (.ref a) none) Q E s₂) E s':=by
 refine wpAny_looks_onW (I.ok.frames.trans (congrArg _ hst)) hf (hst▸F.fly) fun h4 hh up=> ?_
 refine wpAny_landsW (s:={ s' with heap:=h4 }) hh fun h5 fl up5=> ?_
 exact h _ ⟨F.os,F.bare,hst▸fl,(F.lies.on (hh.1) up).on fl.1 up5,F.new⟩
end
def bmV:List Value:=[.type "ValueError",.type "Exception",.type "BaseException",.type "object"]
def qtl:List Str:=["__init__", "__getattribute__", "__getattr__", "__class__"]
inductive qhf (h:Heap) (bmB:List Value):List Value→Prop
 | base:qhf h bmB bmB
 | own {A:Addr} {c0:Value} {dd:Option Addr} {cd:ClassData} {sl:Array (Option Value)} {mA:Str→Option Value} {tl:List Value}:
   h.get? A=some { cls:=c0,dict:=dd,data:=.cls cd,slots:=sl }→h.Ns cd.ns mA→(∀n∈qtl,mA n=none)→qhf h bmB tl→qhf h bmB (.ref A::tl)
theorem qhf.keeps {h h':Heap} {bmB tl:List Value} (T:qhf h bmB tl) (hk: ∀b o,h.get? b=some o→h'.get? b=some o):qhf h' bmB tl:=by
 induction T with
 | base=>exact .base
 | own hA hN hq _ ih=>exact .own (hk _ _ hA) (hN.keeps hk) hq ih
def qs9 (h:Heap) (C:Addr) (bm:List Value):Prop:=
 ∃N nm q bs hdct sn sub ab col dd k0 k1 k2 k3 k5 mN,h.get? C=some (excClassObj nm q C N bs bm hdct sn sub ab col dd k0 k1 k2 k3 k5 "ValueError.__new__")∧h.Ns N mN∧(∀n∈qtl,mN n=none)∧qhf h bmV bm
theorem qs9.keeps {h h':Heap} {C:Addr} {bm:List Value} (x:qs9 h C bm) (k: ∀b o,h.get? b=some o→h'.get? b=some o):qs9 h' C bm:=
 let ⟨N,nm,q,bs,hdct,sn,sub,ab,col,dd,k0,k1,k2,k3,k5,mN,e,n,i,T⟩:=x
 ⟨N,nm,q,bs,hdct,sn,sub,ab,col,dd,k0,k1,k2,k3,k5,mN,k _ _ e,n.keeps k,i,T.keeps k⟩
end L2
end
section
namespace L2
open PySem PySem.Spec PySem.Calls PyProof.Rows
abbrev Cx.within (X:Cx) (a:Addr):Cx:={ X with A:=X.A.mark (some (.ref a)),calm:=false,xe:=fun _ _=>False }
section
variable {X:Cx} {pins pins':List (Addr×Obj)} {E:Value→Shared→Prop} {σ:St} {H H':Hp} {s s':Shared} {a C t:Addr} {B:Heap}
end
section
variable {M:Model} {A:Around} {E:Value→Shared→Prop} {s:Shared}
end
section
variable {X:Cx} {pins0:List (Addr×Obj)} {W:St→Addr→Hp→Prop} {k:Nat} {f C:Addr} {fd:FuncData} {ps:List Str} {sp:Sp} {x m:Str} {p pos apos:Pos} {e o:Expr} {es:List Expr} {ta:TE} {t:TA}
end
section
variable {X:Cx} {body suite:List Stmt} {b₀:Stmt} {x n:Str} {np hpos pos:Pos} {CH:Addr} {bmH:List Value} {tb:(St→Addr→Hp→Prop)→TS} {ts:TS} {E:XK}
end
end L2
end
section
namespace L2
open PySem PySem.Spec PySem.Calls PyProof.Rows
section
variable {M:Model} {A:Around} {E:Value→Shared→Prop} {h:Heap} {g:Array GenState} {d:Drawn} {t:Nat} {os:OsState}
variable {nm q:Str} {C N:Addr} {bs bm:List Value} {hdct:Bool} {sn:List Str} {sub:List Value} {ab:Bool} {col:Option Bool} {dd:Option Addr} {k0 k1 k2 k3 k5:Option Value} {newId:String}
end
section
variable {prog:Program} {w:World} {A:Around} {E:Value→Shared→Prop} {h:Heap} {g:Array GenState} {d:Drawn} {t:Nat} {os:OsState} {a:Addr} {o:Obj}
 {nm q:Str} {C N:Addr} {bs bm:List Value} {hdct:Bool} {sn:List Str} {sub:List Value} {ab:Bool} {col:Option Bool} {dd:Option Addr} {k0 k1 k2 k3 k5:Option Value} {newId:String} {mN:Str→Option Value}
end
section
variable {X:Cx}
end
end L2
end
section
namespace L2
open PySem PySem.Spec PySem.Calls PyProof.Rows
section
variable {X:Cx}
end
section
variable {P:Program} {w:World} {K:PySem.W.Frag} {mg:Str→Option Value} {base:Heap}
end
end L2
end
section
namespace L2
open PySem PySem.Spec PyProof.Rows
section
variable {κ:Type} [DecidableEq κ]
def qdx (kvs:List (κ×V)) (k:κ):Option V:=(kvs.find? fun kv=>decide (kv.1=k)).map (·.2)
def qex (kvs:List (κ×V)) (k:κ) (v:V):List (κ×V):=
 if (kvs.any fun kv=>decide (kv.1=k))=true then kvs.map (fun kv=>if kv.1=k then (kv.1,v) else kv) else kvs++[(k,v)]
theorem qbv {p:κ×V} {r:List (κ×V)} {k:κ} (e:p.1=k):qdx (p::r) k=some p.2:=by simp[qdx,List.find?_cons,e]
theorem qbw {p:κ×V} {r:List (κ×V)} {k:κ} (e: ¬p.1=k):qdx (p::r) k=qdx r k:=by simp[qdx,List.find?_cons,e]
theorem qdD (k:κ): ∀kvs:List (κ×V),(kvs.any fun kv=>decide (kv.1=k))=(qdx kvs k).isSome
 | []=>rfl
 | p::r=>by
  rw[List.any_cons]
  by_cases e:p.1=k
  ·simp only[qbv e,decide_eq_true e,Bool.true_or,Option.isSome_some]
  ·rw[qbw e,decide_eq_false e,Bool.false_or]; exact qdD k r
theorem qhi (k j:κ) (y:V): ∀kvs:List (κ×V),qdx (kvs.map fun kv=>if kv.1=k then (kv.1,y) else kv) j=(qdx kvs j).map fun x=>if j=k then y else x
 | []=>rfl
 | p::r=>by
  have ih:=qhi k j y r
  rw[List.map_cons]
  by_cases h:p.1=k
  ·rw[if_pos h]
   by_cases e:p.1=j
   ·rw[qbv (p:=(p.1,y)) e,qbv e,Option.map_some,if_pos (e.symm.trans h)]
   ·rw[qbw (p:=(p.1,y)) e,qbw e,ih]
  ·rw[if_neg h]
   by_cases e:p.1=j
   ·rw[qbv (p:=p) e,qbv e,Option.map_some,if_neg (fun z=>h (e.trans z))]
   ·rw[qbw (p:=p) e,qbw e,ih]
theorem qft (k j:κ) (y:V): ∀kvs:List (κ×V),qdx kvs k=none→qdx (kvs++[(k,y)]) j=if j=k then some y else qdx kvs j
 | [],_=>by
  by_cases e:k=j
  ·rw[if_pos e.symm]; exact qbv (p:=(k,y)) e
  ·rw[if_neg (fun z=>e z.symm)]; exact qbw (p:=(k,y)) e
 | p::r,hn=>by
  rw[List.cons_append]
  have hk: ¬p.1=k:=fun z=>by rw[qbv z] at hn; cases hn
  rw[qbw hk] at hn
  have ih:=qft k j y r hn
  by_cases e:p.1=j
  ·rw[qbv e,qbv e,if_neg (fun z=>hk (e.trans z))]
  ·rw[qbw e,qbw e,ih]
theorem qlq (kvs:List (κ×V)) (k j:κ) (y:V):qdx (qex kvs k y) j=if j=k then some y else qdx kvs j:=by
 unfold qex
 by_cases a:(kvs.any fun kv=>decide (kv.1=k))=true
 ·rw[if_pos a,qhi]
  rw[qdD] at a
  by_cases e:j=k
  ·obtain ⟨x,hx⟩:=Option.isSome_iff_exists.mp a
   rw[if_pos e,e,hx,Option.map_some,if_pos rfl]
  ·rw[if_neg e]
   cases qdx kvs j with
   | none=>rfl
   | some x=>rw[Option.map_some,if_neg e]
 ·rw[if_neg a]
  refine qft k j y kvs ?_
  rw[qdD] at a
  cases q:qdx kvs k with
  | none=>rfl
  | some x=>rw[q] at a; exact (a rfl).elim
theorem qd2 (kvs:List (κ×V)) (k:κ) (v:V):(qex kvs k v).length≤kvs.length+1:=by
 unfold qex
 split
 ·rw[List.length_map]; lia
 ·rw[List.length_append,List.length_cons,List.length_nil]; lia
theorem qmO.isSome_eq {o:Option V} {u:Option Value} (r:qmO o u):o.isSome=u.isSome:=by
 cases o with
 | none=>cases u with
  | none=>rfl
  | some _=>exact (show False from r).elim
 | some _=>cases u with
  | none=>exact (show False from r).elim
  | some _=>rfl
theorem qmO.getD {o:Option V} {u:Option Value} {d:V} {d':Value} (r:qmO o u) (rd:RelV d d'):RelV (o.getD d) (u.getD d'):=by
 cases o with
 | none=>cases u with
  | none=>exact rd
  | some _=>exact (show False from r).elim
 | some _=>cases u with
  | none=>exact (show False from r).elim
  | some _=>exact r
theorem KV.val {kvs:List (κ×V)} {vs:List (κ×Value)} (r:KV kvs vs) (k:κ):qmO (qdx kvs k) (valueAt vs k):=by
 unfold KV at r
 induction r with
 | nil=>exact True.intro
 | @cons p q ps qs h t ih=>
  obtain ⟨h1,h2⟩:=h
  by_cases e:p.1=k
  ·have e':q.1=k:=h1.symm.trans e
   have b:valueAt (q::qs) k=some q.2:=by simp[valueAt,List.find?_cons,e']
   rw[qbv e,b]; exact h2
  ·have e': ¬q.1=k:=fun z=>e (h1.trans z)
   have b:valueAt (q::qs) k=valueAt qs k:=by simp[valueAt,List.find?_cons,e']
   rw[qbw e,b]; exact ih
theorem KV.any {kvs:List (κ×V)} {vs:List (κ×Value)} (r:KV kvs vs) (k:κ):(kvs.any fun kv=>decide (kv.1=k))=vs.any fun kv=>decide (kv.1=k):=by
 unfold KV at r
 induction r with
 | nil=>rfl
 | cons h t ih=>rw[List.any_cons,List.any_cons,ih,h.1]
theorem KV.repl {kvs:List (κ×V)} {vs:List (κ×Value)} (r:KV kvs vs) (k:κ) {y:V} {u:Value} (ry:RelV y u):
  KV (kvs.map fun kv=>if kv.1=k then (kv.1,y) else kv) (vs.map fun kv=>if kv.1=k then (kv.1,u) else kv):=by
 unfold KV at r⊢
 induction r with
 | nil=>exact .nil
 | @cons p q ps qs h t ih=>
  rw[List.map_cons,List.map_cons]
  refine .cons ?_ ih
  obtain ⟨h1,h2⟩:=h
  by_cases e:p.1=k
  ·rw[if_pos e,if_pos (h1.symm.trans e)]; exact ⟨h1,ry⟩
  ·rw[if_neg e,if_neg (fun z=>e (h1.trans z))]; exact ⟨h1,h2⟩
theorem KV.put {kvs:List (κ×V)} {vs:List (κ×Value)} (r:KV kvs vs) (k:κ) {y:V} {u:Value} (ry:RelV y u):KV (qex kvs k y) (stored vs k u):=by
 unfold qex stored
 rw[r.any k]
 by_cases e:(vs.any fun kv=>decide (kv.1=k))=true
 ·rw[if_pos e,if_pos e]; exact r.repl k ry
 ·rw[if_neg e,if_neg e]; exact Paired.snoc r ⟨rfl,ry⟩
theorem KV.keys {kvs:List (κ×V)} {vs:List (κ×Value)} (r:KV kvs vs):kvs.map (·.1)=vs.map (·.1):=by
 unfold KV at r
 induction r with
 | nil=>rfl
 | cons h t ih=>rw[List.map_cons,List.map_cons,ih,h.1]
theorem KV.length {kvs:List (κ×V)} {vs:List (κ×Value)} (r:KV kvs vs):kvs.length=vs.length:=Paired.length r
end
theorem qog {P:Program} {w:World} {k:Key} {u:Value} (r:RelV (kV k) u):(qaL P w).is k u=true:=by
 cases k with
 | inl i=>obtain ⟨t,e⟩:=(show ∃t,u=Value.int i t from r); subst e; exact qgI P w i t
 | inr x=>obtain ⟨t,e⟩:=(show ∃t,u=Value.str x t from r); subst e; exact qgH P w x t
theorem qfU {P:Program} {w:World}: ∀{ks:List Key} {us:List Value},Vals (ks.map kV) us→ItemsAre (qaL P w) ks us
 | [],_,r=>by rw[List.map_nil] at r; cases r; exact .nil
 | k::ks,_,r=>by
  rw[List.map_cons] at r
  cases r with
  | cons h t=>exact .cons (qog h) (qfU t)
abbrev KT (H:Hp):List (List Key×V)→List (List Key×Addr×Value)→Prop:=Paired fun p q=>p.1=q.1∧H q.2.1=some (.tup (p.1.map kV))∧RelV p.2 q.2.2
theorem KT.val {H:Hp} {kvs:List (List Key×V)} {xs:List (List Key×Addr×Value)} (r:KT H kvs xs) (k:List Key):qmO (qdx kvs k) ((atKey xs k).map (·.2)):=by
 induction r with
 | nil=>exact True.intro
 | @cons p q ps qs h t ih=>
  obtain ⟨h1,_,h2⟩:=h
  by_cases e:p.1=k
  ·have e':q.1=k:=h1.symm.trans e
   have b:atKey (q::qs) k=some q.2:=by simp[atKey,List.find?_cons,e']
   rw[qbv e,b]; exact h2
  ·have e': ¬q.1=k:=fun z=>e (h1.trans z)
   have b:atKey (q::qs) k=atKey qs k:=by simp[atKey,List.find?_cons,e']
   rw[qbw e,b]; exact ih
theorem KT.repl {H:Hp} {kvs:List (List Key×V)} {xs:List (List Key×Addr×Value)} (r:KT H kvs xs) (k:List Key) {y:V} {u:Value} (ry:RelV y u):
  KT H (kvs.map fun kv=>if kv.1=k then (kv.1,y) else kv) (xs.map (putAt k u)):=by
 induction r with
 | nil=>exact .nil
 | @cons p q ps qs h t ih=>
  rw[List.map_cons,List.map_cons]
  refine .cons ?_ ih
  obtain ⟨h1,h2,h3⟩:=h
  unfold putAt
  by_cases e:p.1=k
  ·rw[if_pos e,if_pos (h1.symm.trans e)]; exact ⟨h1,h2,ry⟩
  ·rw[if_neg e,if_neg (fun z=>e (h1.trans z))]; exact ⟨h1,h2,h3⟩
theorem KT.put {H:Hp} {kvs:List (List Key×V)} {xs:List (List Key×Addr×Value)} (r:KT H kvs xs) (k:List Key) {b:Addr} {y:V} {u:Value} (hb:H b=some (.tup (k.map kV))) (ry:RelV y u):
  KT H (qex kvs k y) (storedH xs k b u):=by
 have e:(kvs.any fun kv=>decide (kv.1=k))=(atKey xs k).isSome:=by
  rw[qdD,(r.val k).isSome_eq,Option.isSome_map]
 unfold qex storedH
 rw[e]
 by_cases q:(atKey xs k).isSome=true
 ·rw[if_pos q,if_pos q]; exact r.repl k ry
 ·rw[if_neg q,if_neg q]; exact Paired.snoc r ⟨rfl,hb,ry⟩
theorem KT.keeps {H H':Hp} {kvs:List (List Key×V)} {xs:List (List Key×Addr×Value)} (r:KT H kvs xs) (ht: ∀b ys,H b=some (.tup ys)→H' b=some (.tup ys)):KT H' kvs xs:=
 Paired.mapP r fun _ _ z=>⟨z.1,ht _ _ z.2.1,z.2.2⟩
section
variable {P:Program} {w:World} {H:Hp} {h:Heap} {a:Addr}
theorem qpw {u:HO} (ok:HOk P w H h) (e:Rd H a u):qbu P w H h a u:=e.ok ok
theorem qot {kvs:List (Key×V)} (ok:HOk P w H h) (e:Rd H a (.dK kvs)):kvs.length≤sizeLine∧(a==sysModules)=false∧∃vs,KV kvs vs∧h.DictOf (qaL P w) a vs:=
 show qbu P w H h a (.dK kvs) from qpw ok e
theorem qmv {kvs:List (Key×V)} (ok:HOk P w H h) (e:H a=some (.dK kvs)):kvs.length≤sizeLine∧(a==sysModules)=false∧∃vs,KV kvs vs∧h.DictOf (qaL P w) a vs:=qot ok (.inl e)
theorem qkc {ks:List Key} (ok:HOk P w H h) (e:H a=some (.tup (ks.map kV))):(tupleKind (qaL P w)).is h ks a:=by
 obtain ⟨_,its,r,o,h1,h2,n,h3⟩:=(show qbu P w H h a (.tup (ks.map kV)) from ok a _ e)
 exact ⟨o,its.toArray,n,h1,h2,h3,by simpa using qfU r⟩
theorem qor {kvs:List (List Key×V)} (ok:HOk P w H h) (e:Rd H a (.dT kvs)):kvs.length≤sizeLine∧(a==sysModules)=false∧
  ∃xs,KT H kvs xs∧h.DictOfH (tupleKind (qaL P w)) a xs:=by
 obtain ⟨z,y,xs,r,o,es,ep,h1,h2,h3,h4,h5⟩:=(show qbu P w H h a (.dT kvs) from qpw ok e)
 refine ⟨z,y,xs,r,o,es,ep,h1,h2,h3,h4,fun x hx=> ?_,h5⟩
 have all: ∀{l:List (List Key×V)} {m:List (List Key×Addr×Value)},KT H l m→∀x∈m,(tupleKind (qaL P w)).is h x.1 x.2.1:=by
  intro l m q
  induction q with
  | nil=>intro x hx; exact nomatch hx
  | @cons p q ps qs hq t ih=>
   intro x hx
   rcases List.mem_cons.mp hx with e | hx
   ·subst e
    exact qkc ok (by rw[←hq.1]; exact hq.2.1)
   ·exact ih x hx
 exact all r x hx
theorem qsU {kvs:List (List Key×V)} (ok:HOk P w H h) (e:H a=some (.dT kvs)):kvs.length≤sizeLine∧(a==sysModules)=false∧
  ∃xs,KT H kvs xs∧h.DictOfH (tupleKind (qaL P w)) a xs:=qor ok (.inl e)
end
def qqS (H:Hp) (a:Addr) (y:V) (r:Option V):Prop:=
 (∃kvs k,Rd H a (.dK kvs)∧y=kV k∧r=qdx kvs k)∨∃kvs k b,Rd H a (.dT kvs)∧y= .ref b∧H b=some (.tup (k.map kV))∧r=qdx kvs k
def qqR (H:Hp) (a:Addr) (y v:V) (H':Hp):Prop:=
 (∃kvs k,H a=some (.dK kvs)∧y=kV k∧kvs.length<sizeLine∧H'=upd H a (.dK (qex kvs k v)))∨
 ∃kvs k b,H a=some (.dT kvs)∧y= .ref b∧H b=some (.tup (k.map kV))∧kvs.length<sizeLine∧H'=upd H a (.dT (qex kvs k v))
theorem qqS.k {H:Hp} {a:Addr} {kvs:List (Key×V)} {k:Key} (e:H a=some (.dK kvs)):qqS H a (kV k) (qdx kvs k):=.inl ⟨kvs,k,.inl e,rfl,rfl⟩
theorem qqR.k {H:Hp} {a:Addr} {kvs:List (Key×V)} {k:Key} {v:V} (e:H a=some (.dK kvs)) (hl:kvs.length<sizeLine):qqR H a (kV k) v (upd H a (.dK (qex kvs k v))):=.inl ⟨kvs,k,e,rfl,hl,rfl⟩
section
variable {X:Cx} {pins:List (Addr×Obj)} {σ:St} {H:Hp} {s:Shared} {a:Addr} {y v:V} {u r:Value} {o:Option V} {A:Around} {E:Value→Shared→Prop}
theorem Inv.big (I:Inv X pins σ H s):sysModules<s.heap.objs.size:=by
 have h:mainGlobals<s.heap.objs.size:=(I.mod.glob.keeps I.bk).lt
 exact Nat.lt_trans (by decide) h
theorem qkQ {h':Heap} {t':Nat} {ob:HO} (I:Inv X pins σ H s) (mu:Mut (H a)) (hs:Heap.SameBut a s.heap h') (he: ∃q,h'.get? a=some q) (new:qbu X.prog X.w (upd H a ob) h' a ob):
  Inv X pins σ (upd H a ob) { s with heap:=h',toks:=t' }:=
 I.write (x:=a) (e:=a) mu (.inl rfl) (fun b q hb z=>(hs.2 b hb).trans z) he new
theorem qqt {P:Program} {w:World} {H':Hp} {h':Heap} {kvs:List (Key×V)} {vs:List (Key×Value)} (z:kvs.length≤sizeLine) (hd:(a==sysModules)=false) (rel:KV kvs vs) (dd:h'.DictOf (qaL P w) a vs):
  qbu P w H' h' a (.dK kvs):=⟨z,hd,vs,rel,dd⟩
theorem qkR {H':Hp} {Q:Unit→Shared→Prop} (hu:A.units+1<cLine) (I:Inv X pins σ H s) (g:qqR H a y v H') (ry:RelV y u) (rv:RelV v r) (h: ∀s',Inv X pins σ H' s'→Q () s'):
  wpAny (model X.prog X.w) A (setItem (.ref a) u r) Q E s:=by
 rcases g with ⟨kvs,k,e,ey,l,eH⟩ | ⟨kvs,k,b,e,ey,eb,l,eH⟩
 ·subst ey eH
  obtain ⟨z,hd,vs,rel,dd⟩:=qmv I.hok e
  have hz:vs.length≤sizeLine:=by rw[←rel.length]; exact z
  have hl:(qex kvs k v).length≤sizeLine:=by have:=qd2 kvs k v; lia
  refine wpAny_setItem_pairs (hsz:=hz) (qog ry) dd fun h' dd' hs=>h _ ?_
  have he: ∃q,h'.get? a=some q:=let ⟨q,_,_,hq,_⟩:=dd'; ⟨q,hq⟩
  exact qkQ I (by rw[e]; exact True.intro) hs he (qqt hl hd (rel.put k rv) dd')
 ·subst ey eH
  cases (show u=Value.ref b from ry)
  obtain ⟨z,hd,xs,rel,dd⟩:=qsU I.hok e
  have hz:xs.length≤sizeLine:=by rw[←Paired.length rel]; exact z
  have hl:(qex kvs k v).length≤sizeLine:=by have:=qd2 kvs k v; lia
  refine wpAny_setItem_heap (hsz:=hz) (tupleKind_room_in1 hu) (qkc I.hok eb) dd fun h' dd' hs=>h _ ?_
  obtain ⟨q,es,ep,hq,h2,h3,h4,_,h5⟩:=dd'
  refine qkQ I (by rw[e]; exact True.intro) hs ⟨q,hq⟩ ⟨hl,hd,_,(rel.put k eb rv).keeps fun c ys ec=> ?_,q,es,ep,hq,h2,h3,h4,h5⟩
  rw[qaj (ql5 ec e (fun z=>nomatch z))]
  exact ec
end
section
variable {X:Cx} {pins:List (Addr×Obj)} {σ:St} {H:Hp} {s:Shared} {a:Addr} {kvs:List (Key×V)} {k:Key} {u:Value} {A:Around} {E:Value→Shared→Prop}
end
def qrY (td ty tv:TE):TS:=fun D σ H=>tv σ H fun v H1=>td σ H1 fun x H2=>ty σ H2 fun y H3=> ∃a H4,x= .ref a∧qqR H3 a y v H4∧D.nx σ H4
section
variable {X:Cx} {o i e value:Expr} {pos pos' tpos:Pos} {td ty tv:TE}
theorem qnP (hu:X.A.units+1<cLine) (ho:PE X o td) (hi:PE X i ty) (hv:PE X value tv) (hs:swapsWith value (some (.Subscript o i pos')) pos.line X.env=pure false):
  PS X (.Assign [.Subscript o i pos'] value pos) (qrY td ty tv):=by
 intro pins s σ H D I h
 refine wpAny_Assign_Subscript (thn (hv pins s σ H _ I h) fun r s1 ⟨v,H1,I1,rv,q1⟩=>thn (ho pins s1 σ H1 _ I1 q1) fun u s2 ⟨x,H2,I2,rx,q2⟩=>thn (hi pins s2 σ H2 _ I2 q2) fun iv s3 ⟨y,H3,I3,ry,a,H4,ex,g,q3⟩=> ?_) hs
 subst ex
 obtain rfl:u=Value.ref a:=rx
 exact qkR hu I3 g ry rv fun s4 I4=>⟨σ,H4,I4,q3⟩
end
theorem qmw {P:Program} {w:World} {H:Hp} (h:Heap) (hb:sysModules<h.objs.size):qbu P w H (h.push { cls:=.type "dict",data:=.dict #[] }) h.objs.size (.dK []):=
 ⟨Nat.zero_le _,beq_eq_false_iff_ne.mpr (Ne.symm (Nat.ne_of_lt hb)),[],.nil,Heap.DictOf.new h⟩
def qpa:TE:=fun _ H Q=> ∀p,H p=none→Q (.ref p) (upd H p (.dK []))
section
variable {X:Cx} {pos:Pos}
theorem qlX:PE X (.Dict [] [] pos) qpa:=fun pins s σ H Q I h=>
 wpAny_Dict_empty ⟨.ref s.heap.objs.size,_,I.laid (a:=s.heap.objs.size) (o:=.dK []) (t':=s.toks) (fun _ _ q=>Heap.get?_push_of_some _ q) (Nat.le_refl _) (qmw s.heap I.big),rfl,h _ (I.hok.fresh (Nat.le_refl _))⟩
end
def qp4 (kvs more:List (Key×V)):List (Key×V):=more.foldl (fun acc kv=>qex acc kv.1 kv.2) kvs
theorem KV.merge: ∀{more:List (Key×V)} {rs:List (Key×Value)} {kvs:List (Key×V)} {vs:List (Key×Value)},KV more rs→KV kvs vs→KV (qp4 kvs more) (merged vs rs):=by
 intro more rs kvs vs r
 unfold KV at r
 induction r generalizing kvs vs with
 | nil=>intro q; exact q
 | @cons p q ps qs h t ih=>
  intro r0
  have e:KV (qex kvs p.1 p.2) (stored vs q.1 q.2):=by
   have:=r0.put p.1 h.2
   rw[←h.1]; exact this
  exact ih e
structure M1 (X:Cx) (o:Expr) (m:Str) (apos:Pos) (e:Expr) (cpos:Pos):Prop where
 base:attributeBase o m X.env (eval o X.env)=eval o X.env
 few:((backTo cpos (starEach [e] X.env)).all (fun x=> !x.1)&&(backToKw cpos (keywordEach [] X.env)).all (fun x=>x.1.isSome)
  &&decide (([e]:List Expr).length+([]:List Keyword).length+(if ([]:List Keyword).isEmpty then 0 else 1)<30))=true
 line:(apos.endLine==cpos.line)=true
 trees:backTo cpos (starEach [e] X.env)=[(false,eval e X.env)]
structure M2 (X:Cx) (o:Expr) (m:Str) (apos:Pos) (e f:Expr) (cpos:Pos):Prop where
 base:attributeBase o m X.env (eval o X.env)=eval o X.env
 few:((backTo cpos (starEach [e,f] X.env)).all (fun x=> !x.1)&&(backToKw cpos (keywordEach [] X.env)).all (fun x=>x.1.isSome)
  &&decide (([e,f]:List Expr).length+([]:List Keyword).length+(if ([]:List Keyword).isEmpty then 0 else 1)<30))=true
 line:(apos.endLine==cpos.line)=true
 trees:backTo cpos (starEach [e,f] X.env)=[(false,eval e X.env),(false,eval f X.env)]
def IsD (H:Hp) (a:Addr):Prop:=(∃kvs,Rd H a (.dK kvs))∨∃kvs,Rd H a (.dT kvs)
theorem qqi {X:Cx} {pins:List (Addr×Obj)} {σ:St} {H:Hp} {s:Shared} {a:Addr} (I:Inv X pins σ H s) (d:IsD H a):
  s.TypeIs (.ref a) "dict" ∧(∀b,Value.ref a= .ref b→∃ob,s.heap.get? b=some ob∧ob.dict=none)∧(a==sysModules)=false:=by
 rcases d with ⟨kvs,e⟩ | ⟨kvs,e⟩
 ·obtain ⟨_,hd,vs,_,dd⟩:=qot I.hok e
  refine ⟨dd.typeIs,fun b q=> ?_,hd⟩
  cases q
  obtain ⟨ob,_,_,h1,h2,_⟩:=dd
  exact ⟨ob,h1,h2.2.1⟩
 ·obtain ⟨_,hd,xs,_,dd⟩:=qor I.hok e
  refine ⟨dd.typeIs,fun b q=> ?_,hd⟩
  cases q
  obtain ⟨ob,_,_,h1,h2,_⟩:=dd
  exact ⟨ob,h1,h2.2.1⟩
section
variable {X:Cx} {pins:List (Addr×Obj)} {σ:St} {H:Hp} {s:Shared} {a:Addr} {y d:V} {u r:Value} {o:Option V} {A:Around} {E:Value→Shared→Prop}
theorem qqD {Q:Value→Shared→Prop} (hu:A.units+1<cLine) (I:Inv X pins σ H s) (g:qqS H a y o) (ry:RelV y u) (h: ∀w' s',Inv X pins σ H s'→RelV (o.getD .non) w'→Q w' s'):
  wpAny (model X.prog X.w) A (call (.builtin "dict.get") [.ref a,u]) Q E s:=by
 rcases g with ⟨kvs,k,e,ey,l⟩ | ⟨kvs,k,b,e,ey,eb,l⟩
 ·subst ey
  obtain ⟨z,hd,vs,rel,dd⟩:=qot I.hok e
  refine call_meetsIn PySem.F.slot_dict_get dd.typeIs PySem.F.entry_dict_get (PySem.F.args_dict_get_2 _ _) (meets_dict_get (qaL X.prog X.w) a (qog ry) hd) ⟨_,dd.mapOf,h _ _ (I.tok _) ?_⟩
  rw[l]
  exact (rel.val k).getD rfl
 ·subst ey
  cases (show u=Value.ref b from ry)
  obtain ⟨z,hd,xs,rel,dd⟩:=qor I.hok e
  refine call_meetsIn PySem.F.slot_dict_get dd.typeIs PySem.F.entry_dict_get (PySem.F.args_dict_get_2 _ _) (meetsH_dict_get (tupleKind (qaL X.prog X.w)) a b hd) ⟨tupleKind_room_in1 hu,k,xs,qkc I.hok eb,dd,h _ _ (I.tok _) ?_⟩
  rw[l]
  exact (rel.val k).getD rfl
end
def qpb (td ty:TE):TE:=fun σ H Q=>td σ H fun x H1=> ∃a,x= .ref a∧IsD H1 a∧ty σ H1 fun y H2=> ∃o,qqS H2 a y o∧Q (o.getD .non) H2
section
variable {X:Cx} {o e f:Expr} {apos cpos:Pos} {td ty tx:TE}
theorem qlY (hu:X.A.units+1<cLine) (ho:PE X o td) (he:PE X e ty) (m:M1 X o "get" apos e cpos):PE X (.Call (.Attribute o "get" apos) [e] [] cpos) (qpb td ty):=by
 intro pins s σ H Q I h
 refine wpAny_Call_method m.base m.few m.line PySem.F.plainAttrs_dict PySem.F.slot_dict_get PySem.F.type_dict_get (thn (ho pins s σ H _ I h) fun u s1 ⟨x,H1,I1,rx,a,ex,d,q1⟩=> ?_)
 subst ex
 obtain rfl:u=Value.ref a:=rx
 obtain ⟨t1,t2,_⟩:=qqi I1 d
 refine ⟨t1,t2,?_⟩
 rw[m.trees]
 refine Calls.callWith_builtin rfl (Calls.evalArgs_plain (Calls.spliced_cons (thn (he pins s1 σ H1 _ I1 q1) fun iv s2 ⟨y,H2,I2,ry,ov,g,q2⟩=>Calls.spliced_nil ?_)))
 exact qqD hu I2 g ry fun w' s3 I3 rw'=>⟨_,H2,I3,rw',q2⟩
end
section
variable {X:Cx} {pins:List (Addr×Obj)} {σ:St} {H:Hp} {s:Shared} {a:Addr} {kvs:List (Key×V)} {A:Around} {E:Value→Shared→Prop}
end
section
variable {X:Cx} {pins:List (Addr×Obj)} {σ:St} {H:Hp} {s:Shared} {a:Addr} {y:V} {u:Value} {A:Around} {E:Value→Shared→Prop}
end
end L2
namespace L2
open PySem PySem.Spec PyProof.Rows
section
variable {X:Cx}
end
section
variable {κ:Type} [DecidableEq κ]
end
end L2
end
section
namespace RH
open PySem L2
theorem qqg {b:Bool} {A B:Prop} (h:b=true) (hA:A):if b=true then A else B:=by rw[if_pos h]; exact hA
theorem qqh {b:Bool} {A B:Prop} (h:b=false) (hB:B):if b=true then A else B:=by rw[if_neg (by rw[h]; decide)]; exact hB
theorem qlG {H:Hp} {D:Addr} {o:HO} (h:H D=none):qmN H (upd H D o):=fun b u e=>by
 rw[qaj (qap e h)]
 exact e
theorem qhK {X:Cx} (K:PySem.W.Frag) (h:X.K=K):IxR X (qr3 K):=by rw[←h]; exact qkg
theorem fr_ok {X:Cx} {sc sd:Scope} (hX:X.env.scope=sd) (h:(sc.names.all fun y=>y.2 != .free||(sd.names.lookup y.1==some .cell))=true): ∀y∈sc.names,y.2= .free→X.env.kindOf y.1=some .cell∨X.env.kindOf y.1=some .free:=by
 intro y hy e
 have h1:=List.all_eq_true.mp h y hy
 rw[e] at h1
 have h2:sd.names.lookup y.1=some .cell:=by simpa using h1
 refine .inl ?_
 show X.env.scope.names.lookup y.1=some .cell
 rw[hX]
 exact h2
abbrev Rw:=Int×Str×Int
def qtc (r:Rw):List V:=[.int r.1,.str r.2.1,.int r.2.2]
end RH
end
section
namespace RH
open PySem L2
def qoX (rs:List Rw) (k:Str):List Int:=(rs.filter fun r=>decide (r.2.1=k)).map (·.2.2)
theorem qk6 (rs:List Rw) (r:Rw) (k:Str):qoX (rs++[r]) k=qoX rs k++if r.2.1=k then [r.2.2] else []:=by
 unfold qoX
 rw[List.filter_append,List.map_append]
 by_cases c:r.2.1=k
 ·simp[c]
 ·simp[c]
def outT (g:List Int→Rw→Option Rw) (rs:List Rw) (i:Nat):List Rw:=(List.range i).filterMap fun j=>(rs[j]?).bind fun r=>g (qoX (rs.take j) r.2.1) r
def qs8 (st:List Int→Option Int) (kvs:List (Key×V)) (rs:List Rw):Prop:=(∀k:Str,qdx kvs (Sum.inr k)=(st (qoX rs k)).map V.int)∧kvs.length≤rs.length
theorem qlL (kvs:List (Key×V)) (k:Key) (v:V):(qex kvs k v).length≤kvs.length+1:=by
 unfold qex
 split
 ·simp
 ·simp
theorem qs8.put {st:List Int→Option Int} {kvs:List (Key×V)} {rs:List Rw} {r:Rw} {n:Int} (h:qs8 st kvs rs) (hn:st (qoX rs r.2.1++[r.2.2])=some n):qs8 st (qex kvs (Sum.inr r.2.1) (.int n)) (rs++[r]):=by
 refine ⟨fun k=> ?_,by have:=qlL kvs (Sum.inr r.2.1) (.int n); rw[List.length_append,List.length_singleton]; have:=h.2; lia⟩
 rw[qlq,qk6]
 by_cases c:k=r.2.1
 ·subst c
  rw[if_pos rfl,if_pos rfl,hn]
  rfl
 ·rw[if_neg (fun z=>c (by injection z)),if_neg (fun z=>c z.symm),List.append_nil]
  exact h.1 k
end RH
end
section
namespace RH
open PySem PySem.Spec PyProof.Rows L2
end RH
end
section
namespace L2
open PySem PySem.Spec PyProof.Rows
end L2
namespace RH
open PySem L2
end RH
end
section
namespace RH
open PySem PySem.Spec PyProof.Rows L2
section
variable {X:Cx}
theorem VEq.row {H:Hp} {t t':Addr} {r:Rw} (hu:X.A.units+2<cLine) (h1:H t=some (.tup (qtc r))) (h2:H t'=some (.tup (qtc r))):VEq X H (.ref t) (.ref t') true:=by
 intro pins σ s u v I ru rv
 cases ru; cases rv
 by_cases z:t=t'
 ·subst z
  exact SeqAt.EqAt.same _
 ·obtain ⟨i1,r1,p1,_⟩:=I.tuple (SqT.of h1)
  obtain ⟨i2,r2,p2,_⟩:=I.tuple (SqT.of h2)
  refine SeqAt.EqAt.of_refs z ?_
  have l1:=r1.length
  have l2:=r2.length
  have q:=SeqAt.RcAt.tuples (A:=X.A.in1) (e:=fun _=>true) p1 p2 (by show X.A.units+1<cLine; lia) (fun j a1 a2=> ?_)
  ·have e:((List.range (min i1.toArray.size i2.toArray.size)).all (fun _=>true)&&i1.toArray.size==i2.toArray.size)=true:=by
    simp[←l1,←l2]
   rw[e] at q
   exact q
  ·have hi: ∀(i:Int) (t u:Tok),SeqAt.EqAt X.A.in1.in1 s (.int i t) (.int i u) true:=fun i t u=>by
    have h:=SeqAt.EqAt.int_int (A:=X.A.in1.in1) (s:=s) i t i u
    rw[beq_self_eq_true] at h
    exact h
   have hs: ∀(i:Str) (t u:Tok),SeqAt.EqAt X.A.in1.in1 s (.str i t) (.str i u) true:=fun i t u=>by
    have h:=SeqAt.EqAt.str_str (A:=X.A.in1.in1) (s:=s) i t i u
    rw[beq_self_eq_true] at h
    exact h
   cases r1 with
   | cons ra ra'=>cases ra' with
    | cons rb rb'=>cases rb' with
     | cons rc rc'=>cases rc' with
      | nil=>cases r2 with
       | cons sa sa'=>cases sa' with
        | cons sb sb'=>cases sb' with
         | cons sc sc'=>cases sc' with
          | nil=>
           obtain ⟨_,rfl⟩:=ra
           obtain ⟨_,rfl⟩:=rb
           obtain ⟨_,rfl⟩:=rc
           obtain ⟨_,rfl⟩:=sa
           obtain ⟨_,rfl⟩:=sb
           obtain ⟨_,rfl⟩:=sc
           match j,a1 with
           | 0,_=>exact hi _ _ _
           | 1,_=>exact hs _ _ _
           | 2,_=>exact hi _ _ _
           | n+3,a1=>exact absurd a1 (by simp)
end
end RH
end
section
namespace St
open PySem PySem.W PySem.Calls PyProof.Rows
section
variable {prog:Program} {w:World} {A:Around} {E:Value→Shared→Prop} {s:Shared} {D:Addr} {vs:List Value} {kz:List Int} {P:PySem.Fin→Shared→Prop} {h0:Heap}
theorem qgy {n:Nat} (h:n<2):qcn kz n (List.toArray (List.range n)):=by
 refine ⟨⟨by simp,fun i hi=> ?_,fun i q1 q2=>by lia⟩,fun i j hij hj=>by lia⟩
 unfold g
 rw[Array.getD_eq_getD_getElem?]
 simp[hi]
theorem lsort_p {n:Nat} {κ:SortKind} (ho:s.heap.get? D=some (seqObj "list" vs.toArray n)) (hlen:kz.length=vs.length) (h64:vs.length<64) (kp:Kp h0 s.heap) (hD0:h0.get? D=none)
  (kind: ∀s':Shared,Kp h0 s'.heap→2≤vs.length→∀Q:SortKind→Shared→Prop,Q κ s'→wpAny (model prog w) A (keyKind' vs.toArray) Q E s')
  (cmp: ∀s':Shared,Kp h0 s'.heap→∀i j,i<vs.length→j<vs.length→∀C:Bool→Shared→Prop,C (decide (kz.getD i 0<kz.getD j 0)) s'→wpAny (model prog w) A (keyLt' κ (vs.getD i Value.none) (vs.getD j Value.none)) C (fun _ _=>False) s')
  (h: ∀h' tk c (p:Array Nat),Kp h0 h'→qcn kz vs.length p→h'.get? D=some (seqObj "list" (List.toArray (p.toList.map fun i=>vs.getD i Value.none)) c)→P (.done (.ret .none)) { s with heap:=h',toks:=tk }):
  wpAny (model prog w) A (Builtin.«list.sort» ⟨[.ref D],[]⟩) P E s:=by
 rw[list_sort_plain]
 have s1:=Heap.SameBut.update s.heap D (Obj.mapSeq fun _=>(#[]:Array Value))
 obtain ⟨e1,ho1⟩: ∃e1,(s.heap.update D (Obj.mapSeq fun _=>(#[]:Array Value))).get? D=some (seqObj "list" #[] e1):=⟨_,get?_update_seq ho fun _=> #[]⟩
 refine wpAny_bind (listItems_at ho rfl ?_)
 refine wpAny_bind (listUpdate_at ho rfl ?_ (by rw[List.size_toArray,sizeLine_eq]; lia) (Nat.zero_le _))
 refine wpAny_bind (seqEpoch_at ho1 rfl ?_)
 generalize hH2:s.heap.update D (Obj.mapSeq fun _=>(#[]:Array Value))=H2 at ho1 s1⊢
 have kp3:Kp h0 H2:=fun b o z=>(s1.2 b (fun q=>by rw[q,hD0] at z; cases z)).trans (kp b o z)
 refine wpAny_bind (wpAny_newTuple ?_ (by show vs.length≤_; rw[sizeLine_eq]; lia))
 refine wpAny_bind (wpAny_newList ?_ (Nat.zero_le _))
 refine wpAny_holding ?_
 generalize hH3:(H2.push (seqObj "tuple" vs.toArray 0)).push (seqObj "list" #[] 0)=H3
 have hD3:H3.get? D=some (seqObj "list" #[] e1):=by rw[←hH3]; exact Heap.get?_push_of_some _ (Heap.get?_push_of_some _ ho1)
 have kp4:Kp h0 H3:=fun b o z=>by rw[←hH3]; exact Heap.get?_push_of_some _ (Heap.get?_push_of_some _ (kp3 b o z))
 have fin: ∀(st:SortSt) (p:Array Nat),qcn kz vs.length p→(arrOf st).map (·.2)=List.toArray (p.toList.map fun i=>vs.getD i Value.none)→failedOf st=none→
   wpAny (model prog w) A (do
    let touched:=(←seqEpoch D) != e1
    Builtin.List.listUpdate (.ref D) fun _=>(arrOf st).map (·.2)
    if let some e:=failedOf st then rule "list.sort.comparison-raised"; throw e
    if touched then rule "list.sort.modified"; raiseError "ValueError" "list modified during sort"
    ret .none) P E { s with heap:=H3 }:=fun st p ho' har hfl=>by
  have hsz:(p.toList.map fun i=>vs.getD i Value.none).length=vs.length:=by rw[List.length_map,Array.length_toList,ho'.1.sz]
  refine wpAny_bind (seqEpoch_at hD3 rfl ?_)
  rw[har]
  refine wpAny_bind (listUpdate_at hD3 rfl ?_ (Nat.zero_le _) (by show (List.toArray _).size≤_; rw[List.size_toArray,hsz,sizeLine_eq]; lia))
  rw[hfl]
  simp only[bne_self_eq_false,Bool.false_eq_true,if_false]
  have hfin: ∃c,(H3.update D (Obj.mapSeq fun _=>List.toArray (p.toList.map fun i=>vs.getD i Value.none))).get? D=some (seqObj "list" (List.toArray (p.toList.map fun i=>vs.getD i Value.none)) c):=⟨_,get?_update_seq hD3 fun _=>List.toArray (p.toList.map fun i=>vs.getD i Value.none)⟩
  obtain ⟨c,hc⟩:=hfin
  refine wpAny_pure (h _ _ c p (fun b o q=> ?_) ho' hc)
  have nD:b≠D:=fun z=>by rw[z,hD0] at q; cases q
  exact ((Heap.SameBut.update H3 D _).2 b nD).trans (kp4 b o q)
 by_cases h2:vs.toArray.size<2
 ·rw[if_pos h2,if_pos h2]
  refine wpAny_bind (wpAny_pure ?_)
  dsimp only
  rw[StateT.run_pure]
  refine wpAny_bind (wpAny_pure ?_)
  rw[List.size_toArray] at h2
  refine fin _ _ (qgy h2) ?_ rfl
  show (vs.toArray.zip vs.toArray).map (·.2)=_
  apply Array.toList_inj.mp
  rw[Array.toList_map,ksk_zip,List.toList_toArray,List.toList_toArray]
  rw[show (vs.zip vs).map (fun x:Value×Value=>x.2)=vs from List.map_snd_zip (by lia)]
  apply List.ext_getElem
  ·simp
  ·intro i h3 h4
   simp[List.getElem?_eq_getElem h3]
 ·rw[if_neg h2,if_neg h2]
  rw[List.size_toArray] at h2
  refine wpAny_bind (kind { s with heap:=H3 } kp4 (by lia) _ ?_)
  have run:=kat_run (prog:=prog) (w:=w) (A:=A) (E:=E) (s:={ s with heap:=H3 }) (κ:=κ) (ks:=vs) (vs:=vs) (Q:=fun st s'=>s'={ s with heap:=H3 }∧∃p,qcn kz vs.length p∧(arrOf st).map (·.2)=List.toArray (p.toList.map fun i=>vs.getD i Value.none)∧failedOf st=none)
   (G:=fun p s'=>s'={ s with heap:=H3 }∧qcn kz vs.length p) rfl (by lia) h64 (fun p st' s' a1 a2 a3 a4=>⟨a4.1,p,a4.2,kat_snds rfl a2,a3⟩)
   (qgT (ask:=qcV fun i=>kz.getD i 0) (N:=vs.length) (fun i j C hi hj hc=>cmp { s with heap:=H3 } kp4 i j hi hj C hc) (fun p hp=>⟨rfl,hp⟩) (qjd (by lia)))
  refine wpAny_bind (wpAny_mono run (fun r s' hr=> ?_) fun _ _ x=>x)
  obtain ⟨rfl,p,ho',har,hf⟩:=hr
  exact fin _ p ho' har hf
end
end St
namespace St
open PySem PySem.W PySem.Calls PyProof.Rows
section
variable {prog:Program} {w:World} {A:Around} {E:Value→Shared→Prop} {s:Shared} {l:Addr} {vs:List Value} {kz:List Int} {Q:Value→Shared→Prop}
theorem sorted_p {κ:SortKind} (hl:s.heap.IsList l vs.toArray) (hlen:kz.length=vs.length) (h64:vs.length<64)
  (kind: ∀s':Shared,Kp s.heap s'.heap→2≤vs.length→∀(Q:SortKind→Shared→Prop) (E:Value→Shared→Prop),Q κ s'→wpAny (model prog w) A.in1.in1 (keyKind' vs.toArray) Q E s')
  (cmp: ∀s':Shared,Kp s.heap s'.heap→∀i j,i<vs.length→j<vs.length→∀C:Bool→Shared→Prop,C (decide (kz.getD i 0<kz.getD j 0)) s'→wpAny (model prog w) A.in1.in1 (keyLt' κ (vs.getD i Value.none) (vs.getD j Value.none)) C (fun _ _=>False) s')
  (h: ∀D h' tk c (p:Array Nat),s.heap.objs.size≤D→Kp s.heap h'→qcn kz vs.length p→h'.get? D=some (seqObj "list" (List.toArray (p.toList.map fun i=>vs.getD i Value.none)) c)→Q (.ref D) { s with heap:=h',toks:=tk }):
  wpAny (model prog w) A (call (.builtin "sorted") [.ref l]) Q E s:=by
 refine Calls.call_function_entry kind_sorted plain_sorted entry_sorted (args_sorted1 _) ?_
 unfold Builtin.«sorted»
 refine wpAny_bind (m:=checkCount "sorted" 1 1 _) (wpAny_pure ?_)
 refine wpAny_bind (collect_list hl ?_ (by rw[sizeLine_eq]; lia))
 refine wpAny_bind (wpAny_newList ?_ (by rw[sizeLine_eq]; lia))
 have hsz:((s.heap.push (seqObj "list" #[] 0)).update s.heap.objs.size (Obj.mapSeq (· ++vs.toArray))).objs.size=s.heap.objs.size+1:=by
  rw[Heap.size_update,size_push']
 generalize hH1:(s.heap.push (seqObj "list" #[] 0)).update s.heap.objs.size (Obj.mapSeq (· ++vs.toArray))=H1 at hsz⊢
 have kp1:Kp s.heap H1:=fun b o q=>by
  have hlt:b<s.heap.objs.size:=Heap.lt_size q
  rw[←hH1,Heap.get?_update_ne _ _ _ _ (Nat.ne_of_lt hlt),Heap.get?_push_ne _ _ _ (Nat.ne_of_lt hlt)]
  exact q
 have kp2:Kp s.heap (H1.push (seqObj "list" vs.toArray 0)):=fun b o q=>Heap.get?_push_of_some _ (kp1 b o q)
 have hoD:(H1.push (seqObj "list" vs.toArray 0)).get? H1.objs.size=some (seqObj "list" vs.toArray 0):=Heap.get?_push_size _ rfl
 refine wpAny_bind (wpAny_holding (wpAny_call_entry slot_list_sort ⟨_,hoD,rfl⟩ entry_list_sort ?body (args_list_sort _)))
 case body=>
  refine lsort_p (h0:=s.heap) (kz:=kz) (κ:=κ) (s:={ s with heap:=H1.push (seqObj "list" vs.toArray 0) }) hoD hlen h64 kp2 (get_none (by rw[hsz]; exact Nat.le_succ _)) (fun s' k h2 Q hq=>kind s' k h2 Q _ hq) cmp fun h' tk c p a1 a2 a3=>⟨_,rfl,?_⟩
  exact wpAny_pure ⟨_,rfl,h _ h' tk c p (by rw[hsz]; exact Nat.le_succ _) a1 a2 a3⟩
end
end St
end
section
namespace SR
section
variable {α β:Type}
def ins (k:α→Int) (r:α):List α→List α
 | []=>[r]
 | x::l=>if k x≤k r then x::ins k r l else r::x::l
def srt (k:α→Int) (l:List α):List α:=l.foldl (fun a r=>ins k r a) []
theorem qeS {k:α→Int} {l:List α} {r:α}:srt k (l++[r])=ins k r (srt k l):=by
 unfold srt
 rw[List.foldl_append]
 rfl
theorem qko {k:α→Int} {k':β→Int} {f:β→α} (h: ∀b,k' b=k (f b)) (r:β): ∀l:List β,(ins k' r l).map f=ins k (f r) (l.map f)
 | []=>rfl
 | x::l=>by
  show List.map f (if k' x≤k' r then x::ins k' r l else r::x::l)=(if k (f x)≤k (f r) then f x::ins k (f r) (l.map f) else f r::f x::l.map f)
  rw[h x,h r]
  by_cases c:k (f x)≤k (f r)
  ·rw[if_pos c,if_pos c,List.map_cons,qko h r l]
  ·rw[if_neg c,if_neg c,List.map_cons,List.map_cons]
theorem qbg {k:α→Int} {k':β→Int} {f:β→α} (h: ∀b,k' b=k (f b)) (l:List β):(srt k' l).map f=srt k (l.map f):=by
 have go: ∀(l a:List β),(l.foldl (fun a r=>ins k' r a) a).map f=(l.map f).foldl (fun a r=>ins k r a) (a.map f):=by
  intro l
  induction l with
  | nil=>intro a; rfl
  | cons x l ih=>
   intro a
   rw[List.foldl_cons,ih,List.map_cons,List.foldl_cons,qko h]
 exact go l []
theorem qe6 {k:α→Int} {r x:α}: ∀{l:List α},x∈ins k r l↔x=r∨x∈l
 | []=>by simp[ins]
 | y::l=>by
  unfold ins
  by_cases c:k y≤k r
  ·rw[if_pos c,List.mem_cons,qe6,List.mem_cons]
   constructor
   ·rintro (h | h | h)
    ·exact .inr (.inl h)
    ·exact .inl h
    ·exact .inr (.inr h)
   ·rintro (h | h | h)
    ·exact .inr (.inl h)
    ·exact .inl h
    ·exact .inr (.inr h)
  ·rw[if_neg c,List.mem_cons]
theorem qeD {k:α→Int} {r:α}: ∀{l:List α},(ins k r l).length=l.length+1
 | []=>rfl
 | y::l=>by
  unfold ins
  by_cases c:k y≤k r
  ·rw[if_pos c,List.length_cons,qeD,List.length_cons]
  ·rw[if_neg c]; rfl
theorem qa1 {k:α→Int} {x:α} (l:List α):x∈srt k l↔x∈l:=by
 have go: ∀(l a:List α),x∈l.foldl (fun a r=>ins k r a) a↔x∈a∨x∈l:=by
  intro l
  induction l with
  | nil=>intro a; simp
  | cons y l ih=>
   intro a
   rw[List.foldl_cons,ih,qe6,List.mem_cons]
   constructor
   ·rintro ((h | h) | h)
    ·exact .inr (.inl h)
    ·exact .inl h
    ·exact .inr (.inr h)
   ·rintro (h | h | h)
    ·exact .inl (.inr h)
    ·exact .inl (.inl h)
    ·exact .inr h
 rw[show srt k l=l.foldl (fun a r=>ins k r a) [] from rfl,go]
 simp
theorem qbe {k:α→Int} (l:List α):(srt k l).length=l.length:=by
 have go: ∀(l a:List α),(l.foldl (fun a r=>ins k r a) a).length=a.length+l.length:=by
  intro l
  induction l with
  | nil=>intro a; simp
  | cons y l ih=>
   intro a
   rw[List.foldl_cons,ih,qeD,List.length_cons]
   lia
 have:=go l []
 simpa [srt] using this
def Ris (k:α→Int) (l:List α):Prop:=l.Pairwise fun a b=>k a≤k b
theorem qjw {k:α→Int} {r:α}: ∀{l:List α},Ris k l→Ris k (ins k r l)
 | [],_=>by simp[ins,Ris]
 | y::l,h=>by
  have h':=List.pairwise_cons.mp h
  unfold ins
  by_cases c:k y≤k r
  ·rw[if_pos c]
   refine List.pairwise_cons.mpr ⟨fun z hz=> ?_,qjw h'.2⟩
   rcases qe6.mp hz with q | q
   ·rw[q]; exact c
   ·exact h'.1 z q
  ·rw[if_neg c]
   refine List.pairwise_cons.mpr ⟨fun z hz=> ?_,h⟩
   rcases List.mem_cons.mp hz with q | q
   ·rw[q]; lia
   ·have:=h'.1 z q; lia
theorem qbC {k:α→Int} (l:List α):Ris k (srt k l):=by
 have go: ∀(l a:List α),Ris k a→Ris k (l.foldl (fun a r=>ins k r a) a):=by
  intro l
  induction l with
  | nil=>intro a h; exact h
  | cons y l ih=>intro a h; exact ih _ (qjw h)
 exact go l [] List.Pairwise.nil
theorem qkp {k:α→Int} {r:α}: ∀{l:List α},(∀x∈l,k x≤k r)→ins k r l=l++[r]
 | [],_=>rfl
 | y::l,h=>by
  unfold ins
  rw[if_pos (h y (List.mem_cons_self)),qkp fun x hx=>h x (List.mem_cons_of_mem _ hx)]
  rfl
theorem qnC {k:α→Int}: ∀{l:List α},Ris k l→srt k l=l:=by
 intro l
 have go: ∀(l a:List α),Ris k (a++l)→l.foldl (fun a r=>ins k r a) a=a++l:=by
  intro l
  induction l with
  | nil=>intro a _; simp
  | cons y l ih=>
   intro a h
   have h2:=List.pairwise_append.mp h
   rw[List.foldl_cons,qkp (fun x hx=>h2.2.2 x hx y List.mem_cons_self),ih (a++[y]) (by rw[List.append_assoc]; exact h),List.append_assoc]
   rfl
 intro h
 exact go l [] h
end
end SR
end
section
namespace SR
section
variable {α:Type}
structure Ord (lt:α→α→Bool):Prop where
 irr: ∀a,lt a a=false
 tr: ∀a b c,lt a b=true→lt b c=true→lt a c=true
 tot: ∀a b,lt a b=false→lt b a=false→a=b
def qbr (lt:α→α→Bool) (as:List α) (a:α):Int:=(as.countP fun x=>lt x a:Nat)
theorem qf9 {p q:α→Bool} (h: ∀x,p x=true→q x=true): ∀l:List α,l.countP p≤l.countP q
 | []=>Nat.le_refl _
 | x::l=>by
  have ih:=qf9 h l
  rw[List.countP_cons,List.countP_cons]
  cases e:p x with
  | true=>rw[h x e]; simp; exact ih
  | false=>
   simp
   lia
theorem qf8 {p q:α→Bool} (h: ∀x,p x=true→q x=true) {a:α} (ha:p a=false) (hb:q a=true): ∀{l:List α},a∈l→l.countP p<l.countP q
 | x::l,hm=>by
  rw[List.countP_cons,List.countP_cons]
  have le:=qf9 h l
  rcases List.mem_cons.mp hm with rfl | hm
  ·rw[ha,hb]; simp; lia
  ·have ih:=qf8 h ha hb hm
   cases e:p x with
   | true=>rw[h x e]; simp; exact ih
   | false=>simp; lia
theorem qcc {lt:α→α→Bool} (o:Ord lt) {as:List α} {a b:α} (ha:a∈as) (hb:b∈as):decide (qbr lt as a<qbr lt as b)=lt a b:=by
 have up: ∀{a b:α},a∈as→lt a b=true→qbr lt as a<qbr lt as b:=fun {a b} ha h=>by
  unfold qbr
  have:=qf8 (p:=fun x=>lt x a) (q:=fun x=>lt x b) (fun x hx=>o.tr x a b hx h) (o.irr a) h ha
  lia
 cases h:lt a b with
 | true=>exact decide_eq_true (up ha h)
 | false=>
  refine decide_eq_false ?_
  cases h2:lt b a with
  | true=>have:=up hb h2; lia
  | false=>
   have:=o.tot a b h h2
   subst this
   lia
theorem qeZ {lt:α→α→Bool} (o:Ord lt) {as:List α} {a b:α} (ha:a∈as) (hb:b∈as) (h:qbr lt as a=qbr lt as b):a=b:=by
 refine o.tot a b ?_ ?_
 ·rw[←qcc o ha hb]; exact decide_eq_false (by lia)
 ·rw[←qcc o hb ha]; exact decide_eq_false (by lia)
def qbM (lt:α→α→Bool) (as:List α):List α:=srt (qbr lt as) as
theorem qhu {k:α→Int} {r:α}: ∀l:List α,List.Perm (ins k r l) (r::l)
 | []=>List.Perm.refl _
 | x::l=>by
  show List.Perm (if k x≤k r then x::ins k r l else r::x::l) _
  by_cases c:k x≤k r
  ·rw[if_pos c]
   exact ((qhu l).cons x).trans (List.Perm.swap r x l)
  ·rw[if_neg c]
theorem qaI {k:α→Int} (l:List α):List.Perm (srt k l) l:=by
 have go: ∀(l a:List α),List.Perm (l.foldl (fun a r=>ins k r a) a) (a++l):=by
  intro l
  induction l with
  | nil=>intro a; simp
  | cons x l ih=>
   intro a
   rw[List.foldl_cons]
   refine (ih _).trans ?_
   refine ((qhu a).append_right l).trans ?_
   exact List.perm_middle.symm
 exact go l []
theorem eq_of_ris {k:α→Int}: ∀{l l':List α},(∀a∈l,∀b∈l,k a=k b→a=b)→Ris k l→Ris k l'→List.Perm l l'→l=l'
 | [],l',_,_,_,p=>(List.Perm.eq_nil p.symm).symm
 | x::l,[],_,_,_,p=>absurd (List.Perm.eq_nil p) (by simp)
 | x::l,y::l',hi,h1,h2,p=>by
  have a1:=List.pairwise_cons.mp h1
  have a2:=List.pairwise_cons.mp h2
  have hy:y∈x::l:=p.symm.subset List.mem_cons_self
  have hx:x∈y::l':=p.subset List.mem_cons_self
  have e:x=y:=by
   rcases List.mem_cons.mp hy with q | q
   ·exact q.symm
   ·rcases List.mem_cons.mp hx with r | r
    ·exact r
    ·have b1:=a1.1 y q
     have b2:=a2.1 x r
     exact hi x List.mem_cons_self y hy (by lia)
  subst e
  rw[eq_of_ris (fun a ha b hb=>hi a (List.mem_cons_of_mem _ ha) b (List.mem_cons_of_mem _ hb)) a1.2 a2.2 (p.cons_inv)]
theorem qb7 {lt:α→α→Bool} (o:Ord lt) {as bs:List α} (p:List.Perm as bs):qbM lt as=qbM lt bs:=by
 have e:qbr lt as=qbr lt bs:=funext fun a=>by
  unfold qbr
  rw[p.countP_eq]
 unfold qbM
 rw[←e]
 refine eq_of_ris (k:=qbr lt as) (fun a ha b hb h=>qeZ o ((qa1 _).mp ha) ((qa1 _).mp hb) h) (qbC _) (qbC _) ?_
 exact (qaI as).trans (p.trans (qaI bs).symm)
end
end SR
end
section
namespace L2
open PySem PySem.Spec PySem.Calls PyProof.Rows PySem.W
end L2
end
section
namespace PL
open PySem L2
inductive T where
 | non | bl (b:Bool) | int (i:Int) | str (s:Str) | tup (ts:List T) | lst (ts:List T) | dct (kvs:List (Key×T)) | scr (ns:List Int)
inductive Rs (α:Type) where
 | no | ok (a:α) | ex (c:Str)
@[inline] def Rs.bind {α β:Type}:Rs α→(α→Rs β)→Rs β
 | .no,_=>.no
 | .ok a,f=>f a
 | .ex c,_=>.ex c
instance:Monad Rs where
 pure:=Rs.ok
 bind:=Rs.bind
@[simp] theorem qae {α β:Type} (a:α) (f:α→Rs β):(Rs.ok a>>=f)=f a:=rfl
@[simp] theorem qsG {α β:Type} (f:α→Rs β):((Rs.no:Rs α)>>=f)= .no:=rfl
@[simp] theorem qr5 {α:Type} (a:α):(pure a:Rs α)= .ok a:=rfl
mutual
def Rep (K:PySem.W.Frag) (B:Hp):T→V→Prop
 | .non,v=>v= .non
 | .bl b,v=>v= .bl b
 | .int i,v=>v= .int i
 | .str s,v=>v= .str s
 | .tup ts,v=> ∃p vs,v= .ref p∧SqT K B p vs∧qaE K B ts vs
 | .lst ts,v=> ∃p vs,v= .ref p∧B p=some (.lst vs)∧qaE K B ts vs
 | .dct kvs,v=> ∃p us,v= .ref p∧B p=some (.dK us)∧qbA K B kvs us
 | .scr ns,v=> ∃p,v= .ref p∧SqL K B p (ns.map V.int)
def qaE (K:PySem.W.Frag) (B:Hp):List T→List V→Prop
 | [],vs=>vs=[]
 | t::ts,vs=> ∃v r,vs=v::r∧Rep K B t v∧qaE K B ts r
def qbA (K:PySem.W.Frag) (B:Hp):List (Key×T)→List (Key×V)→Prop
 | [],vs=>vs=[]
 | (k,t)::ts,vs=> ∃v r,vs=(k,v)::r∧Rep K B t v∧qbA K B ts r
end
def Le (B B':Hp):Prop:= ∀a o,B a=some o→B' a=some o
theorem Le.refl (B:Hp):Le B B:=fun _ _ h=>h
theorem Le.trans {A B C:Hp} (h:Le A B) (h':Le B C):Le A C:=fun a o e=>h' a o (h a o e)
theorem Le.sqT {K:PySem.W.Frag} {B B':Hp} {p:Addr} {vs:List V} (h:Le B B') (q:SqT K B p vs):SqT K B' p vs:=by
 rcases q with (q | ⟨o,q⟩) | q
 ·exact .inl (.inl (h _ _ q))
 ·exact .inl (.inr ⟨o,h _ _ q⟩)
 ·exact .inr q
theorem Le.sqL {K:PySem.W.Frag} {B B':Hp} {p:Addr} {vs:List V} (h:Le B B') (q:SqL K B p vs):SqL K B' p vs:=by
 rcases q with (q | ⟨o,q⟩) | q
 ·exact .inl (.inl (h _ _ q))
 ·exact .inl (.inr ⟨o,h _ _ q⟩)
 ·exact .inr q
mutual
theorem Rep.mono {K:PySem.W.Frag} {B B':Hp} (h:Le B B'): ∀{t:T} {v:V},Rep K B t v→Rep K B' t v
 | .non,_,r=>r
 | .bl _,_,r=>r
 | .int _,_,r=>r
 | .str _,_,r=>r
 | .tup _,_,r=>by
  unfold Rep at r⊢
  obtain ⟨p,vs,e,q,rs⟩:=r
  exact ⟨p,vs,e,h.sqT q,qaE.mono h rs⟩
 | .lst _,_,r=>by
  unfold Rep at r⊢
  obtain ⟨p,vs,e,q,rs⟩:=r
  exact ⟨p,vs,e,h _ _ q,qaE.mono h rs⟩
 | .dct _,_,r=>by
  unfold Rep at r⊢
  obtain ⟨p,vs,e,q,rs⟩:=r
  exact ⟨p,vs,e,h _ _ q,qbA.mono h rs⟩
 | .scr _,_,r=>by
  unfold Rep at r⊢
  obtain ⟨p,e,q⟩:=r
  exact ⟨p,e,h.sqL q⟩
theorem qaE.mono {K:PySem.W.Frag} {B B':Hp} (h:Le B B'): ∀{ts:List T} {vs:List V},qaE K B ts vs→qaE K B' ts vs
 | [],_,r=>r
 | _::_,_,r=>by
  unfold qaE at r⊢
  obtain ⟨v,r',e,a,b⟩:=r
  exact ⟨v,r',e,Rep.mono h a,qaE.mono h b⟩
theorem qbA.mono {K:PySem.W.Frag} {B B':Hp} (h:Le B B'): ∀{ts:List (Key×T)} {vs:List (Key×V)},qbA K B ts vs→qbA K B' ts vs
 | [],_,r=>r
 | (_,_)::_,_,r=>by
  unfold qbA at r⊢
  obtain ⟨v,r',e,a,b⟩:=r
  exact ⟨v,r',e,Rep.mono h a,qbA.mono h b⟩
end
section
variable {K:PySem.W.Frag} {B:Hp}
theorem qaE.nil:qaE K B [] []:=by unfold qaE; rfl
theorem qaE.cons {t:T} {v:V} {ts:List T} {vs:List V} (h:Rep K B t v) (r:qaE K B ts vs):qaE K B (t::ts) (v::vs):=by unfold qaE; exact ⟨v,vs,rfl,h,r⟩
theorem qaE.inv {t:T} {ts:List T} {vs:List V} (h:qaE K B (t::ts) vs): ∃v r,vs=v::r∧Rep K B t v∧qaE K B ts r:=by unfold qaE at h; exact h
theorem qaE.inv0 {vs:List V} (h:qaE K B [] vs):vs=[]:=by unfold qaE at h; exact h
theorem qaE.length: ∀{ts:List T} {vs:List V},qaE K B ts vs→vs.length=ts.length
 | [],_,h=>by rw[h.inv0]; rfl
 | _::_,_,h=>by
  obtain ⟨v,r,rfl,_,h'⟩:=h.inv
  simp[qaE.length h']
theorem qaE.get: ∀{ts:List T} {vs:List V} {i:Nat} {t:T},qaE K B ts vs→ts[i]? =some t→∃v,vs[i]? =some v∧Rep K B t v
 | [],_,_,_,_,e=>by simp at e
 | _::_,_,0,_,h,e=>by
  obtain ⟨v,r,rfl,a,_⟩:=h.inv
  simp at e; subst e
  exact ⟨v,rfl,a⟩
 | _::_,_,i+1,t,h,e=>by
  obtain ⟨v,r,rfl,_,h'⟩:=h.inv
  obtain ⟨u,e1,e2⟩:=qaE.get (i:=i) h' (by simpa using e)
  exact ⟨u,by simpa using e1,e2⟩
theorem qaE.getV {ts:List T} {vs:List V} {i:Nat} {v:V} (h:qaE K B ts vs) (e:vs[i]? =some v): ∃t,ts[i]? =some t∧Rep K B t v:=by
 have hi:i<ts.length:=by rw[←h.length]; exact (List.getElem?_eq_some_iff.mp e).1
 obtain ⟨u,e1,e2⟩:=h.get (List.getElem?_eq_getElem hi)
 rw[e] at e1; cases e1
 exact ⟨_,List.getElem?_eq_getElem hi,e2⟩
theorem qaE.of_get {ts:List T} {vs:List V} (hl:vs.length=ts.length) (h: ∀(i:Nat) (t:T) (v:V),ts[i]? =some t→vs[i]? =some v→Rep K B t v):qaE K B ts vs:=by
 induction ts generalizing vs with
 | nil=>cases vs with
  | nil=>exact .nil
  | cons _ _=>cases hl
 | cons t ts ih=>cases vs with
  | nil=>cases hl
  | cons v vs=>exact .cons (h 0 t v rfl rfl) (ih (by simpa using hl) fun i t' v' a b=>h (i+1) t' v' (by simpa using a) (by simpa using b))
theorem qaE.append: ∀{ts us:List T} {vs ws:List V},qaE K B ts vs→qaE K B us ws→qaE K B (ts++us) (vs++ws)
 | [],_,_,_,h,h'=>by rw[h.inv0]; exact h'
 | _::_,_,_,_,h,h'=>by
  obtain ⟨v,r,rfl,a,b⟩:=h.inv
  exact .cons a (qaE.append b h')
theorem qaE.snoc {ts:List T} {vs:List V} {t:T} {v:V} (h:qaE K B ts vs) (r:Rep K B t v):qaE K B (ts++[t]) (vs++[v]):=h.append (.cons r .nil)
theorem qaE.take {ts:List T} {vs:List V} (n:Nat) (h:qaE K B ts vs):qaE K B (ts.take n) (vs.take n):=by
 refine .of_get (by simp[h.length]) fun i t v a b=> ?_
 rw[List.getElem?_take] at a b
 split at a
 ·rename_i hi
  rw[if_pos hi] at b
  obtain ⟨u,e1,e2⟩:=h.get a
  rw[b] at e1; cases e1; exact e2
 ·cases a
theorem qaE.drop {ts:List T} {vs:List V} (n:Nat) (h:qaE K B ts vs):qaE K B (ts.drop n) (vs.drop n):=by
 refine .of_get (by simp[h.length]) fun i t v a b=> ?_
 rw[List.getElem?_drop] at a b
 obtain ⟨u,e1,e2⟩:=h.get a
 rw[b] at e1; cases e1; exact e2
theorem qaE.set {ts:List T} {vs:List V} {t:T} {v:V} (n:Nat) (h:qaE K B ts vs) (r:Rep K B t v):qaE K B (ts.set n t) (vs.set n v):=by
 refine .of_get (by simp[h.length]) fun i t' v' a b=> ?_
 have hl:=h.length
 rw[List.getElem?_set] at a b
 by_cases hi:n=i
 ·subst hi
  rw[if_pos rfl] at a b
  split at a
  ·split at b
   ·cases a; cases b; exact r
   ·cases b
  ·cases a
 ·rw[if_neg hi] at a b
  obtain ⟨u,e1,e2⟩:=h.get a
  rw[b] at e1; cases e1; exact e2
theorem qaE.getD {ts:List T} {vs:List V} (h:qaE K B ts vs) (j:Nat) (hj:j<ts.length):Rep K B (ts.getD j .non) (vs.getD j .non):=by
 obtain ⟨u,e1,e2⟩:=h.get (List.getElem?_eq_getElem hj)
 rw[List.getD_eq_getElem?_getD,List.getD_eq_getElem?_getD,e1,List.getElem?_eq_getElem hj]
 exact e2
end
structure Gam where
 P:Hp→Prop
 st: ∀H H':Hp,(∀a o,H a=some o→(∀xs,o≠.lst xs)→(∀xs,o≠.dK xs)→(∀xs,o≠.dT xs)→(∀C dx fs,o≠.ins C dx fs)→H' a=some o)→P H→P H'
structure GX (H H':Hp):Prop where
 hh: ∀a o,H a=some o→(∀ps,o≠.tbl ps)→H' a=some o
 dm: ∀a,H a≠none→H' a≠none
theorem GX.refl (H:Hp):GX H H:=⟨fun _ _ h _=>h,fun _ h=>h⟩
theorem GX.trans {H H1 H2:Hp} (a:GX H H1) (b:GX H1 H2):GX H H2:=⟨fun x o h n=>b.hh x o (a.hh x o h n) n,fun x h=>b.dm x (a.dm x h)⟩
structure qa4 (H B H' B':Hp):Prop where
 gx:GX H H'
 bb:Le B B'
 bh:Le B' H'
 bt: ∀a ps,B' a≠some (.tbl ps)
 nw: ∀a,H a≠none→B' a=B a
theorem qa4.refl {H B:Hp} (h:Le B H) (t: ∀a ps,B a≠some (.tbl ps)):qa4 H B H B:=⟨.refl _,.refl _,h,t,fun _ _=>rfl⟩
theorem qa4.trans {H B H1 B1 H2 B2:Hp} (a:qa4 H B H1 B1) (b:qa4 H1 B1 H2 B2):qa4 H B H2 B2:=
 ⟨a.gx.trans b.gx,a.bb.trans b.bb,b.bh,b.bt,fun x h=>(b.nw x (a.gx.dm x h)).trans (a.nw x h)⟩
theorem qa4.new {H B:Hp} {p:Addr} {o:HO} (h:Le B H) (t: ∀a ps,B a≠some (.tbl ps)) (hp:H p=none) (ho: ∀ps,o≠.tbl ps):qa4 H B (upd H p o) (upd B p o):=by
 have bp:B p=none:=by
  cases e:B p with
  | none=>rfl
  | some u=>rw[h _ _ e] at hp; cases hp
 refine ⟨⟨fun a u e _=>by rw[qaj (qap e hp)]; exact e,fun a e z=> ?_⟩,fun a u e=>by rw[qaj (qap e bp)]; exact e,fun a u e=> ?_,fun a ps e=> ?_,fun a e=> ?_⟩
 ·by_cases q:a=p
  ·subst q; exact e hp
  ·rw[qaj q] at z; exact e z
 ·by_cases q:a=p
  ·subst q; rw[qan] at e⊢; exact e
  ·rw[qaj q] at e⊢; exact h _ _ e
 ·by_cases q:a=p
  ·subst q; rw[qan] at e; exact ho ps (Option.some.inj e)
  ·rw[qaj q] at e; exact t a ps e
 ·rw[qaj (fun z=>e (by rw[z]; exact hp))]
theorem qa4.own {H B:Hp} {p:Addr} {o:HO} (h:Le B H) (t: ∀a ps,B a≠some (.tbl ps)) (hp:H p=none):qa4 H B (upd H p o) B:=by
 refine ⟨⟨fun a u e _=>by rw[qaj (qap e hp)]; exact e,fun a e z=> ?_⟩,.refl _,fun a u e=> ?_,t,fun a e=>rfl⟩
 ·by_cases q:a=p
  ·subst q; exact e hp
  ·rw[qaj q] at z; exact e z
 ·rw[qaj (qap (h _ _ e) hp)]; exact h _ _ e
inductive Sl where
 | no | fz (t:T) | ow (ts:List T) | od (kvs:List (Key×T))
def qrb (K:PySem.W.Frag) (H0 H B:Hp):Sl→Option V→Prop
 | .no,_=>True
 | .fz t,o=> ∃v,o=some v∧Rep K B t v
 | .ow ts,o=> ∃p vs,o=some (.ref p)∧H0 p=none∧B p=none∧H p=some (.lst vs)∧qaE K B ts vs
 | .od kvs,o=> ∃p us,o=some (.ref p)∧H0 p=none∧B p=none∧H p=some (.dK us)∧qbA K B kvs us
def Sl.own:Sl→Bool
 | .ow _=>true
 | .od _=>true
 | _=>false
structure Md where
 K:PySem.W.Frag
 G:Gam
 E:XK
 C:Str→Addr
abbrev Ro:=List Sl
structure Ev (M:Md) (H0 B0:Hp) (ρ:Ro) (σ:St) (H B:Hp):Prop where
 gr:qa4 H0 B0 H B
 gm:M.G.P H
 len:ρ.length=σ.length
 sl: ∀(i:Nat) (s:Sl),ρ[i]? =some s→qrb M.K H0 H B s (σ[i]?.join)
 ap: ∀(i j:Nat) (si sj:Sl) (p:Addr),i≠j→ρ[i]? =some si→ρ[j]? =some sj→si.own=true→sj.own=true→σ[i]?.join=some (.ref p)→σ[j]?.join≠some (.ref p)
section
variable {M:Md} {H0 B0 H B H' B':Hp} {ρ:Ro} {σ:St}
theorem qrb.grow {K:PySem.W.Frag} {s:Sl} {o:Option V} (h:qrb K H0 H B s o) (g:qa4 H B H' B'):qrb K H0 H' B' s o:=by
 cases s with
 | no=>trivial
 | fz t=>obtain ⟨v,e,r⟩:=h; exact ⟨v,e,r.mono g.bb⟩
 | ow ts=>
  obtain ⟨p,vs,e,h0,hb,hp,r⟩:=h
  exact ⟨p,vs,e,h0,by rw[g.nw p (by rw[hp]; simp)]; exact hb,g.gx.hh _ _ hp (by intro ps z; cases z),r.mono g.bb⟩
 | od ts=>
  obtain ⟨p,vs,e,h0,hb,hp,r⟩:=h
  exact ⟨p,vs,e,h0,by rw[g.nw p (by rw[hp]; simp)]; exact hb,g.gx.hh _ _ hp (by intro ps z; cases z),r.mono g.bb⟩
theorem Ev.grow (v:Ev M H0 B0 ρ σ H B) (g:qa4 H B H' B') (m:M.G.P H'):Ev M H0 B0 ρ σ H' B':=
 ⟨v.gr.trans g,m,v.len,fun i s e=>(v.sl i s e).grow g,v.ap⟩
theorem Ev.bh (v:Ev M H0 B0 ρ σ H B):Le B H:=v.gr.bh
theorem Ev.bt (v:Ev M H0 B0 ρ σ H B): ∀a ps,B a≠some (.tbl ps):=v.gr.bt
theorem Ev.new (v:Ev M H0 B0 ρ σ H B) {p:Addr} {o:HO} (hp:H p=none) (ho: ∀ps,o≠.tbl ps):qa4 H B (upd H p o) (upd B p o)∧M.G.P (upd H p o):=
 ⟨.new v.bh v.bt hp ho,M.G.st H _ (fun a u e _ _ _ _=>by rw[qaj (qap e hp)]; exact e) v.gm⟩
theorem Ev.nown (v:Ev M H0 B0 ρ σ H B) {p:Addr} {o:HO} (hp:H p=none):qa4 H B (upd H p o) B∧M.G.P (upd H p o):=
 ⟨.own v.bh v.bt hp,M.G.st H _ (fun a u e _ _ _ _=>by rw[qaj (qap e hp)]; exact e) v.gm⟩
theorem Ev.get (v:Ev M H0 B0 ρ σ H B) {i:Nat} {t:T} (e:ρ[i]? =some (.fz t)): ∃x,σ[i]? =some (some x)∧Rep M.K B t x:=by
 obtain ⟨x,e1,r⟩:=v.sl i _ e
 refine ⟨x,?_,r⟩
 cases q:σ[i]? with
 | none=>rw[q] at e1; cases e1
 | some o=>rw[q] at e1; cases o with
  | none=>cases e1
  | some y=>cases e1; rfl
theorem Ev.getOw (v:Ev M H0 B0 ρ σ H B) {i:Nat} {ts:List T} (e:ρ[i]? =some (.ow ts)): ∃p vs,σ[i]? =some (some (.ref p))∧H0 p=none∧B p=none∧H p=some (.lst vs)∧qaE M.K B ts vs:=by
 obtain ⟨p,vs,e1,r⟩:=v.sl i _ e
 refine ⟨p,vs,?_,r⟩
 cases q:σ[i]? with
 | none=>rw[q] at e1; cases e1
 | some o=>rw[q] at e1; cases o with
  | none=>cases e1
  | some y=>cases e1; rfl
theorem qcf {σ:St} {i j:Nat} {x:V} (hi:i<σ.length):(σ.set i (some x))[j]?.join=if i=j then some x else σ[j]?.join:=by
 rw[List.getElem?_set]
 by_cases q:i=j
 ·subst q; rw[if_pos rfl,if_pos rfl,if_pos hi]; rfl
 ·rw[if_neg q,if_neg q]
theorem Ev.set (v:Ev M H0 B0 ρ σ H B) {i:Nat} {t:T} {x:V} (r:Rep M.K B t x):Ev M H0 B0 (ρ.set i (.fz t)) (σ.set i (some x)) H B:=by
 by_cases hi:i<ρ.length
 case neg=>
  rw[List.set_eq_of_length_le (by lia),List.set_eq_of_length_le (by rw[←v.len]; lia)]
  exact v
 have hi':i<σ.length:=by rw[←v.len]; exact hi
 refine ⟨v.gr,v.gm,by simp[v.len],fun j s e=> ?_,fun j k sj sk p hjk ej ek oj ok a=> ?_⟩
 ·rw[qcf hi']
  rw[List.getElem?_set] at e
  by_cases q:i=j
  ·subst q
   rw[if_pos rfl,if_pos hi] at e
   cases e
   rw[if_pos rfl]
   exact ⟨x,rfl,r⟩
  ·rw[if_neg q] at e⊢
   exact v.sl j s e
 ·rw[List.getElem?_set] at ej ek
  by_cases q:i=j
  ·subst q; rw[if_pos rfl,if_pos hi] at ej; cases ej; cases oj
  ·by_cases q2:i=k
   ·subst q2; rw[if_pos rfl,if_pos hi] at ek; cases ek; cases ok
   ·rw[if_neg q] at ej
    rw[if_neg q2] at ek
    rw[qcf hi',if_neg q] at a
    rw[qcf hi',if_neg q2]
    exact v.ap j k sj sk p hjk ej ek oj ok a
theorem Ev.setOw (v:Ev M H0 B0 ρ σ H B) {i:Nat} {ts:List T} {p:Addr} {vs:List V} (h0:H0 p=none) (hb:B p=none) (hp:H p=some (.lst vs)) (r:qaE M.K B ts vs)
  (ap: ∀(j:Nat) (s:Sl),j≠i→ρ[j]? =some s→s.own=true→σ[j]?.join≠some (.ref p)):Ev M H0 B0 (ρ.set i (.ow ts)) (σ.set i (some (.ref p))) H B:=by
 by_cases hi:i<ρ.length
 case neg=>
  rw[List.set_eq_of_length_le (by lia),List.set_eq_of_length_le (by rw[←v.len]; lia)]
  exact v
 have hi':i<σ.length:=by rw[←v.len]; exact hi
 refine ⟨v.gr,v.gm,by simp[v.len],fun j s e=> ?_,fun j k sj sk p' hjk ej ek oj ok a=> ?_⟩
 ·rw[qcf hi']
  rw[List.getElem?_set] at e
  by_cases q:i=j
  ·subst q
   rw[if_pos rfl,if_pos hi] at e
   cases e
   rw[if_pos rfl]
   exact ⟨p,vs,rfl,h0,hb,hp,r⟩
  ·rw[if_neg q] at e⊢
   exact v.sl j s e
 ·rw[List.getElem?_set] at ej ek
  rw[qcf hi'] at a⊢
  by_cases q:i=j
  ·subst q
   rw[if_neg hjk] at ek
   rw[if_pos rfl] at a
   rw[if_neg hjk]
   cases a
   exact ap k sk (fun z=>hjk z.symm) ek ok
  ·rw[if_neg q] at ej a
   by_cases q2:i=k
   ·subst q2
    rw[if_pos rfl]
    intro z
    cases z
    exact ap j sj hjk ej oj a
   ·rw[if_neg q2] at ek⊢
    exact v.ap j k sj sk p' hjk ej ek oj ok a
theorem Ev.putOw (v:Ev M H0 B0 ρ σ H B) {i:Nat} {ts us:List T} {p:Addr} {ws:List V} (e:ρ[i]? =some (.ow ts)) (es:σ[i]? =some (some (.ref p))) (r:qaE M.K B us ws):Ev M H0 B0 (ρ.set i (.ow us)) σ (upd H p (.lst ws)) B:=by
 obtain ⟨q,vs,e1,h0,hb,hp,_⟩:=v.getOw e
 rw[es] at e1; cases e1
 have hi:i<ρ.length:=(List.getElem?_eq_some_iff.mp e).1
 have neB: ∀a o,B a=some o→a≠p:=fun a o z w=>by rw[w,hb] at z; cases z
 refine ⟨⟨⟨fun a o z n=> ?_,fun a z w=> ?_⟩,v.gr.bb,fun a o z=> ?_,v.gr.bt,v.gr.nw⟩,M.G.st H _ (fun a o z n1 n2 n3 n4=> ?_) v.gm,by simp[v.len],fun j s ej=> ?_,fun j k sj sk p' hjk ej ek oj ok a=> ?_⟩
 ·rw[qaj (qap z h0)]; exact v.gr.gx.hh a o z n
 ·by_cases q:a=p
  ·subst q; exact z h0
  ·rw[qaj q] at w; exact v.gr.gx.dm a z w
 ·rw[qaj (neB a o z)]; exact v.gr.bh a o z
 ·rw[qaj (ql5 z hp (n1 _))]; exact z
 ·rw[List.getElem?_set] at ej
  by_cases q:i=j
  ·subst q
   rw[if_pos rfl,if_pos hi] at ej
   cases ej
   exact ⟨p,ws,by rw[es]; rfl,h0,hb,qan,r⟩
  ·rw[if_neg q] at ej
   have o:=v.sl j s ej
   cases s with
   | no=>trivial
   | fz t=>exact o
   | ow ts'=>
    obtain ⟨p',vs',a1,a2,a3,a4,a5⟩:=o
    have ne:p'≠p:=fun z=>by
     subst z
     exact v.ap i j _ _ p' q e ej rfl rfl (by rw[es]; rfl) a1
    exact ⟨p',vs',a1,a2,a3,by rw[qaj ne]; exact a4,a5⟩
   | od ts'=>
    obtain ⟨p',vs',a1,a2,a3,a4,a5⟩:=o
    have ne:p'≠p:=fun z=>by
     subst z
     exact v.ap i j _ _ p' q e ej rfl rfl (by rw[es]; rfl) a1
    exact ⟨p',vs',a1,a2,a3,by rw[qaj ne]; exact a4,a5⟩
 ·have own_at: ∀(l:Nat) (sl:Sl),(ρ.set i (.ow us))[l]? =some sl→sl.own=true→∃sl',ρ[l]? =some sl'∧sl'.own=true:=fun l sl el ol=>by
   rw[List.getElem?_set] at el
   by_cases q:i=l
   ·subst q; exact ⟨_,e,rfl⟩
   ·rw[if_neg q] at el; exact ⟨sl,el,ol⟩
  obtain ⟨sj',ej',oj'⟩:=own_at j sj ej oj
  obtain ⟨sk',ek',ok'⟩:=own_at k sk ek ok
  exact v.ap j k sj' sk' p' hjk ej' ek' oj' ok' a
theorem Ev.freeze (v:Ev M H0 B0 ρ σ H B) {i:Nat} {ts:List T} (e:ρ[i]? =some (.ow ts)): ∃B',Le B B'∧Ev M H0 B0 (ρ.set i (.fz (.lst ts))) σ H B':=by
 obtain ⟨p,vs,es,h0,hb,hp,r⟩:=v.getOw e
 have hi:i<ρ.length:=(List.getElem?_eq_some_iff.mp e).1
 have le:Le B (upd B p (.lst vs)):=fun a o z=>by rw[qaj (qap z hb)]; exact z
 refine ⟨upd B p (.lst vs),le,⟨v.gr.gx,v.gr.bb.trans le,fun a o z=> ?_,fun a ps z=> ?_,fun a z=> ?_⟩,v.gm,by simp[v.len],fun j s ej=> ?_,fun j k sj sk p' hjk ej ek oj ok a=> ?_⟩
 ·by_cases q:a=p
  ·subst q; rw[qan] at z; cases z; exact hp
  ·rw[qaj q] at z; exact v.gr.bh a o z
 ·by_cases q:a=p
  ·subst q; rw[qan] at z; cases z
  ·rw[qaj q] at z; exact v.gr.bt a ps z
 ·rw[qaj (fun q=>z (by rw[q]; exact h0))]; exact v.gr.nw a z
 ·rw[List.getElem?_set] at ej
  by_cases q:i=j
  ·subst q
   rw[if_pos rfl,if_pos hi] at ej
   cases ej
   refine ⟨.ref p,by rw[es]; rfl,?_⟩
   unfold Rep
   exact ⟨p,vs,rfl,qan,r.mono le⟩
  ·rw[if_neg q] at ej
   have o:=v.sl j s ej
   cases s with
   | no=>trivial
   | fz t=>obtain ⟨x,a1,a2⟩:=o; exact ⟨x,a1,a2.mono le⟩
   | ow ts'=>
    obtain ⟨p',vs',a1,a2,a3,a4,a5⟩:=o
    have ne:p'≠p:=fun z=>by
     subst z
     exact v.ap i j _ _ p' q e ej rfl rfl (by rw[es]; rfl) a1
    exact ⟨p',vs',a1,a2,by rw[qaj ne]; exact a3,a4,a5.mono le⟩
   | od ts'=>
    obtain ⟨p',vs',a1,a2,a3,a4,a5⟩:=o
    have ne:p'≠p:=fun z=>by
     subst z
     exact v.ap i j _ _ p' q e ej rfl rfl (by rw[es]; rfl) a1
    exact ⟨p',vs',a1,a2,by rw[qaj ne]; exact a3,a4,a5.mono le⟩
 ·rw[List.getElem?_set] at ej ek
  by_cases q:i=j
  ·subst q; rw[if_pos rfl,if_pos hi] at ej; cases ej; cases oj
  ·by_cases q2:i=k
   ·subst q2; rw[if_pos rfl,if_pos hi] at ek; cases ek; cases ok
   ·rw[if_neg q] at ej
    rw[if_neg q2] at ek
    exact v.ap j k sj sk p' hjk ej ek oj ok a
end
end PL
end
section
namespace PL
open PySem L2
def qta (M:Md) (H0 H B:Hp) (Q:VK):Rs T→Prop
 | .no=>False
 | .ok r=> ∀v H' B',qa4 H B H' B'→M.G.P H'→Rep M.K B' r v→Q v H'
 | .ex c=> ∀H',GX H0 H'→M.G.P H'→M.E (.ref (M.C c)) none H'
def qt4 (M:Md) (H0 H B:Hp) (Q:List V→Hp→Prop):Rs (List T)→Prop
 | .no=>False
 | .ok r=> ∀v H' B',qa4 H B H' B'→M.G.P H'→qaE M.K B' r v→Q v H'
 | .ex c=> ∀H',GX H0 H'→M.G.P H'→M.E (.ref (M.C c)) none H'
def qt3 (M:Md) (H0 H B:Hp) (Q:VK):Rs (List T)→Prop
 | .no=>False
 | .ok r=> ∀p vs H' B',qa4 H B H' B'→M.G.P H'→H p=none→B' p=none→H' p=some (.lst vs)→qaE M.K B' r vs→Q (.ref p) H'
 | .ex c=> ∀H',GX H0 H'→M.G.P H'→M.E (.ref (M.C c)) none H'
def qt2 (M:Md) (H0 H B:Hp) (Q:VK):Rs (Bool×List T)→Prop
 | .no=>False
 | .ok r=> ∀p vs H' B',qa4 H B H' B'→M.G.P H'→(if r.1=true then H' p=some (.lst vs) else SqT M.K B' p vs)→qaE M.K B' r.2 vs→Q (.ref p) H'
 | .ex c=> ∀H',GX H0 H'→M.G.P H'→M.E (.ref (M.C c)) none H'
def qt1 (M:Md) (H0 H B:Hp) (Q:Bool→Hp→Prop):Rs Bool→Prop
 | .no=>False
 | .ok r=> ∀H' B',qa4 H B H' B'→M.G.P H'→Q r H'
 | .ex c=> ∀H',GX H0 H'→M.G.P H'→M.E (.ref (M.C c)) none H'
def tP (M:Md) (d:Ro→Rs T):TE:=fun σ H Q=> ∃H0 B0 ρ B,Ev M H0 B0 ρ σ H B∧qta M H0 H B Q (d ρ)
def tPA (M:Md) (d:Ro→Rs (List T)):TA:=fun σ H Q=> ∃H0 B0 ρ B,Ev M H0 B0 ρ σ H B∧qt4 M H0 H B Q (d ρ)
def tF (M:Md) (d:Ro→Rs (List T)):TE:=fun σ H Q=> ∃H0 B0 ρ B,Ev M H0 B0 ρ σ H B∧qt3 M H0 H B Q (d ρ)
def tQ (M:Md) (d:Ro→Rs (Bool×List T)):TE:=fun σ H Q=> ∃H0 B0 ρ B,Ev M H0 B0 ρ σ H B∧qt2 M H0 H B Q (d ρ)
def tPT (M:Md) (d:Ro→Rs Bool):TT:=fun σ H Q=> ∃H0 B0 ρ B,Ev M H0 B0 ρ σ H B∧qt1 M H0 H B Q (d ρ)
abbrev DE (M:Md) (X:Cx) (e:Expr) (d:Ro→Rs T):Prop:=PE X e (tP M d)
abbrev DA (M:Md) (X:Cx) (es:List Expr) (d:Ro→Rs (List T)):Prop:=PA X es (tPA M d)
abbrev DF (M:Md) (X:Cx) (e:Expr) (d:Ro→Rs (List T)):Prop:=PE X e (tF M d)
abbrev DQ (M:Md) (X:Cx) (e:Expr) (d:Ro→Rs (Bool×List T)):Prop:=PE X e (tQ M d)
abbrev DT (M:Md) (X:Cx) (e:Expr) (d:Ro→Rs Bool):Prop:=PT X e (tPT M d)
theorem PE.weak {X:Cx} {e:Expr} {t t':TE} (h:PE X e t) (w: ∀σ H Q,t' σ H Q→t σ H Q):PE X e t':=fun pins s σ H Q I q=>h pins s σ H Q I (w σ H Q q)
theorem PT.weak {X:Cx} {e:Expr} {t t':TT} (h:PT X e t) (w: ∀σ H Q,t' σ H Q→t σ H Q):PT X e t':=fun pins s σ H Q I q=>h pins s σ H Q I (w σ H Q q)
theorem PA.weak {X:Cx} {e:List Expr} {t t':TA} (h:PA X e t) (w: ∀σ H Q,t' σ H Q→t σ H Q):PA X e t':=fun pos pins s σ H Q I q=>h pos pins s σ H Q I (w σ H Q q)
theorem PS.weak {X:Cx} {e:Stmt} {t t':TS} (h:PS X e t) (w: ∀D σ H,t' D σ H→t D σ H):PS X e t':=fun pins s σ H D I q=>h pins s σ H D I (w D σ H q)
theorem PSs.weak {X:Cx} {e:List Stmt} {t t':TS} (h:PSs X e t) (w: ∀D σ H,t' D σ H→t D σ H):PSs X e t':=fun pins s σ H D I q=>h pins s σ H D I (w D σ H q)
section
variable {M:Md} {H0 B0 H B H1 B1:Hp} {ρ:Ro} {σ:St}
theorem qbD {p:Addr} (g:GX H H1) (h:H1 p=none):H p=none:=by
 cases e:H p with
 | none=>rfl
 | some o=>exact absurd h (g.dm p (by rw[e]; simp))
end
section
variable {M:Md} {H0 B0 H B:Hp} {ρ:Ro} {σ:St} {α:Type}
def Wnt (M:Md) (H0:Hp) (k:α→Prop):Rs α→Prop
 | .no=>False
 | .ok a=>k a
 | .ex c=> ∀H',GX H0 H'→M.G.P H'→M.E (.ref (M.C c)) none H'
theorem Wnt.bind {β:Type} {k:β→Prop} {r:Rs α} {f:α→Rs β} (h:Wnt M H0 k (r>>=f)):Wnt M H0 (fun a=>Wnt M H0 k (f a)) r:=by
 cases r with
 | no=>exact h
 | ok a=>exact h
 | ex c=>exact h
theorem Wnt.mono {k k':α→Prop} {r:Rs α} (h:Wnt M H0 k r) (f: ∀a,k a→k' a):Wnt M H0 k' r:=by
 cases r with
 | no=>exact h
 | ok a=>exact f a h
 | ex c=>exact h
theorem qaJ {Q:VK} {r:Rs T}:qta M H0 H B Q r↔Wnt M H0 (fun a=> ∀v H' B',qa4 H B H' B'→M.G.P H'→Rep M.K B' a v→Q v H') r:=by cases r<;>exact Iff.rfl
theorem qhZ {Q:List V→Hp→Prop} {r:Rs (List T)}:qt4 M H0 H B Q r↔Wnt M H0 (fun a=> ∀v H' B',qa4 H B H' B'→M.G.P H'→qaE M.K B' a v→Q v H') r:=by cases r<;>exact Iff.rfl
theorem qbL {Q:VK} {r:Rs (List T)}:qt3 M H0 H B Q r↔Wnt M H0 (fun a=> ∀p vs H' B',qa4 H B H' B'→M.G.P H'→H p=none→B' p=none→H' p=some (.lst vs)→qaE M.K B' a vs→Q (.ref p) H') r:=by cases r<;>exact Iff.rfl
theorem qdc {Q:VK} {r:Rs (Bool×List T)}:qt2 M H0 H B Q r↔Wnt M H0 (fun a=> ∀p vs H' B',qa4 H B H' B'→M.G.P H'→(if a.1=true then H' p=some (.lst vs) else SqT M.K B' p vs)→qaE M.K B' a.2 vs→Q (.ref p) H') r:=by cases r<;>exact Iff.rfl
theorem qdb {Q:Bool→Hp→Prop} {r:Rs Bool}:qt1 M H0 H B Q r↔Wnt M H0 (fun a=> ∀H' B',qa4 H B H' B'→M.G.P H'→Q a H') r:=by cases r<;>exact Iff.rfl
theorem tP.of {Q:VK} {d:Ro→Rs T} (ev:Ev M H0 B0 ρ σ H B) (h:Wnt M H0 (fun a=> ∀v H' B',qa4 H B H' B'→M.G.P H'→Rep M.K B' a v→Q v H') (d ρ)):tP M d σ H Q:=⟨H0,B0,ρ,B,ev,qaJ.mpr h⟩
theorem tPA.of {Q:List V→Hp→Prop} {d:Ro→Rs (List T)} (ev:Ev M H0 B0 ρ σ H B) (h:Wnt M H0 (fun a=> ∀v H' B',qa4 H B H' B'→M.G.P H'→qaE M.K B' a v→Q v H') (d ρ)):tPA M d σ H Q:=⟨H0,B0,ρ,B,ev,qhZ.mpr h⟩
theorem tF.of {Q:VK} {d:Ro→Rs (List T)} (ev:Ev M H0 B0 ρ σ H B) (h:Wnt M H0 (fun a=> ∀p vs H' B',qa4 H B H' B'→M.G.P H'→H p=none→B' p=none→H' p=some (.lst vs)→qaE M.K B' a vs→Q (.ref p) H') (d ρ)):tF M d σ H Q:=⟨H0,B0,ρ,B,ev,qbL.mpr h⟩
theorem tQ.of {Q:VK} {d:Ro→Rs (Bool×List T)} (ev:Ev M H0 B0 ρ σ H B) (h:Wnt M H0 (fun a=> ∀p vs H' B',qa4 H B H' B'→M.G.P H'→(if a.1=true then H' p=some (.lst vs) else SqT M.K B' p vs)→qaE M.K B' a.2 vs→Q (.ref p) H') (d ρ)):tQ M d σ H Q:=⟨H0,B0,ρ,B,ev,qdc.mpr h⟩
theorem tPT.of {Q:Bool→Hp→Prop} {d:Ro→Rs Bool} (ev:Ev M H0 B0 ρ σ H B) (h:Wnt M H0 (fun a=> ∀H' B',qa4 H B H' B'→M.G.P H'→Q a H') (d ρ)):tPT M d σ H Q:=⟨H0,B0,ρ,B,ev,qdb.mpr h⟩
end
def dV (i:Nat):Ro→Rs T:=fun ρ=>match ρ[i]? with | some (.fz t)=>.ok t | _=>.no
def dC (t:T):Ro→Rs T:=fun _=>.ok t
section
variable {M:Md} {X:Cx} {e a b c:Expr} {es:List Expr} {pos:Pos} {da db dc:Ro→Rs T} {ds:Ro→Rs (List T)}
theorem qaa {i:Nat} (h:PE X e (qli i)):DE M X e (dV i):=by
 refine PE.weak h fun σ H Q hq112=> ?_
 obtain ⟨H0,B0,ρ,B,ev,w⟩:=hq112
 have w:=qaJ.mp w
 unfold dV at w
 split at w
 ·rename_i t e1
  obtain ⟨x,e2,r⟩:=ev.get e1
  exact ⟨x,e2,w x H B (.refl ev.bh ev.bt) ev.gm r⟩
 ·exact w.elim
theorem qb6 {v:V} {t:T} (h:PE X e (tC v)) (r: ∀B,Rep M.K B t v):DE M X e (dC t):=
 PE.weak h fun σ H Q ⟨H0,B0,ρ,B,ev,w⟩=>w v H B (.refl ev.bh ev.bt) ev.gm (r B)
theorem qak {i j pos}:DE M X (.Constant (.int i) j pos) (dC (.int i)):=qb6 qc1 fun B=>by unfold Rep; rfl
theorem qec {i j pos}:DE M X (.Constant (.bool i) j pos) (dC (.bl i)):=qb6 qr9 fun B=>by unfold Rep; rfl
theorem qnk {j pos}:DE M X (.Constant .none j pos) (dC .non):=qb6 qpT fun B=>by unfold Rep; rfl
theorem qde {i j pos}:DE M X (.Constant (.str i) j pos) (dC (.str i)):=qb6 qpQ fun B=>by unfold Rep; rfl
def RS (M:Md) (r:R2) (g:T→T→Rs T):Prop:=
 ∀(H B:Hp) (x y:V) (a b c:T) (Q:VK),Le B H→(∀p ps,B p≠some (.tbl ps))→M.G.P H→Rep M.K B a x→Rep M.K B b y→g a b= .ok c→
  (∀v H' B',qa4 H B H' B'→M.G.P H'→Rep M.K B' c v→Q v H')→r x y H Q
def Pl (g:T→T→Rs T):Prop:= ∀a b c,g a b≠.ex c
def dB (g:T→T→Rs T) (da db:Ro→Rs T):Ro→Rs T:=fun ρ=>da ρ>>=fun x=>db ρ>>=fun y=>g x y
theorem qe3 {r:R2} {g:T→T→Rs T} (hr:RS M r g) (hp:Pl g) {σ:St} {H:Hp} {Q:VK} (h:tP M (dB g da db) σ H Q):tOp r (tP M da) (tP M db) σ H Q:=by
 obtain ⟨H0,B0,ρ,B,ev,w⟩:=h
 refine tP.of ev (Wnt.mono (Wnt.bind (qaJ.mp w)) fun x w1 v H1 B1 g1 m1 r1=> ?_)
 refine tP.of (ev.grow g1 m1) (Wnt.mono (Wnt.bind w1) fun y w2 u H2 B2 g2 m2 r2=> ?_)
 cases e:g x y with
 | no=>rw[e] at w2; exact w2.elim
 | ex c=>exact absurd e (hp x y c)
 | ok z=>
  rw[e] at w2
  have ev2:=(ev.grow g1 m1).grow g2 m2
  exact hr H2 B2 v u x y z Q ev2.bh ev2.bt m2 (r1.mono g2.bb) r2 e fun v' H' B' g' m' r'=>w2 v' H' B' ((g1.trans g2).trans g') m' r'
theorem qax {op:Operator} {r:R2} {g:T→T→Rs T} (ho:OpR X (binaryOp op) r) (hr:RS M r g) (hp:Pl g) (ha:DE M X a da) (hb:DE M X b db):DE M X (.BinOp a op b pos) (dB g da db):=
 PE.weak (qcQ ho ha hb) fun _ _ _ h=>qe3 hr hp h
theorem qkO {op:CmpOp} {r:R2} {g:T→T→Rs T} (ho:OpR X (compareOp op) r) (hr:RS M r g) (hp:Pl g) (ha:DE M X a da) (hb:DE M X b db) (hm:behindInMarks op b=false:=by first | exact qe4 _ (by decide) (by decide) | rfl):DE M X (.Compare a [op] [b] pos) (dB g da db):=
 PE.weak (qnW ho ha hb hm) fun _ _ _ h=>qe3 hr hp h
theorem qa3 {r:R2} {g:T→T→Rs T} (ho:IxR X r) (hr:RS M r g) (hp:Pl g) (ha:DE M X a da) (hb:DE M X b db) (hs:qhg b):DE M X (.Subscript a b pos) (dB g da db):=
 PE.weak (qlV ho ha hb hs) fun _ _ _ h=>qe3 hr hp h
def qam:Ro→Rs (List T):=fun _=>.ok []
def qac (da:Ro→Rs T) (ds:Ro→Rs (List T)):Ro→Rs (List T):=fun ρ=>da ρ>>=fun x=>ds ρ>>=fun xs=>.ok (x::xs)
theorem qah:DA M X [] qam:=PA.weak qaR fun σ H Q ⟨H0,B0,ρ,B,ev,w⟩=>w [] H B (.refl ev.bh ev.bt) ev.gm .nil
theorem qab (ha:DE M X e da) (hs:DA M X es ds) (hst:starEach (e::es) X.env=(false,eval e X.env)::starEach es X.env:=by rfl):DA M X (e::es) (qac da ds):=by
 refine PA.weak (qau ha hs hst) fun σ H Q hq159=> ?_
 obtain ⟨H0,B0,ρ,B,ev,w⟩:=hq159
 refine tP.of ev (Wnt.mono (Wnt.bind (qhZ.mp w)) fun x w1 v H1 B1 g1 m1 r1=> ?_)
 refine tPA.of (ev.grow g1 m1) (Wnt.mono (Wnt.bind w1) fun y w2 u H2 B2 g2 m2 r2=> ?_)
 exact w2 (v::u) H2 B2 (g1.trans g2) m2 (.cons (r1.mono g2.bb) r2)
def qcm (ds:Ro→Rs (List T)):Ro→Rs T:=fun ρ=>ds ρ>>=fun xs=>if xs.length≤1000 then .ok (.tup xs) else .no
theorem qcB {x1} (hs:DA M X es ds):DE M X (.Tuple es x1 pos) (qcm ds):=by
 refine PE.weak (qpP hs) fun σ H Q hq165=> ?_
 obtain ⟨H0,B0,ρ,B,ev,w⟩:=hq165
 refine tPA.of ev (Wnt.mono (Wnt.bind (qaJ.mp w)) fun xs w1 vs H1 B1 g1 m1 r1=> ?_)
 have ev1:=ev.grow g1 m1
 split at w1
 ·rename_i hl
  refine ⟨Nat.le_of_lt (qbh (by rw[r1.length]; exact hl)),fun p hp=> ?_⟩
  obtain ⟨g2,m2⟩:=ev1.new (o:=.tup vs) hp (by intro ps z; cases z)
  refine w1 (.ref p) _ _ (g1.trans g2) m2 ?_
  unfold Rep
  exact ⟨p,vs,rfl,SqT.of qan,r1.mono g2.bb⟩
 ·exact w1.elim
def qfm (ds:Ro→Rs (List T)):Ro→Rs (List T):=fun ρ=>ds ρ>>=fun xs=>if xs.length≤1000 then .ok xs else .no
theorem qea (hs:DA M X es ds):DF M X (.List es pos) (qfm ds):=by
 refine PE.weak (qm6 hs) fun σ H Q hq178=> ?_
 obtain ⟨H0,B0,ρ,B,ev,w⟩:=hq178
 refine tPA.of ev (Wnt.mono (Wnt.bind (qbL.mp w)) fun xs w1 vs H1 B1 g1 m1 r1=> ?_)
 have ev1:=ev.grow g1 m1
 split at w1
 ·rename_i hl
  refine ⟨Nat.le_of_lt (qbh (by rw[r1.length]; exact hl)),fun p hp=> ?_⟩
  obtain ⟨g2,m2⟩:=ev1.nown (o:=.lst vs) hp
  have bp:B1 p=none:=by
   cases q:B1 p with
   | none=>rfl
   | some u=>rw[ev1.bh _ _ q] at hp; cases hp
  exact w1 p vs _ _ (g1.trans g2) m2 (qbD g1.gx hp) bp qan r1
 ·exact w1.elim
def dFz (ds:Ro→Rs (List T)):Ro→Rs T:=fun ρ=>ds ρ>>=fun xs=>.ok (.lst xs)
theorem qa4.freeze {H B H' B':Hp} {p:Addr} {vs:List V} (g:qa4 H B H' B') (h:H p=none) (hb:B' p=none) (hp:H' p=some (.lst vs)):qa4 H B H' (upd B' p (.lst vs))∧Le B' (upd B' p (.lst vs)):=by
 have le:Le B' (upd B' p (.lst vs)):=fun a o z=>by rw[qaj (qap z hb)]; exact z
 refine ⟨⟨g.gx,g.bb.trans le,fun a o z=> ?_,fun a ps z=> ?_,fun a z=> ?_⟩,le⟩
 ·by_cases q:a=p
  ·subst q; rw[qan] at z; cases z; exact hp
  ·rw[qaj q] at z; exact g.bh a o z
 ·by_cases q:a=p
  ·subst q; rw[qan] at z; cases z
  ·rw[qaj q] at z; exact g.bt a ps z
 ·rw[qaj (fun q=>z (by rw[q]; exact h))]; exact g.nw a z
theorem qaF {e:Expr} (h:DF M X e ds):DE M X e (dFz ds):=by
 refine PE.weak h fun σ H Q hq204=> ?_
 obtain ⟨H0,B0,ρ,B,ev,w⟩:=hq204
 refine tF.of ev (Wnt.mono (Wnt.bind (qaJ.mp w)) fun xs w1 p vs H1 B1 g1 m1 hp hb hl r1=> ?_)
 obtain ⟨g2,le⟩:=g1.freeze hp hb hl
 refine w1 (.ref p) H1 _ g2 m1 ?_
 unfold Rep
 exact ⟨p,vs,rfl,qan,r1.mono le⟩
def qio:T→Rs (Bool×List T)
 | .lst ts=>.ok (true,ts)
 | .tup ts=>.ok (false,ts)
 | _=>.no
def dQ (da:Ro→Rs T):Ro→Rs (Bool×List T):=fun ρ=>da ρ>>=qio
theorem qqs (ha:DE M X e da):DQ M X e (dQ da):=by
 refine PE.weak ha fun σ H Q hq217=> ?_
 obtain ⟨H0,B0,ρ,B,ev,w⟩:=hq217
 refine tP.of ev (Wnt.mono (Wnt.bind (qdc.mp w)) fun x w1 v H1 B1 g1 m1 r1=> ?_)
 cases x with
 | lst ts=>
  unfold Rep at r1
  obtain ⟨p,vs,rfl,hp,r⟩:=r1
  exact w1 p vs H1 B1 g1 m1 (by rw[if_pos rfl]; exact g1.bh _ _ hp) r
 | tup ts=>
  unfold Rep at r1
  obtain ⟨p,vs,rfl,hp,r⟩:=r1
  exact w1 p vs H1 B1 g1 m1 (by rw[if_neg (by intro z; cases z)]; exact hp) r
 | _=>exact w1.elim
def dQF (ds:Ro→Rs (List T)):Ro→Rs (Bool×List T):=fun ρ=>ds ρ>>=fun ts=>.ok (true,ts)
theorem qbj (h:DF M X e ds):DQ M X e (dQF ds):=by
 refine PE.weak h fun σ H Q hq231=> ?_
 obtain ⟨H0,B0,ρ,B,ev,w⟩:=hq231
 exact tF.of ev (Wnt.mono (Wnt.bind (qdc.mp w)) fun xs w1 p vs H1 B1 g1 m1 hp hb hl r1=>w1 p vs H1 B1 g1 m1 (by rw[if_pos rfl]; exact hl) r1)
def dQV (i:Nat):Ro→Rs (Bool×List T):=fun ρ=>match ρ[i]? with | some (.fz t)=>qio t | some (.ow ts)=>.ok (true,ts) | _=>.no
theorem qbz {i:Nat} (h:PE X e (qli i)):DQ M X e (dQV i):=by
 refine PE.weak h fun σ H Q hq236=> ?_
 obtain ⟨H0,B0,ρ,B,ev,w⟩:=hq236
 have w:=qdc.mp w
 unfold dQV at w
 split at w
 ·rename_i t e1
  obtain ⟨x,e2,r⟩:=ev.get e1
  refine ⟨x,e2,?_⟩
  cases t with
  | lst ts=>
   unfold Rep at r
   obtain ⟨p,vs,rfl,hp,r⟩:=r
   exact w p vs H B (.refl ev.bh ev.bt) ev.gm (by rw[if_pos rfl]; exact ev.bh _ _ hp) r
  | tup ts=>
   unfold Rep at r
   obtain ⟨p,vs,rfl,hp,r⟩:=r
   exact w p vs H B (.refl ev.bh ev.bt) ev.gm (by rw[if_neg (by intro z; cases z)]; exact hp) r
  | _=>exact w.elim
 ·rename_i ts e1
  obtain ⟨p,vs,e2,h0,hb,hp,r⟩:=ev.getOw e1
  exact ⟨.ref p,e2,w p vs H B (.refl ev.bh ev.bt) ev.gm (by rw[if_pos rfl]; exact hp) r⟩
 ·exact w.elim
end
end PL
end
section
namespace PL
open PySem L2
inductive Out where
 | nx (ρ:Ro) | rt (t:T) | bk (ρ:Ro) | ct (ρ:Ro)
def qoD (M:Md) (H0 B0 B:Hp) (D:qmQ):Out→Prop
 | .nx ρ=> ∀σ' H' B',Ev M H0 B0 ρ σ' H' B'→Le B B'→D.nx σ' H'
 | .bk ρ=> ∀σ' H' B',Ev M H0 B0 ρ σ' H' B'→Le B B'→D.bk σ' H'
 | .ct ρ=> ∀σ' H' B',Ev M H0 B0 ρ σ' H' B'→Le B B'→D.ct σ' H'
 | .rt t=> ∀v H' B',qa4 H0 B0 H' B'→M.G.P H'→Rep M.K B' t v→D.rt v H'
theorem qoD.mono {M:Md} {H0 B0 B B1:Hp} {D:qmQ} {o:Out} (h:qoD M H0 B0 B D o) (le:Le B B1):qoD M H0 B0 B1 D o:=by
 cases o with
 | nx ρ=>exact fun σ' H' B' e l=>h σ' H' B' e (le.trans l)
 | bk ρ=>exact fun σ' H' B' e l=>h σ' H' B' e (le.trans l)
 | ct ρ=>exact fun σ' H' B' e l=>h σ' H' B' e (le.trans l)
 | rt t=>exact h
def tS (M:Md) (d:Ro→Rs Out):TS:=fun D σ H=> ∃H0 B0 ρ B,Ev M H0 B0 ρ σ H B∧Wnt M H0 (qoD M H0 B0 B D) (d ρ)
abbrev DS (M:Md) (X:Cx) (st:Stmt) (d:Ro→Rs Out):Prop:=PS X st (tS M d)
abbrev DSs (M:Md) (X:Cx) (st:List Stmt) (d:Ro→Rs Out):Prop:=PSs X st (tS M d)
def qaN:Ro→Rs Out:=fun ρ=>.ok (.nx ρ)
def qb2 (o:Out) (e:Ro→Rs Out):Rs Out:=match o with | .nx ρ=>e ρ | o=>.ok o
def qaM (d e:Ro→Rs Out):Ro→Rs Out:=fun ρ=>d ρ>>=fun o=>qb2 o e
def qa7 (da:Ro→Rs T):Ro→Rs Out:=fun ρ=>da ρ>>=fun t=>.ok (.rt t)
def qcH (i:Nat) (da:Ro→Rs T):Ro→Rs Out:=fun ρ=>da ρ>>=fun t=>.ok (.nx (ρ.set i (.fz t)))
def qg5 (i:Nat) (ds:Ro→Rs (List T)):Ro→Rs Out:=fun ρ=>ds ρ>>=fun ts=>.ok (.nx (ρ.set i (.ow ts)))
def qa6 (da:Ro→Rs T):Ro→Rs Out:=fun ρ=>da ρ>>=fun _=>.ok (.nx ρ)
def dIf (dt:Ro→Rs Bool) (d e:Ro→Rs Out):Ro→Rs Out:=fun ρ=>dt ρ>>=fun c=>if c=true then d ρ else e ρ
def dNo:Ro→Rs Out:=fun _=>.no
def qc0 (ρ:Ro) (i:Nat) (us:List T):Rs Out:=match ρ[i]? with
 | some (.ow ts)=>if ts.length+us.length≤1000 then .ok (.nx (ρ.set i (.ow (ts++us)))) else .no
 | _=>.no
def qlk (ρ:Ro) (i:Nat):Rs Unit:=match ρ[i]? with | some (.ow _)=>.ok () | _=>.no
def qmA (i:Nat) (da:Ro→Rs T):Ro→Rs Out:=fun ρ=>qlk ρ i>>=fun _=>da ρ>>=fun t=>qc0 ρ i [t]
def qra (i:Nat) (dq:Ro→Rs (Bool×List T)):Ro→Rs Out:=fun ρ=>qlk ρ i>>=fun _=>dq ρ>>=fun q=>if q.1=true then qc0 ρ i q.2 else .no
def putAt (ρ:Ro) (i:Nat) (k:T) (t:T):Rs Out:=match ρ[i]?,k with
 | some (.ow ts),.int k=>(match ixN ts.length k with | some j=>.ok (.nx (ρ.set i (.ow (ts.set j t)))) | none=>.no)
 | _,_=>.no
def qq8 (i:Nat) (dk da:Ro→Rs T):Ro→Rs Out:=fun ρ=>qlk ρ i>>=fun _=>da ρ>>=fun t=>dk ρ>>=fun k=>putAt ρ i k t
def frz (i:Nat) (ρ:Ro):Ro:=match ρ[i]? with | some (.ow ts)=>ρ.set i (.fz (.lst ts)) | _=>ρ
section
variable {M:Md} {X:Cx} {e a b c:Expr} {st:Stmt} {qbY sts sts':List Stmt} {pos:Pos} {da db dk:Ro→Rs T} {ds:Ro→Rs (List T)} {d d':Ro→Rs Out} {dt:Ro→Rs Bool} {dq:Ro→Rs (Bool×List T)} {x:Str} {pos':Pos} {i:Nat}
theorem qaS:DSs M X [] qaN:=PSs.weak qgB fun D σ H ⟨H0,B0,ρ,B,ev,w⟩=>w σ H B ev (.refl _)
theorem qai (h:DS M X st d) (h':DSs M X qbY d'):DSs M X (st::qbY) (qaM d d'):=by
 refine PSs.weak (qdH h h') fun D σ H hq48=> ?_
 obtain ⟨H0,B0,ρ,B,ev,w⟩:=hq48
 refine ⟨H0,B0,ρ,B,ev,Wnt.mono (Wnt.bind w) fun o w1=> ?_⟩
 cases o with
 | nx ρ'=>exact fun σ' H' B' ev' le=>⟨H0,B0,ρ',B',ev',Wnt.mono w1 fun o q=>q.mono le⟩
 | bk ρ'=>exact w1
 | ct ρ'=>exact w1
 | rt t=>exact w1
theorem qal (h:DS M X st d):DSs M X [st] d:=qdX h
theorem qca:DSs M X sts dNo:=PSs.weak qjG fun D σ H ⟨H0,B0,ρ,B,ev,w⟩=>w
theorem qaz (h:DE M X e da):DS M X (.Return (some e) pos) (qa7 da):=by
 refine PS.weak (qfG h) fun D σ H hq59=> ?_
 obtain ⟨H0,B0,ρ,B,ev,w⟩:=hq59
 exact tP.of ev (Wnt.mono (Wnt.bind w) fun t w1 v H' B' g m r=>w1 v H' B' (ev.gr.trans g) m r)
theorem qaP (h:DE M X e da) (hs:swapsWith e none pos.line X.env=pure false:=by rfl):DS M X (.Expr e pos) (qa6 da):=by
 refine PS.weak (qgC h hs) fun D σ H hq68=> ?_
 obtain ⟨H0,B0,ρ,B,ev,w⟩:=hq68
 exact tP.of ev (Wnt.mono (Wnt.bind w) fun t w1 v H' B' g m r=>w1 σ H' B' (ev.grow g m) g.bb)
theorem qbX (hc:DT M X c dt) (h:DSs M X sts d) (h':DSs M X sts' d'):DS M X (.If c sts sts' pos) (dIf dt d d'):=by
 refine PS.weak (qnO hc h h') fun D σ H hq71=> ?_
 obtain ⟨H0,B0,ρ,B,ev,w⟩:=hq71
 refine tPT.of ev (Wnt.mono (Wnt.bind w) fun t w1 H' B' g m=> ?_)
 cases t with
 | true=>exact ⟨H0,B0,ρ,B',ev.grow g m,Wnt.mono w1 fun o q=>q.mono g.bb⟩
 | false=>exact ⟨H0,B0,ρ,B',ev.grow g m,Wnt.mono w1 fun o q=>q.mono g.bb⟩
theorem qbZ (hN:X.N.Nodup) (hi:X.N[i]? =some x) (hx:Loc X.env.scope x) (h:DE M X e da) (hs:swapsWith e (some (.Name x pos')) pos.line X.env=pure false:=by rfl) (hf:X.fn x=true∨X.env.scope.names.lookup x=some .local:=by first | exact .inl rfl | exact .inr rfl | assumption):
  DS M X (.Assign [.Name x pos'] e pos) (qcH i da):=by
 refine PS.weak (qhq hN hi hx h hs hf) fun D σ H hq78=> ?_
 obtain ⟨H0,B0,ρ,B,ev,w⟩:=hq78
 exact tP.of ev (Wnt.mono (Wnt.bind w) fun t w1 v H' B' g m r=>w1 _ H' B' ((ev.grow g m).set r) g.bb)
theorem Ev.newOwn {M:Md} {H0 B0 H B H' B':Hp} {ρ:Ro} {σ:St} {p:Addr} {vs:List V} {ts:List T} (i:Nat) (ev:Ev M H0 B0 ρ σ H B) (g:qa4 H B H' B') (m:M.G.P H') (hp:H p=none) (hb:B' p=none) (hl:H' p=some (.lst vs)) (r:qaE M.K B' ts vs):
  Ev M H0 B0 (ρ.set i (.ow ts)) (σ.set i (some (.ref p))) H' B':=by
 refine (ev.grow g m).setOw (qbD ev.gr.gx hp) hb hl r fun j s hj e o z=> ?_
 have q:=ev.sl j s e
 cases s with
 | no=>cases o
 | fz t=>cases o
 | ow ts'=>
  obtain ⟨p',vs',a1,a2,a3,a4,a5⟩:=q
  rw[a1] at z; cases z
  rw[a4] at hp; cases hp
 | od ts'=>
  obtain ⟨p',vs',a1,a2,a3,a4,a5⟩:=q
  rw[a1] at z; cases z
  rw[a4] at hp; cases hp
theorem qg0 (hN:X.N.Nodup) (hi:X.N[i]? =some x) (hx:Loc X.env.scope x) (h:DF M X e ds) (hs:swapsWith e (some (.Name x pos')) pos.line X.env=pure false:=by rfl) (hf:X.fn x=true∨X.env.scope.names.lookup x=some .local:=by first | exact .inl rfl | exact .inr rfl | assumption):
  DS M X (.Assign [.Name x pos'] e pos) (qg5 i ds):=by
 refine PS.weak (qhq hN hi hx h hs hf) fun D σ H hq97=> ?_
 obtain ⟨H0,B0,ρ,B,ev,w⟩:=hq97
 exact tF.of ev (Wnt.mono (Wnt.bind w) fun t w1 p vs H' B' g m hp hb hl r=>w1 _ H' B' (ev.newOwn i g m hp hb hl r) g.bb)
theorem qjF {M:Md} {H0 B0 H B:Hp} {ρ:Ro} {σ:St} {us:List T} {ws:List V} {Bs:Hp} {D:qmQ} (ev:Ev M H0 B0 ρ σ H B) (r:qaE M.K B us ws) (w:Wnt M H0 (qoD M H0 B0 Bs D) (qc0 ρ i us)) (le:Le Bs B):
  ∃p vs,σ[i]? =some (some (.ref p))∧H p=some (.lst vs)∧B p=none∧vs.length+ws.length<sizeLine∧D.nx σ (upd H p (.lst (vs++ws))):=by
 unfold qc0 at w
 split at w
 ·rename_i ts e1
  split at w
  ·rename_i hl
   obtain ⟨p,vs,e2,h0,hb,hp,rv⟩:=ev.getOw e1
   refine ⟨p,vs,e2,hp,hb,qbh (by rw[rv.length,r.length]; exact hl),w σ _ B (ev.putOw e1 e2 (rv.append r)) le⟩
  ·exact w.elim
 ·exact w.elim
theorem qjM {M:Md} {H0:Hp} {ρ:Ro} {α:Type} {k:α→Prop} {f:Unit→Rs α} (w:Wnt M H0 k (qlk ρ i>>=f)): ∃ts,ρ[i]? =some (.ow ts)∧Wnt M H0 k (f ()):=by
 unfold qlk at w
 split at w
 ·rename_i ts e1; exact ⟨ts,e1,w⟩
 ·exact w.elim
theorem qf2 {m:Expr} (h:PE X m (tBM X.K "list" qjE (qli i) (qcp (tP M da) qhk))) (hs:swapsWith m none pos.line X.env=pure false:=by rfl):DS M X (.Expr m pos) (qmA i da):=by
 refine PS.weak (qgC h hs) fun D σ H hq116=> ?_
 obtain ⟨H0,B0,ρ,B,ev,w⟩:=hq116
 obtain ⟨ts,e1,w⟩:=qjM w
 obtain ⟨p,vs,e2,h0,hb,hp,rv⟩:=ev.getOw e1
 refine ⟨.ref p,e2,.inl ⟨rfl,_,SqL.of hp⟩,?_⟩
 refine tP.of ev (Wnt.mono (Wnt.bind w) fun t w1 v H' B' g m r=> ?_)
 obtain ⟨p',vs',q1,q2,q3,q4,q5⟩:=qjF (Bs:=B) (ev.grow g m) (.cons r .nil) w1 g.bb
 rw[e2] at q1; cases q1
 exact ⟨p,vs',v,rfl,rfl,q2,by simpa using Nat.lt_of_succ_lt q4,q5⟩
theorem qkD {m:Expr} (h:PE X m (tBM X.K "list" qjD (qli i) (qcp (tQ M dq) qhk))) (hs:swapsWith m none pos.line X.env=pure false:=by rfl):DS M X (.Expr m pos) (qra i dq):=by
 refine PS.weak (qgC h hs) fun D σ H hq125=> ?_
 obtain ⟨H0,B0,ρ,B,ev,w⟩:=hq125
 obtain ⟨ts,e1,w⟩:=qjM w
 obtain ⟨p,vs,e2,h0,hb,hp,rv⟩:=ev.getOw e1
 refine ⟨.ref p,e2,.inl ⟨rfl,_,SqL.of hp⟩,?_⟩
 refine tQ.of ev (Wnt.mono (Wnt.bind w) fun t w1 b us H' B' g m hq r=> ?_)
 split at w1
 ·rename_i hc
  rw[if_pos hc] at hq
  obtain ⟨p',vs',q1,q2,q3,q4,q5⟩:=qjF (Bs:=B) (ev.grow g m) r w1 g.bb
  rw[e2] at q1; cases q1
  exact ⟨p,b,vs',us,rfl,rfl,q2,hq,Nat.le_of_lt q4,q5⟩
 ·exact w1.elim
theorem qqr {o k:Expr} {ppos tpos:Pos} (ho:PE X o (qli i)) (hk:DE M X k dk) (h:DE M X e da) (hg:PG X (.Subscript o k tpos) (gSub (qli i) (tP M dk) qpy))
  (hs:swapsWithSole [.Subscript o k tpos] e pos.line X.env=pure false:=by rfl) (hw:swappedStores [.Subscript o k tpos] e X.env=pure none:=by rfl)
  (h1:(assignEach [.Subscript o k tpos] X.env).map (·.2)=[assign (.Subscript o k tpos) X.env]:=by rfl):DS M X (.Assign [.Subscript o k tpos] e pos) (qq8 i dk da):=by
 refine PS.weak (qpI h hg hs hw h1) fun D σ H hq140=> ?_
 obtain ⟨H0,B0,ρ,B,ev,w⟩:=hq140
 obtain ⟨ts,e1,w⟩:=qjM w
 refine tP.of ev (Wnt.mono (Wnt.bind w) fun t w1 v H1 B1 g1 m1 r1=> ?_)
 have ev1:=ev.grow g1 m1
 obtain ⟨p,vs,e2,h0,hb,hp,rv⟩:=ev1.getOw e1
 refine ⟨.ref p,e2,?_⟩
 refine tP.of ev1 (Wnt.mono (Wnt.bind w1) fun kt w2 u H2 B2 g2 m2 r2=> ?_)
 have ev2:=ev1.grow g2 m2
 unfold putAt at w2
 split at w2
 ·rename_i ts' k' e3
  rw[e1] at e3; cases e3
  split at w2
  ·rename_i j hj
   obtain ⟨p',vs',e2',h0',hb',hp',rv'⟩:=ev2.getOw e1
   rw[e2] at e2'; cases e2'
   have hu:u= .int k':=by unfold Rep at r2; exact r2
   subst hu
   exact ⟨p,vs',k',j,rfl,rfl,hp',by rw[rv'.length]; exact hj,w2 σ _ B2 (ev2.putOw e1 e2 (rv'.set j (r1.mono g2.bb))) (g1.bb.trans g2.bb)⟩
  ·exact w2.elim
 ·exact w2.elim
theorem Ev.frz {M:Md} {H0 B0 H B:Hp} {ρ:Ro} {σ:St} (i:Nat) (ev:Ev M H0 B0 ρ σ H B): ∃B',Le B B'∧Ev M H0 B0 (frz i ρ) σ H B':=by
 unfold PL.frz
 split
 ·rename_i ts e1; exact ev.freeze e1
 ·exact ⟨B,.refl _,ev⟩
theorem qnf (i:Nat) (h:DS M X st d):DS M X st (fun ρ=>d (frz i ρ)):=by
 refine PS.weak h fun D σ H hq167=> ?_
 obtain ⟨H0,B0,ρ,B,ev,w⟩:=hq167
 obtain ⟨B',le,ev'⟩:=ev.frz i
 exact ⟨H0,B0,_,B',ev',Wnt.mono w fun o q=>q.mono le⟩
end
def tG (M:Md) (dg:T→Ro→Rs Ro):TG:=fun v σ H Q=> ∃H0 B0 ρ B t,Ev M H0 B0 ρ σ H B∧Rep M.K B t v∧Wnt M H0 (fun ρ'=> ∀σ',Ev M H0 B0 ρ' σ' H B→Q σ' H) (dg t ρ)
def tGs (M:Md) (dg:List T→Ro→Rs Ro):TGs:=fun v σ H Q=> ∃H0 B0 ρ B t,Ev M H0 B0 ρ σ H B∧qaE M.K B t v∧Wnt M H0 (fun ρ'=> ∀σ',Ev M H0 B0 ρ' σ' H B→Q σ' H) (dg t ρ)
abbrev DG (M:Md) (X:Cx) (e:Expr) (dg:T→Ro→Rs Ro):Prop:=PG X e (tG M dg)
abbrev DGs (M:Md) (X:Cx) (e:List Expr) (dg:List T→Ro→Rs Ro):Prop:=PGs X e (tGs M dg)
theorem PG.weak {X:Cx} {e:Expr} {t t':TG} (h:PG X e t) (w: ∀v σ H Q,t' v σ H Q→t v σ H Q):PG X e t':=fun pins s σ H v u Q I r q=>h pins s σ H v u Q I r (w v σ H Q q)
theorem PGs.weak {X:Cx} {e:List Expr} {t t':TGs} (h:PGs X e t) (w: ∀v σ H Q,t' v σ H Q→t v σ H Q):PGs X e t':=fun pins s σ H v u Q I r q=>h pins s σ H v u Q I r (w v σ H Q q)
def gN (i:Nat):T→Ro→Rs Ro:=fun t ρ=>.ok (ρ.set i (.fz t))
def gsN:List T→Ro→Rs Ro:=fun ts ρ=>match ts with | []=>.ok ρ | _=>.no
def gsC (dg:T→Ro→Rs Ro) (dr:List T→Ro→Rs Ro):List T→Ro→Rs Ro:=fun ts ρ=>match ts with | t::r=>dg t ρ>>=dr r | []=>.no
def gT (n:Nat) (dr:List T→Ro→Rs Ro):T→Ro→Rs Ro:=fun t ρ=>match t with | .tup ts=>if ts.length=n then dr ts ρ else .no | _=>.no
section
variable {M:Md} {X:Cx} {e:Expr} {es:List Expr} {pos:Pos} {i:Nat} {x:Str} {dg:T→Ro→Rs Ro} {dr:List T→Ro→Rs Ro}
theorem qaW {i:Nat} (h:PG X e (qok i)):DG M X e (gN i):=PG.weak h fun v σ H Q ⟨H0,B0,ρ,B,t,ev,r,w⟩=>w _ (ev.set r)
theorem qcU:DGs M X [] gsN:=PGs.weak qnU fun v σ H Q ⟨H0,B0,ρ,B,t,ev,r,w⟩=>by
 cases t with
 | nil=>exact ⟨r.inv0,w σ ev⟩
 | cons _ _=>exact w.elim
theorem qaK (h1:DG M X e dg) (h2:DGs M X es dr) (hs:(assignEach (e::es) X.env).map (·.2)=assign e X.env::(assignEach es X.env).map (·.2):=by rfl):DGs M X (e::es) (gsC dg dr):=by
 refine PGs.weak (qlU h1 h2 hs) fun v σ H Q hq194=> ?_
 obtain ⟨H0,B0,ρ,B,t,ev,r,w⟩:=hq194
 cases t with
 | nil=>exact w.elim
 | cons t ts=>
  obtain ⟨u,vs,rfl,ra,rb⟩:=r.inv
  exact ⟨u,vs,rfl,H0,B0,ρ,B,t,ev,ra,Wnt.mono (Wnt.bind w) fun ρ' w1 σ' ev'=>⟨H0,B0,ρ',B,ts,ev',rb,w1⟩⟩
theorem qd9 {k n:Nat} (hc:X.calm=true) (h:DGs M X es dr) (hK:X.K=M.K:=by rfl) (hn:(assignEach es X.env).length=n:=by rfl) (hst:(assignEach es X.env).findIdx? (·.1)=none:=by rfl):DG M X (.Tuple es k pos) (gT n dr):=by
 refine PG.weak (qpM hc h hn hst) fun v σ H Q hq201=> ?_
 obtain ⟨H0,B0,ρ,B,t,ev,r,w⟩:=hq201
 cases t with
 | tup ts=>
  unfold gT at w
  dsimp only at w
  split at w
  ·rename_i hl
   unfold Rep at r
   obtain ⟨p,vs,rfl,hp,rs⟩:=r
   exact ⟨p,vs,rfl,by rw[hK]; exact ev.bh.sqT hp,by rw[rs.length]; exact hl,H0,B0,ρ,B,ts,ev,rs,w⟩
  ·exact w.elim
 | _=>exact w.elim
end
def qtY (M:Md) (J:It) (B1:Hp) (ts:List T):Prop:= ∀H' B',Le B1 B'→Le B' H'→(∀a ps,B' a≠some (.tbl ps))→M.G.P H'→∀i:Nat,
 (∀t,ts[i]? =some t→J.go i H'∧∀x H'',J.yld i H' x H''→∃B'',qa4 H' B' H'' B''∧M.G.P H''∧Rep M.K B'' t x)∧(i=ts.length→J.stop i H')
def tI (M:Md) (d:Ro→Rs (List T)):TI:=fun σ H R=> ∃H0 B0 ρ B,Ev M H0 B0 ρ σ H B∧Wnt M H0 (fun ts=> ∀J H1 B1,qa4 H B H1 B1→M.G.P H1→ts.length≤sizeLine→qtY M J B1 ts→R J H1) (d ρ)
abbrev DI (M:Md) (X:Cx) (tg e:Expr) (d:Ro→Rs (List T)):Prop:=PI X tg e (tI M d)
theorem PI.weak {X:Cx} {tg e:Expr} {t t':TI} (h:PI X tg e t) (w: ∀σ H Q,t' σ H Q→t σ H Q):PI X tg e t':=fun pins s σ H Q I q=>h pins s σ H Q I (w σ H Q q)
section
variable {M:Md} {X:Cx} {tg e:Expr} {da:Ro→Rs T} {ds:Ro→Rs (List T)}
def quE (K:PySem.W.Frag) (tl:TE):TI:=fun σ H R=>tl σ H fun x H1=> ∃a,x= .ref a∧(((∃xs,SqL K H1 a xs∧(xs.length≤sizeLine→R (Itl K a) H1)))∨(∃xs,SqT K H1 a xs∧(xs.length≤sizeLine→R (Itt K a) H1)))
theorem qpL {l:Expr} {tl:TE} (hl:PE X l tl):PI X tg l (quE X.K tl):=by
 intro pins s σ H R I h
 refine thn (hl pins s σ H _ I h) fun v s1 hq232=> ?_
 obtain ⟨x,H1,I1,r1,q1⟩:=hq232
 obtain ⟨a,e,q⟩:=q1
 subst e
 cases r1
 rcases q with ⟨xs,hq,q⟩ | ⟨xs,hq,q⟩
 ·obtain ⟨its,rv,p,hz⟩:=I1.list hq
  have q:=q hz
  refine wpAny_pyIter_list p.isList ?_
  refine ⟨s1.heap.objs.size,[s1.heap.objs.size],_,_,H1,rfl,I1.kept (t':=s1.toks) fun b o e=>Heap.get?_push_of_some _ e,qi8 a _,⟨_,Heap.get?_push_size _ rfl,rfl,rfl⟩,fun b hb=> ?_,q⟩
  have e:b=s1.heap.objs.size:=by simpa using hb
  subst e
  exact I1.fpOk (Nat.le_refl _) (I1.hok.fresh (Nat.le_refl _))
 ·obtain ⟨its,rv,p,hz⟩:=I1.tuple hq
  have q:=q hz
  refine wpAny_pyIter_tuple p ?_
  refine ⟨s1.heap.objs.size,[s1.heap.objs.size],_,_,H1,rfl,I1.kept (t':=s1.toks) fun b o e=>Heap.get?_push_of_some _ e,qif a _,⟨_,Heap.get?_push_size _ rfl,rfl,rfl⟩,fun b hb=> ?_,q⟩
  have e:b=s1.heap.objs.size:=by simpa using hb
  subst e
  exact I1.fpOk (Nat.le_refl _) (I1.hok.fresh (Nat.le_refl _))
end
end PL
end
section
namespace PL
open PySem L2
def qd4:T→Rs (List T)
 | .lst ts=>.ok ts
 | .tup ts=>.ok ts
 | _=>.no
def dI (da:Ro→Rs T):Ro→Rs (List T):=fun ρ=>da ρ>>=qd4
def qjh:T→Rs (List T)
 | .str z=>if z.length≤1000 then .ok (z.cps.toList.map fun c=>.str ⟨#[c]⟩) else .no
 | _=>.no
def dIS (da:Ro→Rs T):Ro→Rs (List T):=fun ρ=>da ρ>>=qjh
def qt5 (lo hi:Int):List T:=(List.range (hi - lo).toNat).map fun k=>.int (lo+(k:Nat))
def qjC:List T→Rs (List T)
 | [.int n]=>if n≤1000000∧ -1000000≤n then .ok ((List.range n.toNat).map fun k=>.int (k:Nat)) else .no
 | _=>.no
def qpx:List T→Rs (List T)
 | [.int m,.int n]=>if (n≤1000000∧ -1000000≤n)∧m≤1000000∧ -1000000≤m then .ok (qt5 m n) else .no
 | _=>.no
def qsZ (ds:Ro→Rs (List T)):Ro→Rs (List T):=fun ρ=>ds ρ>>=qjC
def qu5 (ds:Ro→Rs (List T)):Ro→Rs (List T):=fun ρ=>ds ρ>>=qpx
def qlg (xs ys:List T):List T:=(xs.zip ys).map fun p=>.tup [p.1,p.2]
def qlp:List T→Rs (List T)
 | [.lst xs,.lst ys]=>.ok (qlg xs ys)
 | _=>.no
def dIZ (ds:Ro→Rs (List T)):Ro→Rs (List T):=fun ρ=>ds ρ>>=qlp
theorem qp6:(1000000:Nat)≤sizeLine:=by decide
open PySem.Spec PyProof.Rows in
theorem qnT {X:Cx} {elts:List Expr} {kk:Nat} {tpos:Pos} {a b:Expr} {ta:TA} {p pos:Pos} (hg:Gl X "zip") (hm:X.mg "zip" =none) (ha:PA X [a,b] ta) (hs:starEach [a,b] X.env=(false,eval a X.env)::starEach [b] X.env:=by rfl) (hpl:(backTo pos (starEach [b] X.env)).any (·.1)=false:=by rfl):
  PI X (.Tuple elts kk tpos) (.Call (.Name "zip" p) [a,b] [] pos) (fun σ H R=>ta σ H fun vs H1=> ∃l1 l2 xs ys,vs=[.ref l1,.ref l2]∧SqL X.K H1 l1 xs∧SqL X.K H1 l2 ys∧(xs.length≤sizeLine→ys.length≤sizeLine→R (Itz X.K l1 l2) H1)):=by
 intro pins s σ H R I h
 refine wpAny_Call_Name_kw (qcw I hg hm PyProof.Rows.boot_zip ?_)
 refine PyProof.Rows.callWith_type1 (thn (ha pos pins s σ H _ I h) fun us s1 ⟨vs,H1,I1,r1,l1,l2,xs,ys,e,h1,h2,q⟩=> ?_) hs hpl
 subst e
 obtain ⟨u1,u2,rfl,ru1,ru2⟩:=qnv r1
 cases ru1; cases ru2
 obtain ⟨its1,rr1,p1,z1⟩:=I1.list h1
 obtain ⟨its2,rr2,p2,z2⟩:=I1.list h2
 have q:=q z1 z2
 obtain ⟨o1,ho1,_⟩:=p1.isList
 obtain ⟨o2,ho2,_⟩:=p2.isList
 have lt1:l1<s1.heap.objs.size:=Heap.lt_size ho1
 have lt2:l2<s1.heap.objs.size:=Heap.lt_size ho2
 refine call_zip_2 p1.isList p2.isList fun h' hz hTI hTO hi1 hi2 hsz kp=>wpAny_pyIter_zip hz ?_
 have D:ZipApart (s1.heap.objs.size+4) (s1.heap.objs.size+2) (s1.heap.objs.size+3) s1.heap.objs.size (s1.heap.objs.size+1) l1 l2:=PySem.W.ktu_apart _ _ _ lt1 lt2
 refine ⟨_,_,_,Itz X.K l1 l2,H1,rfl,I1.kept (t':=s1.toks) kp,qlt D,⟨hz,hTI,⟨_,_,hTO⟩,hi1,hi2⟩,fun b hb=> ?_,q⟩
 have hle:s1.heap.objs.size≤b:=by
  have hb':b=s1.heap.objs.size+4∨b=s1.heap.objs.size+2∨b=s1.heap.objs.size+3∨b=s1.heap.objs.size∨b=s1.heap.objs.size+1:=by simpa using hb
  rcases hb' with rfl | rfl | rfl | rfl | rfl
  ·exact Nat.le_add_right _ _
  ·exact Nat.le_add_right _ _
  ·exact Nat.le_add_right _ _
  ·exact Nat.le_refl _
  ·exact Nat.le_add_right _ _
 exact I1.fpOk hle (I1.hok.fresh hle)
section
variable {M:Md} {X:Cx} {tg e a b:Expr} {da:Ro→Rs T} {ds:Ro→Rs (List T)}
theorem qbf (h:DE M X e da) (hK:X.K=M.K:=by rfl):DI M X tg e (dI da):=by
 refine PI.weak (qpL h) fun σ H R hq63=> ?_
 obtain ⟨H0,B0,ρ,B,ev,w⟩:=hq63
 refine tP.of ev (Wnt.mono (Wnt.bind w) fun t w1 v H1 B1 g1 m1 r1=> ?_)
 rw[hK]
 cases t with
 | lst ts=>
  unfold Rep at r1
  obtain ⟨p,vs,rfl,hp,r⟩:=r1
  refine ⟨p,rfl,.inl ⟨vs,SqL.of (g1.bh _ _ hp),fun hz=>w1 _ H1 B1 g1 m1 (by rw[←r.length]; exact hz) fun H' B' le bh bt m i=>⟨fun t et=> ?_,fun hi=> ?_⟩⟩⟩
  ·have q:SqL M.K H' p vs:=SqL.of (bh _ _ (le _ _ hp))
   obtain ⟨x,ex,rx⟩:=r.get et
   refine ⟨⟨vs,x,q,ex⟩,fun y H'' ⟨e1,e2⟩=> ?_⟩
   subst e1
   have:=e2 vs q
   rw[ex] at this; cases this
   exact ⟨B',.refl bh bt,m,rx.mono le⟩
  ·exact ⟨vs,SqL.of (bh _ _ (le _ _ hp)),by rw[r.length,hi]; exact Nat.le_refl _⟩
 | tup ts=>
  unfold Rep at r1
  obtain ⟨p,vs,rfl,hp,r⟩:=r1
  refine ⟨p,rfl,.inr ⟨vs,g1.bh.sqT hp,fun hz=>w1 _ H1 B1 g1 m1 (by rw[←r.length]; exact hz) fun H' B' le bh bt m i=>⟨fun t et=> ?_,fun hi=> ?_⟩⟩⟩
  ·have q:SqT M.K H' p vs:=bh.sqT (le.sqT hp)
   obtain ⟨x,ex,rx⟩:=r.get et
   refine ⟨⟨vs,x,q,ex⟩,fun y H'' ⟨e1,e2⟩=> ?_⟩
   subst e1
   have:=e2 vs q
   rw[ex] at this; cases this
   exact ⟨B',.refl bh bt,m,rx.mono le⟩
  ·exact ⟨vs,bh.sqT (le.sqT hp),by rw[r.length,hi]; exact Nat.le_refl _⟩
 | _=>exact w1.elim
theorem qqu (h:DE M X e da):DI M X tg e (dIS da):=by
 refine PI.weak (qpK h) fun σ H R hq93=> ?_
 obtain ⟨H0,B0,ρ,B,ev,w⟩:=hq93
 refine tP.of ev (Wnt.mono (Wnt.bind w) fun t w1 v H1 B1 g1 m1 r1=> ?_)
 cases t with
 | str z=>
  have e1:v= .str z:=by unfold Rep at r1; exact r1
  subst e1
  unfold qjh at w1
  dsimp only at w1
  split at w1
  ·rename_i hz
   refine ⟨z,rfl,w1 _ H1 B1 g1 m1 ?_ fun H' B' le bh bt m i=>⟨fun t et=> ?_,fun hi=> ?_⟩⟩
   ·rw[List.length_map,Array.length_toList]
    exact Nat.le_of_lt (qbh hz)
   ·rw[List.getElem?_map] at et
    cases q:z.cps.toList[i]? with
    | none=>rw[q] at et; cases et
    | some c=>
     rw[q] at et
     cases et
     have hi:=(List.getElem?_eq_some_iff.mp q).1
     refine ⟨show i<z.cps.size by simpa using hi,fun y H'' ⟨e1,c',e2,e3⟩=> ?_⟩
     subst e1 e3
     rw[Array.getElem?_toList] at q
     rw[q] at e2; cases e2
     exact ⟨B',.refl bh bt,m,by unfold Rep; rfl⟩
   ·show z.cps.size≤i
    rw[hi,List.length_map,Array.length_toList]
    exact Nat.le_refl _
  ·exact w1.elim
 | _=>exact w1.elim
theorem qie {lo:Int} {n:Nat} {B1:Hp}:qtY M (Itr lo n) B1 ((List.range n).map fun k=>.int (lo+(k:Nat))):=fun H' B' le bh bt m i=>by
 refine ⟨fun t et=> ?_,fun hi=> ?_⟩
 ·rw[List.getElem?_map] at et
  cases q:(List.range n)[i]? with
  | none=>rw[q] at et; cases et
  | some c=>
   rw[q] at et
   cases et
   have hi:=(List.getElem?_eq_some_iff.mp q).1
   rw[List.length_range] at hi
   rw[List.getElem?_range hi] at q; cases q
   refine ⟨hi,fun y H'' ⟨e1,e2⟩=> ?_⟩
   subst e1 e2
   exact ⟨B',.refl bh bt,m,by unfold Rep; rfl⟩
 ·show n≤i
  rw[hi,List.length_map,List.length_range]
  exact Nat.le_refl _
theorem qkJ {p pos:Pos} (hg:Gl X "range") (hm:X.mg "range" =none) (ha:DA M X [a] ds) (hs:starEach [a] X.env=[(false,eval a X.env)]:=by rfl):DI M X tg (.Call (.Name "range" p) [a] [] pos) (qsZ ds):=by
 refine PI.weak (qjK hg hm ha hs) fun σ H R hq141=> ?_
 obtain ⟨H0,B0,ρ,B,ev,w⟩:=hq141
 refine tPA.of ev (Wnt.mono (Wnt.bind w) fun ts w1 vs H1 B1 g1 m1 r1=> ?_)
 unfold qjC at w1
 split at w1
 ·rename_i n
  obtain ⟨v,r,rfl,a1,b1⟩:=r1.inv
  have e1:v= .int n:=by unfold Rep at a1; exact a1
  have e2:=b1.inv0
  subst e1 e2
  split at w1
  ·rename_i hb
   refine ⟨n,rfl,by lia,by lia,w1 _ H1 B1 g1 m1 ?_ ?_⟩
   ·rw[List.length_map,List.length_range]
    have:=qp6
    lia
   ·have:=qie (M:=M) (lo:=0) (n:=n.toNat) (B1:=B1)
    simpa using this
  ·exact w1.elim
 ·exact w1.elim
theorem qkI {elts:List Expr} {kk:Nat} {tpos p pos:Pos} (hg:Gl X "zip") (hm:X.mg "zip" =none) (ha:DA M X [a,b] ds) (hK:X.K=M.K:=by rfl) (hs:starEach [a,b] X.env=(false,eval a X.env)::starEach [b] X.env:=by rfl) (hpl:(backTo pos (starEach [b] X.env)).any (·.1)=false:=by rfl):
  DI M X (.Tuple elts kk tpos) (.Call (.Name "zip" p) [a,b] [] pos) (dIZ ds):=by
 refine PI.weak (qnT hg hm ha hs hpl) fun σ H R hq184=> ?_
 obtain ⟨H0,B0,ρ,B,ev,w⟩:=hq184
 refine tPA.of ev (Wnt.mono (Wnt.bind w) fun ts w1 vs H1 B1 g1 m1 r1=> ?_)
 unfold qlp at w1
 split at w1
 ·rename_i xs ys
  obtain ⟨v,r,rfl,a1,b1⟩:=r1.inv
  obtain ⟨v',r',rfl,a2,b2⟩:=b1.inv
  have e2:=b2.inv0
  subst e2
  unfold Rep at a1 a2
  obtain ⟨p1,us,rfl,h1,ra⟩:=a1
  obtain ⟨p2,ws,rfl,h2,rb⟩:=a2
  have l1:=ra.length
  have l2:=rb.length
  refine ⟨p1,p2,us,ws,rfl,SqL.of (g1.bh _ _ h1),SqL.of (g1.bh _ _ h2),fun z1 z2=> ?_⟩
  rw[hK]
  refine w1 _ H1 B1 g1 m1 ?_ fun H' B' le bh bt m i=>⟨fun t et=> ?_,fun hi=> ?_⟩
  ·unfold qlg
   rw[List.length_map,List.length_zip]
   lia
  ·have q1:SqL M.K H' p1 us:=SqL.of (bh _ _ (le _ _ h1))
   have q2:SqL M.K H' p2 ws:=SqL.of (bh _ _ (le _ _ h2))
   unfold qlg at et
   rw[List.getElem?_map] at et
   cases q:(xs.zip ys)[i]? with
   | none=>rw[q] at et; cases et
   | some c=>
    rw[q] at et
    cases et
    have hi:=(List.getElem?_eq_some_iff.mp q).1
    rw[List.length_zip] at hi
    obtain ⟨c1,c2⟩:=c
    obtain ⟨qa,qb⟩:=List.getElem?_zip_eq_some.mp q
    obtain ⟨u,eu,ru⟩:=ra.get qa
    obtain ⟨w',ew,rw'⟩:=rb.get qb
    refine ⟨⟨us,ws,q1,q2,by lia,by lia⟩,fun y H'' ⟨T',x,y',e1,e2,e3,e4,e5⟩=> ?_⟩
    have z1:=e4 us q1
    have z2:=e5 ws q2
    rw[eu] at z1; cases z1
    rw[ew] at z2; cases z2
    subst e1 e3
    refine ⟨_,qa4.new bh bt e2 (by intro ps z; cases z),M.G.st H' _ (fun a o e _ _ _ _=>by rw[qaj (qap e e2)]; exact e) m,?_⟩
    have bp:B' T'=none:=by
     cases q:B' T' with
     | none=>rfl
     | some u=>rw[bh _ _ q] at e2; cases e2
    have le2:Le B1 (upd B' T' (.tup [u,w'])):=fun a o z=>by rw[qaj (qap (le _ _ z) bp)]; exact le _ _ z
    unfold Rep
    exact ⟨T',[u,w'],rfl,SqT.of qan,.cons (ru.mono le2) (.cons (rw'.mono le2) .nil)⟩
  ·refine ⟨us,ws,SqL.of (bh _ _ (le _ _ h1)),SqL.of (bh _ _ (le _ _ h2)),?_⟩
   rw[hi]
   unfold qlg
   rw[List.length_map,List.length_zip,l1,l2]
 ·exact w1.elim
end
end PL
end
section
namespace PL
open PySem L2
def qrg (o:Out) (k:Ro→Rs Out):Rs Out:=match o with
 | .nx ρ=>k ρ
 | .ct ρ=>k ρ
 | .bk ρ=>.ok (.nx ρ)
 | .rt t=>.ok (.rt t)
def qol (dg:T→Ro→Rs Ro) (db:Ro→Rs Out):List T→Ro→Rs Out
 | [],ρ=>.ok (.nx ρ)
 | t::ts,ρ=>dg t ρ>>=fun ρ1=>db ρ1>>=fun o=>qrg o (qol dg db ts)
def qiQ (di:Ro→Rs (List T)) (dg:T→Ro→Rs Ro) (db:Ro→Rs Out):Ro→Rs Out:=fun ρ=>di ρ>>=fun ts=>qol dg db ts ρ
section
variable {M:Md} {X:Cx} {tg e elt iter:Expr} {ifs:List Expr} {body:List Stmt} {pos:Pos} {di:Ro→Rs (List T)} {dg:T→Ro→Rs Ro} {db:Ro→Rs Out}
theorem qeM (hp:PassesOwn (model X.prog X.w) X.A X.env X.xe) (hc:X.calm=true) (hi:DI M X tg iter di) (hg:DG M X tg dg) (hb:DSs M X body db)
  (hs: ∀x,foldedSetIterable iter X.env x=pure x:=by intro _; rfl):DS M X (.For tg iter body [] pos) (qiQ di dg db):=by
 refine PS.weak (qpH hp hc hi hg hb hs) fun D σ H hq21=> ?_
 obtain ⟨H0,B0,ρ,B,ev,w⟩:=hq21
 refine ⟨H0,B0,ρ,B,ev,Wnt.mono (Wnt.bind w) fun ts w1 J H1 B1 g1 m1 hz wk=> ?_⟩
 refine ⟨fun i m σ H=>i≤ts.length∧m=ts.length - i∧∃ρ' B',Ev M H0 B0 ρ' σ H B'∧Le B1 B'∧Wnt M H0 (qoD M H0 B0 B D) (qol dg db (ts.drop i) ρ'),⟨ts.length,Nat.zero_le _,by simp,ρ,B1,ev.grow g1 m1,.refl _,by simpa using w1⟩,?_⟩
 rintro i m σ' H' ⟨hi',rfl,ρ',B',ev',le,w2⟩
 by_cases hlt:i<ts.length
 ·obtain ⟨go,yl⟩:=(wk H' B' le ev'.bh ev'.bt ev'.gm i).1 ts[i] (List.getElem?_eq_getElem hlt)
  refine .inr ⟨go,fun σ'' H''=> ∃ρ2 B2,Ev M H0 B0 ρ2 σ'' H'' B2∧Le B1 B2∧Wnt M H0 (qoD M H0 B0 B D) (qol dg db (ts.drop (i+1)) ρ2),fun σ'' H'' ⟨ρ2,B2,q1,q2,q3⟩=>⟨ts.length - (i+1),by lia,by lia,rfl,ρ2,B2,q1,q2,q3⟩,fun x H3 y=> ?_⟩
  obtain ⟨B3,g3,m3,r3⟩:=yl x H3 y
  rw[List.drop_eq_getElem_cons hlt] at w2
  have ev3:=ev'.grow g3 m3
  have le3:Le B1 B3:=le.trans g3.bb
  refine ⟨H0,B0,ρ',B3,ts[i],ev3,r3,Wnt.mono (Wnt.bind w2) fun ρ1 w3 σ1 ev1=> ?_⟩
  have leB:Le B B3:=g1.bb.trans le3
  refine ⟨H0,B0,ρ1,B3,ev1,Wnt.mono (Wnt.bind w3) fun o w4=> ?_⟩
  cases o with
  | nx ρ2=>exact fun σ4 H4 B4 ev4 le4=>⟨ρ2,B4,ev4,le3.trans le4,w4⟩
  | ct ρ2=>exact fun σ4 H4 B4 ev4 le4=>⟨ρ2,B4,ev4,le3.trans le4,w4⟩
  | bk ρ2=>exact fun σ4 H4 B4 ev4 le4=>w4 σ4 H4 B4 ev4 (leB.trans le4)
  | rt t=>exact w4
 ·have e1:i=ts.length:=by lia
  subst e1
  refine .inl ⟨(wk H' B' le ev'.bh ev'.bt ev'.gm ts.length).2 rfl,?_⟩
  rw[List.drop_length] at w2
  exact w2 σ' H' B' ev' (g1.bb.trans le)
end
def Md.nox (M:Md):Md:={ M with E:=fun _ _ _=>False }
theorem Ev.nox {M:Md} {H0 B0 H B:Hp} {ρ:Ro} {σ:St} (ev:Ev M H0 B0 ρ σ H B):Ev M.nox H0 B0 ρ σ H B:=⟨ev.gr,ev.gm,ev.len,ev.sl,ev.ap⟩
def noX {α:Type}:Rs α→Rs α
 | .ex _=>.no
 | r=>r
def qej:Option Sl→Sl
 | some (.fz t)=>.fz t
 | _=>.no
def qdT (n:Nat) (fr:List Nat) (ρ:Ro):Ro:=List.replicate n .no++fr.map fun i=>qej ρ[i]?
def qi0 (ρ:Ro):Prop:= ∀(i:Nat) (s:Sl),ρ[i]? =some s→s.own=false
def qiR (dg:T→Ro→Rs Ro) (dt:Ro→Rs Bool) (de:Ro→Rs T):List T→Ro→Rs (List T)
 | [],_=>.ok []
 | t::ts,ρ=>dg t ρ>>=fun ρ1=>dt ρ1>>=fun c=>if c=true then de ρ1>>=fun y=>qiR dg dt de ts ρ1>>=fun ys=>.ok (y::ys) else qiR dg dt de ts ρ1
def qaC (n:Nat) (fr:List Nat) (di:Ro→Rs (List T)) (dg:T→Ro→Rs Ro) (dt:Ro→Rs Bool) (de:Ro→Rs T):Ro→Rs (List T):=fun ρ=>di ρ>>=fun ts=>noX (qiR dg dt de ts (qdT n fr ρ))
def qcl:Ro→Rs Bool:=fun _=>.ok true
theorem qb8 {α β:Type} {r:Rs α} {f:α→Rs β} {b:β} (h:(r>>=f)= .ok b): ∃a,r= .ok a∧f a= .ok b:=by
 cases r with
 | no=>cases h
 | ok a=>exact ⟨a,rfl,h⟩
 | ex c=>cases h
theorem qfB {n:Nat} {fr:List Nat} {ρ:Ro}:qi0 (qdT n fr ρ):=fun i s e=>by
 unfold qdT at e
 have h:=List.mem_of_getElem? e
 rcases List.mem_append.mp h with h | h
 ·rw[(List.mem_replicate.mp h).2]; rfl
 ·obtain ⟨j,_,rfl⟩:=List.mem_map.mp h
  unfold qej
  split<;>rfl
theorem qoo {M:Md} {H0 B0 H B:Hp} {ρ:Ro} {σ:St} {own:List Str} {fr:List (Str×Nat)} (ev:Ev M H0 B0 ρ σ H B):Ev M H0 B0 (qdT own.length (fr.map (·.2)) ρ) (qdQ own fr σ) H B:=by
 refine ⟨ev.gr,ev.gm,by simp[qdT,qdQ],fun i s e=> ?_,fun i j si sj p hij ei ej oi oj a z=>by rw[qfB i si ei] at oi; cases oi⟩
 unfold qdT at e
 by_cases hi:i<own.length
 ·rw[List.getElem?_append_left (by simpa using hi),List.getElem?_replicate,if_pos hi] at e
  cases e; trivial
 ·rw[List.getElem?_append_right (by simpa using hi),List.length_replicate,List.map_map,List.getElem?_map] at e
  cases q:fr[i - own.length]? with
  | none=>rw[q] at e; cases e
  | some p=>
   rw[q] at e
   have e':qej ρ[p.2]? =s:=Option.some.inj e
   subst e'
   have eσ:(qdQ own fr σ)[i]?.join=σ[p.2]?.join:=by
    unfold qdQ
    rw[List.getElem?_append_right (by simpa using hi),List.length_map,List.getElem?_map,q]
    rfl
   rw[eσ]
   cases q2:ρ[p.2]? with
   | none=>trivial
   | some s'=>
    cases s' with
    | fz t=>exact ev.sl p.2 _ q2
    | _=>trivial
theorem Ev.updD {M:Md} {H0 B0 H B:Hp} {ρ:Ro} {σ:St} {D:Addr} {ys zs:List V} (ev:Ev M H0 B0 ρ σ H B) (hD:H D=some (.lst ys)) (h0:H0 D=none) (hb:B D=none) (ap: ∀(i:Nat) (s:Sl),ρ[i]? =some s→s.own=true→σ[i]?.join≠some (.ref D)):Ev M H0 B0 ρ σ (upd H D (.lst zs)) B:=by
 have neB: ∀a o,B a=some o→a≠D:=fun a o z w=>by rw[w,hb] at z; cases z
 refine ⟨⟨⟨fun a o z n=> ?_,fun a z w=> ?_⟩,ev.gr.bb,fun a o z=> ?_,ev.gr.bt,ev.gr.nw⟩,M.G.st H _ (fun a o z n1 n2 n3 n4=> ?_) ev.gm,ev.len,fun j s ej=> ?_,ev.ap⟩
 ·rw[qaj (qap z h0)]; exact ev.gr.gx.hh a o z n
 ·by_cases q:a=D
  ·subst q; exact z h0
  ·rw[qaj q] at w; exact ev.gr.gx.dm a z w
 ·rw[qaj (neB a o z)]; exact ev.gr.bh a o z
 ·rw[qaj (ql5 z hD (n1 _))]; exact z
 ·have o:=ev.sl j s ej
  have np:=ap j s ej
  cases s with
  | no=>trivial
  | fz t=>exact o
  | ow ts'=>
   obtain ⟨p',vs',a1,a2,a3,a4,a5⟩:=o
   exact ⟨p',vs',a1,a2,a3,by rw[qaj (fun z=>np rfl (by rw[a1,z]))]; exact a4,a5⟩
  | od ts'=>
   obtain ⟨p',vs',a1,a2,a3,a4,a5⟩:=o
   exact ⟨p',vs',a1,a2,a3,by rw[qaj (fun z=>np rfl (by rw[a1,z]))]; exact a4,a5⟩
theorem qjV {α:Type} {M:Md} {H0:Hp} {r:Rs α} {k:α→Prop} (h:Wnt M H0 k (noX r)): ∃a,r= .ok a∧k a:=by
 cases r with
 | no=>exact h.elim
 | ok a=>exact ⟨a,rfl,h⟩
 | ex c=>exact h.elim
section
variable {M:Md} {X:Cx} {tg elt iter:Expr} {ifs:List Expr} {scope:Scope} {pos:Pos} {own:List Str} {fr:List (Str×Nat)} {di:Ro→Rs (List T)} {dg:T→Ro→Rs Ro} {dt:Ro→Rs Bool} {de:Ro→Rs T}
def GNo (dg:T→Ro→Rs Ro):Prop:= ∀t ρ ρ',qi0 ρ→dg t ρ= .ok ρ'→qi0 ρ'
def qrc (dg:List T→Ro→Rs Ro):Prop:= ∀t ρ ρ',qi0 ρ→dg t ρ= .ok ρ'→qi0 ρ'
theorem qbo {i:Nat}:GNo (gN i):=fun t ρ ρ' h e j s ej=>by
 cases e
 rw[List.getElem?_set] at ej
 split at ej
 ·split at ej
  ·cases ej; rfl
  ·cases ej
 ·exact h j s ej
theorem qeI:qrc gsN:=fun t ρ ρ' h e=>by
 cases t with
 | nil=>cases e; exact h
 | cons _ _=>cases e
theorem qbR {dg:T→Ro→Rs Ro} {dr:List T→Ro→Rs Ro} (h1:GNo dg) (h2:qrc dr):qrc (gsC dg dr):=fun t ρ ρ' h e=>by
 cases t with
 | nil=>cases e
 | cons t ts=>
  obtain ⟨ρ1,e1,e2⟩:=qb8 e
  exact h2 ts ρ1 ρ' (h1 t ρ ρ1 h e1) e2
theorem qiK {n:Nat} {dr:List T→Ro→Rs Ro} (h2:qrc dr):GNo (gT n dr):=fun t ρ ρ' h e=>by
 cases t with
 | tup ts=>
  unfold gT at e
  dsimp only at e
  split at e
  ·exact h2 ts ρ ρ' h e
  ·cases e
 | _=>cases e
theorem qga (gn:GNo dg) {σ:St} {H:Hp} {H0 B0 B:Hp} {ρ:Ro} {Q:Addr→Hp→Prop} (ev:Ev M H0 B0 ρ σ H B)
  (w:Wnt M H0 (fun a=> ∀p vs H' B',qa4 H B H' B'→M.G.P H'→H p=none→B' p=none→H' p=some (.lst vs)→qaE M.K B' a vs→Q p H') (qaC own.length (fr.map (·.2)) di dg dt de ρ)):
  qhl (tI M di) (tG M.nox dg) (tPT M.nox dt) (tP M.nox de) own fr σ H Q:=by
 refine ⟨H0,B0,ρ,B,ev,Wnt.mono (Wnt.bind w) fun ts w1 J H1 B1 g1 m1 hz wk D hD=> ?_⟩
 obtain ⟨res,eR,kR⟩:=qjV w1
 have ev1:=ev.grow g1 m1
 have h0D:H0 D=none:=qbD ev1.gr.gx hD
 have bD:B1 D=none:=by
  cases q:B1 D with
  | none=>rfl
  | some u=>rw[ev1.bh _ _ q] at hD; cases hD
 obtain ⟨gD,mD⟩:=ev1.nown (o:=HO.lst []) hD
 have evD:Ev M.nox H0 B0 (qdT own.length (fr.map (·.2)) ρ) (qdQ own fr σ) (upd H1 D (.lst [])) B1:=(qoo (ev1.grow gD mD)).nox
 refine qmE (n:=ts.length) (fun i ys σ' H'=> ∃ρ' B' dn rs,(Ev M.nox H0 B0 ρ' σ' H' B'∧qi0 ρ')∧qa4 H1 B1 H' B'∧H' D=some (.lst ys)∧B' D=none∧ys.length≤i∧qaE M.K B' dn ys∧dn++rs=res∧qiR dg dt de (ts.drop i) ρ'= .ok rs) ?_ hz ?_ ?_ ?_ ?_ ?_
 ·exact ⟨_,B1,[],res,⟨evD,qfB⟩,gD,qan,bD,Nat.le_refl _,.nil,rfl,by simpa using eR⟩
 ·rintro i ys σ' H' ⟨ρ',B',dn,rs,_,_,h,_⟩; exact h
 ·rintro i ys σ' H' ⟨ρ',B',dn,rs,_,_,_,_,h,_⟩; exact h
 ·rintro i ys σ' H' hi ⟨ρ',B',dn,rs,⟨e1,_⟩,e2,_⟩
  exact ((wk H' B' e2.bb e2.bh e2.bt e1.gm i).1 ts[i] (List.getElem?_eq_getElem hi)).1
 ·rintro ys σ' H' ⟨ρ',B',dn,rs,⟨e1,_⟩,e2,e3,e4,e5,e6,e7,e8⟩
  refine ⟨(wk H' B' e2.bb e2.bh e2.bt e1.gm ts.length).2 rfl,?_⟩
  rw[List.drop_length] at e8
  cases e8
  rw[List.append_nil] at e7
  subst e7
  exact kR D ys H' B' (g1.trans e2) e1.gm (qbD g1.gx hD) e4 e3 e6
 ·rintro i ys σ' H' x H3 hi ⟨ρ',B',dn,rs,⟨e1,no1⟩,e2,e3,e4,e5,e6,e7,e8⟩ hy
  obtain ⟨B3,g3,m3,r3⟩:=((wk H' B' e2.bb e2.bh e2.bt e1.gm i).1 ts[i] (List.getElem?_eq_getElem hi)).2 x H3 hy
  rw[List.drop_eq_getElem_cons hi] at e8
  obtain ⟨ρ1,d1,e8⟩:=qb8 e8
  obtain ⟨c,d2,e8⟩:=qb8 e8
  have ev3:=e1.grow g3 m3
  have no2:=gn _ _ _ no1 d1
  have wo: ∀{α:Type} {r:Rs α} {a:α} {k:α→Prop},r= .ok a→k a→Wnt M.nox H0 k r:=fun e k=>by rw[e]; exact k
  refine ⟨H0,B0,ρ',B3,ts[i],ev3,r3,wo d1 fun σ2 ev2=> ?_⟩
  refine tPT.of ev2 (wo d2 fun H5 B5 g5 m5=> ?_)
  have ev5:=ev2.grow g5 m5
  have gg:qa4 H1 B1 H5 B5:=(e2.trans g3).trans g5
  have hD5:H5 D=some (.lst ys):=g5.gx.hh _ _ (g3.gx.hh _ _ e3 (by intro ps z; cases z)) (by intro ps z; cases z)
  have bD5:B5 D=none:=by
   rw[g5.nw D (by rw[g3.gx.hh _ _ e3 (by intro ps z; cases z)]; simp),g3.nw D (by rw[e3]; simp)]; exact e4
  cases c with
  | false=>
   rw[if_neg (by intro z; cases z)] at e8
   refine qoR ?_
   exact ⟨ρ1,B5,dn,rs,⟨ev5,no2⟩,gg,hD5,bD5,Nat.le_succ_of_le e5,(e6.mono g3.bb).mono g5.bb,e7,e8⟩
  | true=>
   rw[if_pos rfl] at e8
   obtain ⟨y,d3,e8⟩:=qb8 e8
   obtain ⟨ys',d4,e8⟩:=qb8 e8
   cases e8
   refine qoQ ?_
   refine tP.of ev5 (wo d3 fun v H6 B6 g6 m6 r6=> ?_)
   have ev6:=ev5.grow g6 m6
   have hD6:H6 D=some (.lst ys):=g6.gx.hh _ _ hD5 (by intro ps z; cases z)
   have bD6:B6 D=none:=by rw[g6.nw D (by rw[hD5]; simp)]; exact bD5
   have g16:qa4 H1 B1 H6 B6:=gg.trans g6
   refine ⟨hD6,ρ1,B6,dn++[y],ys',⟨ev6.updD hD6 h0D bD6 (fun j s ej oj z=>by rw[no2 j s ej] at oj; cases oj),no2⟩,?_,qan,bD6,by rw[List.length_append,List.length_singleton]; lia,(((e6.mono g3.bb).mono g5.bb).mono g6.bb).snoc r6,by rw[List.append_assoc]; exact e7,d4⟩
   ·refine ⟨⟨fun a o z n=> ?_,fun a z w=> ?_⟩,g16.bb,fun a o z=> ?_,g16.bt,g16.nw⟩
    ·rw[qaj (qap z hD)]; exact g16.gx.hh a o z n
    ·by_cases q:a=D
     ·subst q; exact z hD
     ·rw[qaj q] at w; exact g16.gx.dm a z w
    ·rw[qaj (fun q=>by rw[q,bD6] at z; cases z)]; exact g16.bh a o z
theorem qa2 (hc:X.calm=true) (hi:DI M X tg iter di) (gn:GNo dg) (hk:scope.kind= .function) (hcell: ∀y∈scope.names,y.2≠.cell) (hnames: ∀y∈scope.names,y.2= .local→scope.names.lookup y.1=some .local)
  (hfree: ∀y∈scope.names,y.2= .free→X.env.kindOf y.1=some .cell∨X.env.kindOf y.1=some .free) (hfr: ∀p∈fr,X.N[p.2]? =some p.1∧scope.names.lookup p.1=some .free)
  (hb: ∀(fp:List Addr) (s3:Shared) (H3:Hp),DG M.nox (qbd X scope own fr fp s3 H3) tg dg∧qmP (qbd X scope own fr fp s3 H3) ifs (tPT M.nox dt)∧DE M.nox (qbd X scope own fr fp s3 H3) elt de)
  (hs: ∀x,foldedSetIterable iter X.env x=pure x:=by intro _; rfl):
  DF M X (.ListComp elt [⟨tg,iter,ifs,0⟩] scope pos) (qaC own.length (fr.map (·.2)) di dg dt de):=
 PE.weak (qnV hc hi hk hcell hnames hfree hfr hb hs) fun σ H Q ⟨H0,B0,ρ,B,ev,w⟩=>qga gn ev (Wnt.mono (qbL.mp w) fun a q p vs H' B' g m h1 h2 h3 r=>q p vs H' B' g m h1 h2 h3 r)
theorem qaQ {Y:Cx}:qmP Y [] (tPT M qcl):=fun pins s σ H Q I ⟨H0,B0,ρ,B,ev,w⟩=>qlQ pins s σ H Q I (w H B (.refl ev.bh ev.bt) ev.gm)
theorem qht {Y:Cx} {c:Expr} (h:DT M Y c dt):qmP Y [c] (tPT M dt):=qlP h
theorem qcT {i:Nat} {y:Str} {py spos:Pos} (hc:X.calm=true) (hi:DI M X tg iter di) (gn:GNo dg) (hk:scope.kind= .function) (hcell: ∀y∈scope.names,y.2≠.cell) (hnames: ∀y∈scope.names,y.2= .local→scope.names.lookup y.1=some .local)
  (hfree: ∀y∈scope.names,y.2= .free→X.env.kindOf y.1=some .cell∨X.env.kindOf y.1=some .free) (hfr: ∀p∈fr,X.N[p.2]? =some p.1∧scope.names.lookup p.1=some .free)
  (hb: ∀(fp:List Addr) (s3:Shared) (H3:Hp),DG M.nox (qbd X scope own fr fp s3 H3) tg dg∧qmP (qbd X scope own fr fp s3 H3) ifs (tPT M.nox dt)∧DE M.nox (qbd X scope own fr fp s3 H3) elt de)
  (hN:X.N.Nodup) (hiN:X.N[i]? =some y) (hy:X.env.scope.names.lookup y=some .local)
  (hsw:swapsWith (.ListComp elt [⟨tg,iter,ifs,0⟩] scope pos) (some (.Name y py)) spos.line X.env=pure true:=by rfl) (hs: ∀x,foldedSetIterable iter X.env x=pure x:=by intro _; rfl):
  DS M X (.Assign [.Name y py] (.ListComp elt [⟨tg,iter,ifs,0⟩] scope pos) spos) (qcH i (dFz (qaC own.length (fr.map (·.2)) di dg dt de))):=
 PS.weak (L2.ps_setcomp hc hi hk hcell hnames hfree hfr hb hN hiN hy hsw hs) fun D σ H ⟨H0,B0,ρ,B,ev,w⟩=>qga gn ev (Wnt.mono (Wnt.bind (Wnt.bind w)) fun a q p vs H' B' g m h1 h2 h3 r=>by
  obtain ⟨g2,le⟩:=g.freeze h1 h2 h3
  refine q _ H' _ ((ev.grow g2 m).set ?_) g2.bb
  unfold Rep
  exact ⟨p,vs,rfl,qan,r.mono le⟩)
end
end PL
end
section
namespace PL
open PySem L2
def spP (K:PySem.W.Frag) (G:Gam) (C:Str→Addr) (f:List T→Rs T):Sp:=fun vs H Q E=> ∃B ts,Le B H∧(∀a ps,B a≠some (.tbl ps))∧G.P H∧qaE K B ts vs∧qta ⟨K,G,E,C⟩ H H B Q (f ts)
def outT:Out→Rs T
 | .rt t=>.ok t
 | .nx _=>.ok .non
 | _=>.no
def fnT (n N:Nat) (d:Ro→Rs Out):List T→Rs T:=fun ts=>if ts.length=n then d (ts.map .fz++List.replicate (N - n) .no)>>=outT else .no
section
variable {K:PySem.W.Frag} {G:Gam} {C:Str→Addr} {E:XK}
theorem qmp {H B:Hp} {ts:List T} {vs:List V} {N:List Str} (le:Le B H) (bt: ∀a ps,B a≠some (.tbl ps)) (m:G.P H) (r:qaE K B ts vs) (hN:ts.length≤N.length):
  Ev ⟨K,G,E,C⟩ H B (ts.map .fz++List.replicate (N.length - ts.length) .no) (start N vs) H B:=by
 have hl:=r.length
 refine ⟨.refl le bt,m,by simp[L2.start,hl],fun i s e=> ?_,fun i j si sj p hij ei ej oi=> ?_⟩
 ·by_cases hi:i<ts.length
  ·rw[List.getElem?_append_left (by simpa using hi),List.getElem?_map] at e
   cases q:ts[i]? with
   | none=>rw[q] at e; cases e
   | some t=>
    rw[q] at e; cases e
    obtain ⟨v,ev,rv⟩:=r.get q
    refine ⟨v,?_,rv⟩
    unfold L2.start
    rw[List.getElem?_append_left (by simp; lia),List.getElem?_map,ev]
    rfl
  ·rw[List.getElem?_append_right (by simpa using hi),List.getElem?_replicate] at e
   split at e
   ·cases e; trivial
   ·cases e
 ·have h:=List.mem_of_getElem? ei
  rcases List.mem_append.mp h with h | h
  ·obtain ⟨t,_,rfl⟩:=List.mem_map.mp h
   cases oi
  ·rw[(List.mem_replicate.mp h).2] at oi; cases oi
theorem qfb {d:Ro→Rs Out} {n:Nat} {N:List Str} {vs:List V} {H:Hp} {Q:VK} (hn:n≤N.length) (h:spP K G C (fnT n N.length d) vs H Q E):tS ⟨K,G,E,C⟩ d { nx:=fun _ H'=>Q .non H',rt:=Q } (start N vs) H:=by
 obtain ⟨B,ts,le,bt,m,r,w⟩:=h
 unfold fnT at w
 split at w
 ·rename_i hl
  refine ⟨H,B,_,B,qmp le bt m r (by lia),?_⟩
  rw[hl]
  refine Wnt.mono (Wnt.bind (qaJ.mp w)) fun o w1=> ?_
  cases o with
  | rt t=>exact w1
  | nx ρ=>exact fun σ' H' B' ev _=>w1 .non H' B' ev.gr ev.gm (by unfold Rep; rfl)
  | bk ρ=>exact w1.elim
  | ct ρ=>exact w1.elim
 ·exact w.elim
theorem qgs {d:Ro→Rs Out} {n N:Nat} {vs:List V} {H:Hp} {Q:VK} (h:spP K G C (fnT n N d) vs H Q E):vs.length=n:=by
 obtain ⟨B,ts,le,bt,m,r,w⟩:=h
 unfold fnT at w
 split at w
 ·rename_i hl
  rw[r.length]; exact hl
 ·exact w.elim
end
section
variable {P:Program} {w:World} {K:PySem.W.Frag} {mg:Str→Option Value} {base:Heap} {G:Gam} {C:Str→Addr}
theorem qbp {x qual:Str} {st:Stmt} {f:Addr} {fd:FuncData} {N ps:List Str} {k:Nat} {d:Ro→Rs Out} (F:Fun K x qual st f fd) (S:qas N ps (qaf st))
  (hbody: ∀(cdv:Value) (A:Around) (outer:List Env) (s:Shared) (H:Hp) (E:XK),qcD k (A.deeper (PyProof.Rows.envOfC qual (qaf st) s.heap.objs.size f cdv))→
   DSs ⟨K,G,E,C⟩ (qoz CX0 P w K mg base N qual (qaf st) f cdv A outer s H E).nox (qaX st) d):qbG P w K mg base CX0 (k+1) f fd ps (spP K G C (fnT ps.length N.length d)):=by
 have hpl:ps.length≤N.length:=by have:=congrArg List.length S.pre; rw[List.length_take] at this; lia
 exact F.ok S (fun vs H Q E h=>qgs h) fun cdv A outer s H vs Q E hr h=>⟨_,hbody cdv A outer s H E hr,qfb hpl h⟩
end
def qag (f:List T→Rs T) (ds:Ro→Rs (List T)):Ro→Rs T:=fun ρ=>ds ρ>>=f
section
variable {M:Md} {X:Cx} {CX:CXT} {k:Nat} {f:Addr} {fd:FuncData} {ps:List Str} {fT:List T→Rs T} {x:Str} {p pos:Pos} {e:Expr} {es:List Expr} {ds:Ro→Rs (List T)}
theorem qk0 {σ:St} {H:Hp} {Q:VK} (h:tP M (qag fT ds) σ H Q):qpc (spP M.K M.G M.C fT) [] M.E (tPA M ds) σ H Q:=by
 obtain ⟨H0,B0,ρ,B,ev,w⟩:=h
 refine tPA.of ev (Wnt.mono (Wnt.bind (qaJ.mp w)) fun ts w1 vs H1 B1 g1 m1 r1=> ?_)
 have ev1:=ev.grow g1 m1
 refine ⟨B1,ts,ev1.bh,ev1.bt,m1,by rw[List.append_nil]; exact r1,?_⟩
 cases q:fT ts with
 | no=>rw[q] at w1; exact w1
 | ok r=>rw[q] at w1; exact fun v H' B' g m rr=>w1 v H' B' (g1.trans g) m rr
 | ex c=>rw[q] at w1; exact fun H' g m=>w1 H' (ev1.gr.gx.trans g) m
theorem qow (F:qbG X.prog X.w X.K X.mg X.base CX k f fd ps (spP M.K M.G M.C fT)) (hr:qcD k X.A) (hg:Gl X x) (hm:X.mg x=some (.ref f)) (hk:PySem.W.keepIn X.K (.ref f)=true) (hb:qfp X.K fd ps []) (hx:qgk CX X M.E)
  (ha:DA M X (e::es) ds) (hdb:(x==("__debug__" :Str))=false:=by decide) (he:starEach (e::es) X.env=(false,eval e X.env)::starEach es X.env:=by rfl) (hpl:(backTo pos (starEach es X.env)).any (·.1)=false:=by rfl):
  DE M X (.Call (.Name x p) (e::es) [] pos) (qag fT ds):=PE.weak (qjL F hr hg hm hk hb .nil hx ha hdb he hpl) fun σ H Q h=>qk0 h
end
theorem qsa {M:Md} {X:Cx}:qgk CX0 X M.E:=fun _ _ _ _ _ _ _ h=>h.elim
def dTB (da:Ro→Rs T):Ro→Rs Bool:=fun ρ=>da ρ>>=fun t=>match t with | .bl b=>.ok b | _=>.no
def qoV (d e:Ro→Rs Bool):Ro→Rs Bool:=fun ρ=>d ρ>>=fun c=>if c=true then e ρ else .ok false
def dOr (d e:Ro→Rs Bool):Ro→Rs Bool:=fun ρ=>d ρ>>=fun c=>if c=true then .ok true else e ρ
def qfs (d:Ro→Rs Bool):Ro→Rs Bool:=fun ρ=>d ρ>>=fun c=>.ok (!c)
def qmB (d e:Ro→Rs T):Ro→Rs T:=fun ρ=>dTB d ρ>>=fun c=>if c=true then e ρ else .ok (.bl false)
def qu4 (d e:Ro→Rs T):Ro→Rs T:=fun ρ=>dTB d ρ>>=fun c=>if c=true then .ok (.bl true) else e ρ
def qqE (d:Ro→Rs T):Ro→Rs T:=fun ρ=>dTB d ρ>>=fun c=>.ok (.bl (!c))
def qq9 (dt:Ro→Rs Bool) (d e:Ro→Rs T):Ro→Rs T:=fun ρ=>dt ρ>>=fun c=>if c=true then d ρ else e ρ
abbrev DW (M:Md) (X:Cx) (e:Expr) (d:Ro→Rs Bool):Prop:=PW X e (tPT M d)
theorem PW.weak {X:Cx} {e:Expr} {t t':TT} (h:PW X e t) (w: ∀σ H Q,t' σ H Q→t σ H Q):PW X e t':=fun wh pins s σ H Q I q=>h wh pins s σ H Q I (w σ H Q q)
theorem qa8 {K:PySem.W.Frag} {B:Hp} {b:Bool} {v:V} (r:Rep K B (.bl b) v):v= .bl b:=by unfold Rep at r; exact r
theorem qaq {K:PySem.W.Frag} {B:Hp} {b:Int} {v:V} (r:Rep K B (.int b) v):v= .int b:=by unfold Rep at r; exact r
theorem qaD {K:PySem.W.Frag} {B:Hp} {b:Str} {v:V} (r:Rep K B (.str b) v):v= .str b:=by unfold Rep at r; exact r
theorem qbk {K:PySem.W.Frag} {B:Hp} {v:V} (r:Rep K B .non v):v= .non:=by unfold Rep at r; exact r
theorem qaZ {K:PySem.W.Frag} {B:Hp} {ts:List T} {v:V} (r:Rep K B (.tup ts) v): ∃p vs,v= .ref p∧SqT K B p vs∧qaE K B ts vs:=by unfold Rep at r; exact r
theorem qbl {K:PySem.W.Frag} {B:Hp} {ts:List T} {v:V} (r:Rep K B (.lst ts) v): ∃p vs,v= .ref p∧B p=some (.lst vs)∧qaE K B ts vs:=by unfold Rep at r; exact r
theorem qcR {K:PySem.W.Frag} {B:Hp} {b:Bool}:Rep K B (.bl b) (.bl b):=by unfold Rep; rfl
theorem qbs {K:PySem.W.Frag} {B:Hp} {b:Int}:Rep K B (.int b) (.int b):=by unfold Rep; rfl
theorem qhz {K:PySem.W.Frag} {B:Hp} {b:Str}:Rep K B (.str b) (.str b):=by unfold Rep; rfl
theorem qp2 {K:PySem.W.Frag} {B:Hp}:Rep K B .non .non:=by unfold Rep; rfl
theorem qm9 {K:PySem.W.Frag} {B:Hp} {ts:List T} {p:Addr} {vs:List V} (h:SqT K B p vs) (r:qaE K B ts vs):Rep K B (.tup ts) (.ref p):=by unfold Rep; exact ⟨p,vs,rfl,h,r⟩
theorem qp3 {K:PySem.W.Frag} {B:Hp} {ts:List T} {p:Addr} {vs:List V} (h:B p=some (.lst vs)) (r:qaE K B ts vs):Rep K B (.lst ts) (.ref p):=by unfold Rep; exact ⟨p,vs,rfl,h,r⟩
section
variable {M:Md} {X:Cx} {e a b c:Expr} {qbY:List Expr} {pos:Pos} {da db dc:Ro→Rs T} {dt du:Ro→Rs Bool}
theorem qgp {σ:St} {H:Hp} {Q:Bool→Hp→Prop} (h:tPT M (dTB da) σ H Q):tP M da σ H fun x H1=> ∃c,x= .bl c∧Q c H1:=by
 obtain ⟨H0,B0,ρ,B,ev,w⟩:=h
 refine tP.of ev (Wnt.mono (Wnt.bind (qdb.mp w)) fun t w1 v H1 B1 g1 m1 r1=> ?_)
 cases t with
 | bl b=>exact ⟨b,qa8 r1,w1 H1 B1 g1 m1⟩
 | _=>exact w1.elim
theorem qcN (h:DE M X e da) (he: ∀whole,isTrue e X.env whole=(do let v ←whole; standAt e.pos; holding [v] (truthy v)):=by intro _; rfl):DT M X e (dTB da):=PT.weak (qpE h he) fun σ H Q h=>qgp h
theorem qby {op:CmpOp} {r:R2} {g:T→T→Rs T} (ho:OpR X (compareOp op) r) (hr:RS M r g) (hp:Pl g) (ha:DE M X a da) (hb:DE M X b db) (hm:behindInMarks op b=false:=by first | exact qe4 _ (by decide) (by decide) | rfl):DT M X (.Compare a [op] [b] pos) (dTB (dB g da db)):=
 PT.weak (qgA ho ha hb hm) fun _ _ _ h=>qe3 hr hp (qgp h)
def qbS (g g':T→T→Rs T) (da db dc:Ro→Rs T):Ro→Rs T:=fun ρ=>da ρ>>=fun x=>db ρ>>=fun y=>g x y>>=fun z=>match z with | .bl k=>if k=true then dc ρ>>=fun u=>g' y u else .ok (.bl false) | _=>.no
theorem qeO {r r':R2} {g g':T→T→Rs T} (hr:RS M r g) (hp:Pl g) (hr':RS M r' g') (hp':Pl g') {σ:St} {H:Hp} {Q:VK} (h:tP M (qbS g g' da db dc) σ H Q):qi9 r r' (tP M da) (tP M db) (tP M dc) σ H Q:=by
 obtain ⟨H0,B0,ρ,B,ev,w⟩:=h
 refine tP.of ev (Wnt.mono (Wnt.bind (qaJ.mp w)) fun x w1 v H1 B1 g1 m1 r1=> ?_)
 refine tP.of (ev.grow g1 m1) (Wnt.mono (Wnt.bind w1) fun y w2 u H2 B2 g2 m2 r2=> ?_)
 have ev2:=(ev.grow g1 m1).grow g2 m2
 cases q:g x y with
 | no=>rw[q] at w2; exact w2.elim
 | ex c=>exact absurd q (hp x y c)
 | ok z=>
  rw[q] at w2
  refine hr H2 B2 v u x y z _ ev2.bh ev2.bt m2 (r1.mono g2.bb) r2 q fun v' H3 B3 g3 m3 r3=> ?_
  cases z with
  | bl k=>
   refine ⟨k,qa8 r3,?_⟩
   have ev3:=ev2.grow g3 m3
   cases k with
   | false=>exact qoR (w2 (.bl false) H3 B3 ((g1.trans g2).trans g3) m3 qcR)
   | true=>
    refine qoQ (tP.of ev3 (Wnt.mono (Wnt.bind w2) fun u' w3 v4 H4 B4 g4 m4 r4=> ?_))
    have ev4:=ev3.grow g4 m4
    cases q':g' y u' with
    | no=>rw[q'] at w3; exact w3.elim
    | ex c=>exact absurd q' (hp' y u' c)
    | ok z'=>
     rw[q'] at w3
     exact hr' H4 B4 u v4 y u' z' _ ev4.bh ev4.bt m4 ((r2.mono g3.bb).mono g4.bb) r4 q' fun v5 H5 B5 g5 m5 r5=>w3 v5 H5 B5 ((((g1.trans g2).trans g3).trans g4).trans g5) m5 r5
  | _=>exact w2.elim
theorem qh3 {op op':CmpOp} {r r':R2} {g g':T→T→Rs T} (ho:OpR X (compareOp op) r) (ho':OpR X (compareOp op') r') (hr:RS M r g) (hp:Pl g) (hr':RS M r' g') (hp':Pl g') (ha:DE M X a da) (hb:DE M X b db) (hc:DE M X c dc)
  (hm:lastMarks [op,op'] [b,c]=false:=by with_unfolding_all rfl):DE M X (.Compare a [op,op'] [b,c] pos) (qbS g g' da db dc):=PE.weak (qlZ ho ho' ha hb hc hm) fun _ _ _ h=>qeO hr hp hr' hp' h
theorem qfh {op op':CmpOp} {r r':R2} {g g':T→T→Rs T} (ho:OpR X (compareOp op) r) (ho':OpR X (compareOp op') r') (hr:RS M r g) (hp:Pl g) (hr':RS M r' g') (hp':Pl g') (ha:DE M X a da) (hb:DE M X b db) (hc:DE M X c dc)
  (hm:lastMarks [op,op'] [b,c]=false:=by with_unfolding_all rfl):DT M X (.Compare a [op,op'] [b,c] pos) (dTB (qbS g g' da db dc)):=PT.weak (qlN ho ho' ha hb hc hm) fun _ _ _ h=>qeO hr hp hr' hp' (qgp h)
theorem qcO (h:DT M X a dt):DT M X (.UnaryOp .Not a pos) (qfs dt):=PT.weak (qpF h) fun σ H Q ⟨H0,B0,ρ,B,ev,w⟩=>tPT.of ev (Wnt.mono (Wnt.bind (qdb.mp w)) fun c w1 H1 B1 g m=>w1 H1 B1 g m)
theorem qoq (h:DT M X a dt):DW M X (.BoolOp .And [a] pos) dt:=qnL h
theorem qh2 (h:DT M X a dt):DW M X (.BoolOp .Or [a] pos) dt:=qpB h
theorem qqp (h:DT M X a dt) (h':DW M X (.BoolOp .And (b::qbY) pos) du):DW M X (.BoolOp .And (a::b::qbY) pos) (qoV dt du):=PW.weak (qpC h h') fun σ H Q ⟨H0,B0,ρ,B,ev,w⟩=>tPT.of ev (Wnt.mono (Wnt.bind (qdb.mp w)) fun c w1 H1 B1 g m=>by
 cases c with
 | true=>exact qoQ (tPT.of (ev.grow g m) (Wnt.mono w1 fun c w2 H2 B2 g2 m2=>w2 H2 B2 (g.trans g2) m2))
 | false=>exact qoR (w1 H1 B1 g m))
theorem qmt (h:DT M X a dt) (h':DW M X (.BoolOp .Or (b::qbY) pos) du):DW M X (.BoolOp .Or (a::b::qbY) pos) (dOr dt du):=PW.weak (qr4 h h') fun σ H Q ⟨H0,B0,ρ,B,ev,w⟩=>tPT.of ev (Wnt.mono (Wnt.bind (qdb.mp w)) fun c w1 H1 B1 g m=>by
 cases c with
 | true=>exact qoQ (w1 H1 B1 g m)
 | false=>exact qoR (tPT.of (ev.grow g m) (Wnt.mono w1 fun c w2 H2 B2 g2 m2=>w2 H2 B2 (g.trans g2) m2)))
theorem qqq {e:Expr} (h:DW M X e dt):DT M X e dt:=PW.pt h
theorem qhj {P':T→Prop} {H0:Hp} {ρ:Ro} {f:Bool→Rs T} (w:Wnt M H0 P' (dTB da ρ>>=f)):Wnt M H0 (fun t=> ∃c,t= .bl c∧Wnt M H0 P' (f c)) (da ρ):=by
 refine Wnt.mono (Wnt.bind (Wnt.bind w)) fun t w1=> ?_
 cases t with
 | bl b=>exact ⟨b,rfl,w1⟩
 | _=>exact w1.elim
theorem qnj {op} (h:DE M X a da):DE M X (.BoolOp op [a] pos) da:=qpR h
theorem qnm (h:DE M X a da) (h':DE M X (.BoolOp .And (b::qbY) pos) db):DE M X (.BoolOp .And (a::b::qbY) pos) (qmB da db):=PE.weak (qpU h h') fun σ H Q ⟨H0,B0,ρ,B,ev,w⟩=>tP.of ev (Wnt.mono (qhj (qaJ.mp w)) fun t ⟨c,et,w1⟩ v H1 B1 g m r=>by
 subst et
 refine ⟨c,qa8 r,?_⟩
 cases c with
 | true=>exact qoQ (tP.of (ev.grow g m) (Wnt.mono w1 fun c w2 v2 H2 B2 g2 m2 r2=>w2 v2 H2 B2 (g.trans g2) m2 r2))
 | false=>exact qoR (w1 _ H1 B1 g m qcR))
theorem qqy (h:DE M X a da):DE M X (.UnaryOp .Not a pos) (qqE da):=PE.weak (qpS h) fun σ H Q ⟨H0,B0,ρ,B,ev,w⟩=>tP.of ev (Wnt.mono (qhj (qaJ.mp w)) fun t ⟨c,et,w1⟩ v H1 B1 g m r=>by
 subst et
 exact ⟨c,qa8 r,w1 _ H1 B1 g m qcR⟩)
theorem qsX (hc:DT M X c dt) (ha:DE M X a da) (hb:DE M X b db):DE M X (.IfExp c a b pos) (qq9 dt da db):=PE.weak (qlW hc ha hb) fun σ H Q ⟨H0,B0,ρ,B,ev,w⟩=>tPT.of ev (Wnt.mono (Wnt.bind (qaJ.mp w)) fun c w1 H1 B1 g m=>by
 cases c with
 | true=>exact qoQ (tP.of (ev.grow g m) (Wnt.mono w1 fun c w2 v2 H2 B2 g2 m2 r2=>w2 v2 H2 B2 (g.trans g2) m2 r2))
 | false=>exact qoR (tP.of (ev.grow g m) (Wnt.mono w1 fun c w2 v2 H2 B2 g2 m2 r2=>w2 v2 H2 B2 (g.trans g2) m2 r2)))
end
end PL
end
section
namespace Mir
open St
theorem qc6: ∀{l:List Nat} {x:Nat},x∈l→(l.erase x).length+1=l.length
 | [],_,h=>by cases h
 | y::l,x,h=>by
  by_cases e:y=x
  ·subst e; simp
  ·have hb:(y==x)=false:=by simpa using e
   rw[List.erase_cons,hb]
   simp only[Bool.false_eq_true,if_false,List.length_cons]
   have:=qc6 (l:=l) (x:=x) ((List.mem_cons.mp h).resolve_left fun z=>e z.symm)
   lia
theorem qfP {l:List Nat} {x y:Nat} (h:y∈l) (hne:y≠x):y∈l.erase x:=by
 induction l with
 | nil=>cases h
 | cons z l ih=>
  rw[List.erase_cons]
  by_cases e:z=x
  ·have hb:(z==x)=true:=by simpa using e
   rw[hb,if_pos rfl]
   exact (List.mem_cons.mp h).resolve_left fun q=>hne (q.trans e)
  ·have hb:(z==x)=false:=by simpa using e
   rw[hb]
   simp only[Bool.false_eq_true,if_false]
   rcases List.mem_cons.mp h with q | q
   ·rw[q]; exact List.mem_cons_self
   ·exact List.mem_cons_of_mem _ (ih q)
theorem qhA: ∀{l l':List Nat},l.Nodup→(∀x∈l,x∈l')→l.length≤l'.length
 | [],_,_,_=>Nat.zero_le _
 | x::l,l',nd,h=>by
  have hx:x∈l':=h x List.mem_cons_self
  have hn:=List.nodup_cons.mp nd
  have:=qhA (l:=l) (l':=l'.erase x) hn.2 fun y hy=>qfP (h y (List.mem_cons_of_mem _ hy)) fun z=>hn.1 (z▸hy)
  have e:=qc6 hx
  rw[List.length_cons]
  lia
theorem quN {l:List Nat} {n:Nat} (nd:l.Nodup) (lt: ∀x∈l,x<n) (hl:l.length=n): ∀j,j<n→j∈l:=by
 intro j hj
 by_cases q:j∈l
 ·exact q
 ·have h1:=qhA (l:=j::l) (l':=List.range n) (List.nodup_cons.mpr ⟨q,nd⟩) fun x hx=>by
   rcases List.mem_cons.mp hx with e | e
   ·rw[e]; exact List.mem_range.mpr hj
   ·exact List.mem_range.mpr (lt x e)
  rw[List.length_cons,List.length_range] at h1
  lia
theorem qcM {R:Nat→Nat→Prop} (asym: ∀a b,R a b→¬R b a): ∀{l l':List Nat},l.Pairwise R→l'.Pairwise R→(∀x,x∈l↔x∈l')→l=l'
 | [],[],_,_,_=>rfl
 | [],y::l',_,_,h=>by have:=(h y).mpr List.mem_cons_self; cases this
 | x::l,[],_,_,h=>by have:=(h x).mp List.mem_cons_self; cases this
 | x::l,y::l',h1,h2,h=>by
  obtain ⟨a1,b1⟩:=List.pairwise_cons.mp h1
  obtain ⟨a2,b2⟩:=List.pairwise_cons.mp h2
  have exy:x=y:=by
   rcases List.mem_cons.mp ((h x).mp List.mem_cons_self) with e | e
   ·exact e
   ·rcases List.mem_cons.mp ((h y).mpr List.mem_cons_self) with e' | e'
    ·exact e'.symm
    ·exact absurd (a2 x e) (asym x y (a1 y e'))
  subst exy
  have n1:x∉l:=fun q=>asym x x (a1 x q) (a1 x q)
  have n2:x∉l':=fun q=>asym x x (a2 x q) (a2 x q)
  rw[qcM asym b1 b2 fun z=>⟨fun q=>((List.mem_cons.mp ((h z).mp (List.mem_cons_of_mem _ q))).resolve_left fun e=>n1 (e▸q)),fun q=>((List.mem_cons.mp ((h z).mpr (List.mem_cons_of_mem _ q))).resolve_left fun e=>n2 (e▸q))⟩]
variable {ms:List Int} {n:Nat} {p:Array Nat}
theorem qns {k:Nat→Int} (a b:Nat) (h:L k a b): ¬L k b a:=by
 intro h'
 rcases h with h | h<;>rcases h' with h' | h'<;>lia
theorem qcL (h:qcn ms n p):p.toList.Pairwise (L fun i=>ms.getD i 0):=by
 rw[List.pairwise_iff_getElem]
 intro i j hi hj hij
 have hi':i<p.size:=by simpa using hi
 have hj':j<p.size:=by simpa using hj
 have e:=h.2 i j hij (by rw[h.1.sz] at hj'; exact hj')
 have e1:g p i=p.toList[i]:=by unfold g; rw[Array.getD_eq_getD_getElem?]; simp[hi']
 have e2:g p j=p.toList[j]:=by unfold g; rw[Array.getD_eq_getD_getElem?]; simp[hj']
 rw[e1,e2] at e
 exact e
theorem qhw (h:qcn ms n p): ∀x∈p.toList,x<n:=by
 intro x hx
 obtain ⟨i,hi,rfl⟩:=List.mem_iff_getElem.mp hx
 have hi':i<p.size:=by simpa using hi
 have e:=h.1.lo i (by rw[h.1.sz] at hi'; exact hi')
 have e1:g p i=p.toList[i]:=by unfold g; rw[Array.getD_eq_getD_getElem?]; simp[hi']
 rw[e1] at e
 exact e
theorem qgD (h:qcn ms n p):p.toList.Nodup:=by
 refine List.Pairwise.imp ?_ (qcL h)
 intro a b hab e
 subst e
 exact qns a a hab hab
theorem order_mem (h:qcn ms n p) (x:Nat):x∈p.toList↔x<n:=
 ⟨qhw h x,quN (qgD h) (qhw h) (by rw[Array.length_toList]; exact h.1.sz) x⟩
def qro (ms:List Int) (n:Nat) (m:Int):List Nat:=(List.range n).filter fun j=>decide (ms.getD j 0=m)
def due (ms:List Int) (n t:Nat):List Nat:=(List.range t).flatMap fun m=>qro ms n (m:Nat)
theorem map_range_getD {α:Type} (xs:List α) (d:α):(List.range xs.length).map (fun j=>xs.getD j d)=xs:=by
 apply List.ext_getElem
 ·simp
 ·intro i h1 h2
  simp[h2]
end Mir
end
section
namespace SR
open PySem L2 RH St Mir
theorem qqj {k:Nat→Int} {n:Nat}: ∀{l:List Nat},(∀x∈l,x<n)→l.Pairwise (L k)→(ins k n l).Pairwise (L k)
 | [],_,_=>by simp[ins]
 | y::l,hl,h=>by
  have h':=List.pairwise_cons.mp h
  have hy:y<n:=hl y List.mem_cons_self
  show (if k y≤k n then y::ins k n l else n::y::l).Pairwise (L k)
  by_cases c:k y≤k n
  ·rw[if_pos c]
   refine List.pairwise_cons.mpr ⟨fun z hz=> ?_,qqj (fun x hx=>hl x (List.mem_cons_of_mem _ hx)) h'.2⟩
   rcases qe6.mp hz with q | q
   ·subst q
    unfold L
    lia
   ·exact h'.1 z q
  ·rw[if_neg c]
   refine List.pairwise_cons.mpr ⟨fun z hz=> ?_,h⟩
   rcases List.mem_cons.mp hz with q | q
   ·subst q
    exact .inl (by lia)
   ·have:=h'.1 z q
    unfold L at this⊢
    lia
theorem qfE (k:Nat→Int): ∀n,(srt k (List.range n)).Pairwise (L k)
 | 0=>List.Pairwise.nil
 | n+1=>by
  rw[List.range_succ,qeS]
  exact qqj (fun x hx=>List.mem_range.mp ((qa1 _).mp hx)) (qfE k n)
theorem qc2 {ms:List Int} {n:Nat} {p:Array Nat} (h:qcn ms n p):p.toList=srt (fun i=>ms.getD i 0) (List.range n):=
 qcM qns (qcL h) (qfE _ _) fun x=>by rw[order_mem h,qa1,List.mem_range]
end SR
end
section
namespace RH
open PySem PySem.Spec PyProof.Rows L2 SR
section
variable {α β:Type}
def TAt (tv:α→List V) (H:Hp) (xs:List V) (as:List α):Prop:=xs.length=as.length∧∀(i:Nat) (x:V) (a:α),xs[i]? =some x→as[i]? =some a→∃t,x= .ref t∧H t=some (.tup (tv a))
end
theorem qmq {x:V} (h:qcI x=true):eqV x x=true:=by
 cases x<;>first | rfl | (simp[eqV]; done) | cases h
section
variable {X:Cx} {α:Type}
def eqT (us vs:List V):Bool:=(List.range us.length).all fun j=>eqV (us.getD j .non) (vs.getD j .non)
theorem qgV {us:List V} (h:us.all qcI=true) {j:Nat} (hj:j<us.length):qcI (us.getD j .non)=true:=by
 rw[List.getD_eq_getElem?_getD,List.getElem?_eq_getElem hj]
 exact List.all_eq_true.mp h _ (List.getElem_mem hj)
theorem qhX {us:List V} (h:us.all qcI=true):eqT us us=true:=by
 unfold eqT
 rw[List.all_eq_true]
 intro j hj
 exact qmq (qgV h (List.mem_range.mp hj))
theorem valsArr {us:List V} {is:List Value} (r:Vals us is) {j:Nat} (h:j<is.toArray.size):RelV (us.getD j .non) is.toArray[j]:=by
 have hj:j<us.length:=by rw[r.length]; simpa using h
 obtain ⟨u,e,q⟩:=r.get (List.getElem?_eq_getElem hj)
 rw[List.getD_eq_getElem?_getD,List.getElem?_eq_getElem hj]
 have:is.toArray[j]=u:=by
  rw[List.getElem?_eq_getElem (by simpa using h)] at e
  simpa using Option.some.inj e
 rw[this]
 exact q
theorem VEq.tup {H:Hp} {t t':Addr} {us vs:List V} (hu:X.A.units+2<cLine) (h1:H t=some (.tup us)) (h2:H t'=some (.tup vs)) (f1:us.all qcI=true) (f2:vs.all qcI=true) (hl:us.length=vs.length):VEq X H (.ref t) (.ref t') (eqT us vs):=by
 intro pins σ s u v I ru rv
 cases ru; cases rv
 by_cases z:t=t'
 ·subst z
  rw[h1] at h2; cases h2
  rw[qhX f1]
  exact SeqAt.EqAt.same _
 ·obtain ⟨i1,r1,p1,_⟩:=I.tuple (SqT.of h1)
  obtain ⟨i2,r2,p2,_⟩:=I.tuple (SqT.of h2)
  refine SeqAt.EqAt.of_refs z ?_
  have l1:=r1.length
  have l2:=r2.length
  have q:=SeqAt.RcAt.tuples (A:=X.A.in1) (s:=s) (e:=fun j=>eqV (us.getD j .non) (vs.getD j .non)) p1 p2 (by show X.A.units+1<cLine; lia) (fun j a1 a2=>qhY (valsArr r1 a1) (valsArr r2 a2) (qgV f1 (by rw[l1]; simpa using a1)) (qgV f2 (by rw[l2]; simpa using a2)))
  have e:((List.range (min i1.toArray.size i2.toArray.size)).all (fun j=>eqV (us.getD j .non) (vs.getD j .non))&&i1.toArray.size==i2.toArray.size)=eqT us vs:=by
   unfold eqT
   simp[←l1,←l2,←hl]
  rw[e] at q
  exact q
def quo (K:PySem.W.Frag) (tv:α→List V):R2:=fun x y H Q=> ∃a b xs ys as,x= .ref a∧y= .ref b∧SqL K H a xs∧SqL K H b ys∧TAt tv H xs as∧TAt tv H ys as∧Q (.bl false) H
theorem op_neT {tv:α→List V} (hf: ∀a,(tv a).all qcI=true) (hu:X.A.units+2<cLine):OpR X (compareOp .NotEq) (quo X.K tv):=by
 intro pins s σ H x y v u Q I rx ry h
 obtain ⟨a,b,xs,ys,rs,rfl,rfl,ha,hb,hx,hy,q⟩:=h
 cases rx; cases ry
 obtain ⟨i1,r1,p1,z1⟩:=I.list ha
 obtain ⟨i2,r2,p2,z2⟩:=I.list hb
 have l1:=r1.length
 have l2:=r2.length
 have l3:=hx.1
 have l4:=hy.1
 have q':=SeqAt.RcNeAt.lists (A:=X.A) (s:=s) (e:=fun _=>true) p1.isList p2.isList (by simp; lia) (by lia) (fun j h1 h2=> ?_)
 ·have e:(!(List.range i1.toArray.size).all (fun _=>true))=false:=by simp
  rw[e] at q'
  exact q' _ _ _ _ ⟨.bl false,H,I,rfl,q⟩
 ·have h1':j<i1.length:=by simpa using h1
  have h2':j<i2.length:=by simpa using h2
  have hxj:xs[j]? =some xs[j]:=List.getElem?_eq_getElem (by lia)
  have hyj:ys[j]? =some ys[j]:=List.getElem?_eq_getElem (by lia)
  obtain ⟨t1,c1,d1⟩:=hx.2 j _ rs[j] hxj (List.getElem?_eq_getElem (by lia))
  obtain ⟨t2,c2,d2⟩:=hy.2 j _ rs[j] hyj (List.getElem?_eq_getElem (by lia))
  have q1:=valsArr r1 h1
  have q2:=valsArr r2 h2
  rw[List.getD_eq_getElem?_getD,hxj,Option.getD_some,c1] at q1
  rw[List.getD_eq_getElem?_getD,hyj,Option.getD_some,c2] at q2
  have z:=VEq.tup (X:=X) hu d1 d2 (hf _) (hf _) rfl pins σ s _ _ I q1 q2
  rw[qhX (hf _)] at z
  exact z
end
end RH
end
section
namespace PL
open PySem L2
mutual
def eqT:T→T→Bool
 | .non,.non=>true
 | .bl a,.bl b=>a==b
 | .bl a,.int b=>(if a then 1 else 0)==b
 | .int a,.bl b=>a==(if b then 1 else 0)
 | .int a,.int b=>a==b
 | .str a,.str b=>a==b
 | .tup xs,.tup ys=>qfr xs ys
 | .lst xs,.lst ys=>qfr xs ys
 | _,_=>false
def qfr:List T→List T→Bool
 | [],[]=>true
 | x::xs,y::ys=>eqT x y&&qfr xs ys
 | _,_=>false
end
def okT:Nat→T→Bool
 | _,.non=>true
 | _,.bl _=>true
 | _,.int _=>true
 | _,.str _=>true
 | n+1,.tup ts=>ts.all (okT n)
 | n+1,.lst ts=>ts.all (okT n)
 | _,_=>false
def qmo:T→Bool
 | .non=>true
 | .bl _=>true
 | .int _=>true
 | .str _=>true
 | _=>false
abbrev qhs (xs ys:List T) (j:Nat):Bool:=eqT (xs.getD j .non) (ys.getD j .non)
theorem qc9: ∀xs ys:List T,qfr xs ys=((List.range (min xs.length ys.length)).all (qhs xs ys)&&xs.length==ys.length)
 | [],[]=>by simp[qfr]
 | [],_::_=>by simp[qfr]
 | _::_,[]=>by simp[qfr]
 | x::xs,y::ys=>by
  rw[qfr,qc9 xs ys]
  have m:min (x::xs).length (y::ys).length=(min xs.length ys.length).succ:=by simp only[List.length_cons]; lia
  rw[m,List.range_succ_eq_map,List.all_cons,List.all_map,←Bool.and_assoc]
  have e:(qhs (x::xs) (y::ys)∘Nat.succ)=qhs xs ys:=by funext j; simp[qhs]
  rw[e,show qhs (x::xs) (y::ys) 0=eqT x y from rfl]
  simp
theorem qhW {xs ys:List T} (h:xs.length=ys.length):qfr xs ys=(List.range xs.length).all (qhs xs ys):=by
 rw[qc9,h,Nat.min_self,beq_self_eq_true,Bool.and_true]
theorem qky {xs ys:List T} (h:xs.length≠ys.length):qfr xs ys=false:=by
 rw[qc9]; simp[h]
section kinds
open SeqAt
variable {A:Around} {s:Shared} {x:V} {u:Value} {l b:Addr} {is js:Array Value}
theorem qgY (r:RelV x u) (f:qcI x=true) (h:s.heap.IsList l is) (c:A.units<cLine):EqAt A s u (.ref l) false∧EqAt A s (.ref l) u false∧RcAt A s u (.ref l) false∧RcAt A s (.ref l) u false∧RcNeAt A s u (.ref l) true∧RcNeAt A s (.ref l) u true:=by
 cases x with
 | non=>cases r; exact ⟨.none_list h c,.list_none h c,.none_list h c,.list_none h c,.none_list h c,.list_none h c⟩
 | bl k=>cases r; exact ⟨.bool_list k h c,.list_bool k h c,.bool_list k h c,.list_bool k h c,.bool_list k h c,.list_bool k h c⟩
 | int k=>obtain ⟨t,rfl⟩:=r; exact ⟨.int_list k t h c,.list_int k t h c,.int_list k t h c,.list_int k t h c,.int_list k t h c,.list_int k t h c⟩
 | str k=>obtain ⟨t,rfl⟩:=r; exact ⟨.str_list k t h c,.list_str k t h c,.str_list k t h c,.list_str k t h c,.str_list k t h c,.list_str k t h c⟩
 | _=>cases f
theorem qgX (r:RelV x u) (f:qcI x=true) (h:s.heap.IsTuple l is) (c:A.units<cLine):EqAt A s u (.ref l) false∧EqAt A s (.ref l) u false∧RcAt A s u (.ref l) false∧RcAt A s (.ref l) u false∧RcNeAt A s u (.ref l) true∧RcNeAt A s (.ref l) u true:=by
 cases x with
 | non=>cases r; exact ⟨.none_tuple h c,.tuple_none h c,.none_tuple h c,.tuple_none h c,.none_tuple h c,.tuple_none h c⟩
 | bl k=>cases r; exact ⟨.bool_tuple k h c,.tuple_bool k h c,.bool_tuple k h c,.tuple_bool k h c,.bool_tuple k h c,.tuple_bool k h c⟩
 | int k=>obtain ⟨t,rfl⟩:=r; exact ⟨.int_tuple k t h c,.tuple_int k t h c,.int_tuple k t h c,.tuple_int k t h c,.int_tuple k t h c,.tuple_int k t h c⟩
 | str k=>obtain ⟨t,rfl⟩:=r; exact ⟨.str_tuple k t h c,.tuple_str k t h c,.str_tuple k t h c,.tuple_str k t h c,.str_tuple k t h c,.tuple_str k t h c⟩
 | _=>cases f
theorem qr2 {y:V} {v:Value} (r:RelV x u) (f:qcI x=true) (r':RelV y v) (f':qcI y=true):RcAt A s u v (eqV x y)∧RcNeAt A s u v (!eqV x y):=by
 cases x with
 | non=>
  cases r
  cases y with
  | non=>cases r'; exact ⟨.none_none,.none_none⟩
  | bl k=>cases r'; exact ⟨.none_bool k,.none_bool k⟩
  | int k=>obtain ⟨t,rfl⟩:=r'; exact ⟨.none_int k t,.none_int k t⟩
  | str k=>obtain ⟨t,rfl⟩:=r'; exact ⟨.none_str k t,.none_str k t⟩
  | _=>cases f'
 | bl i=>
  cases r
  cases y with
  | non=>cases r'; exact ⟨.bool_none i,.bool_none i⟩
  | bl k=>cases r'; exact ⟨.bool_bool i k,.bool_bool i k⟩
  | int k=>obtain ⟨t,rfl⟩:=r'; exact ⟨.bool_int i k t,.bool_int i k t⟩
  | str k=>obtain ⟨t,rfl⟩:=r'; exact ⟨.bool_str i k t,.bool_str i k t⟩
  | _=>cases f'
 | int i=>
  obtain ⟨t0,rfl⟩:=r
  cases y with
  | non=>cases r'; exact ⟨.int_none i t0,.int_none i t0⟩
  | bl k=>cases r'; exact ⟨.int_bool i t0 k,.int_bool i t0 k⟩
  | int k=>obtain ⟨t,rfl⟩:=r'; exact ⟨.int_int i t0 k t,.int_int i t0 k t⟩
  | str k=>obtain ⟨t,rfl⟩:=r'; exact ⟨.int_str i t0 k t,.int_str i t0 k t⟩
  | _=>cases f'
 | str i=>
  obtain ⟨t0,rfl⟩:=r
  cases y with
  | non=>cases r'; exact ⟨.str_none i t0,.str_none i t0⟩
  | bl k=>cases r'; exact ⟨.str_bool i t0 k,.str_bool i t0 k⟩
  | int k=>obtain ⟨t,rfl⟩:=r'; exact ⟨.str_int i t0 k t,.str_int i t0 k t⟩
  | str k=>obtain ⟨t,rfl⟩:=r'; exact ⟨.str_str i t0 k t,.str_str i t0 k t⟩
  | _=>cases f'
 | _=>cases f
end kinds
inductive St3 (K:PySem.W.Frag) (B:Hp) (s:Shared):T→V→Value→Prop
 | flat {t x u}:qmo t=true→qcI x=true→RelV x u→Rep K B t x→St3 K B s t x u
 | lst {ts p is vs}:s.heap.IsList p (List.toArray is)→Vals vs is→qaE K B ts vs→St3 K B s (.lst ts) (.ref p) (.ref p)
 | tup {ts p is vs}:s.heap.IsTuple p (List.toArray is)→Vals vs is→qaE K B ts vs→St3 K B s (.tup ts) (.ref p) (.ref p)
section
variable {X:Cx} {pins:List (Addr×Obj)} {σ:St} {H B:Hp} {s:Shared}
theorem st3 {n:Nat} {t:T} {x:V} {u:Value} (I:Inv X pins σ H s) (le:Le B H) (ok:okT n t=true) (r:Rep X.K B t x) (ru:RelV x u):St3 X.K B s t x u:=by
 cases t with
 | non=>have:=qbk r; subst this; exact .flat rfl rfl ru r
 | bl b=>have:=qa8 r; subst this; exact .flat rfl rfl ru r
 | int b=>have:=qaq r; subst this; exact .flat rfl rfl ru r
 | str b=>have:=qaD r; subst this; exact .flat rfl rfl ru r
 | tup ts=>
  obtain ⟨p,vs,rfl,hp,rs⟩:=qaZ r
  cases ru
  obtain ⟨is,rv,pl,_⟩:=I.tuple (le.sqT hp)
  exact .tup pl rv rs
 | lst ts=>
  obtain ⟨p,vs,rfl,hp,rs⟩:=qbl r
  cases ru
  obtain ⟨is,rv,pl,_⟩:=I.list (SqL.of (le _ _ hp))
  exact .lst pl.isList rv rs
 | dct _=>cases n<;>cases ok
 | scr _=>cases n<;>cases ok
theorem qfe {K:PySem.W.Frag} {t u:T} {x y:V} (ft:qmo t=true) (fu:qmo u=true) (r:Rep K B t x) (r':Rep K B u y):eqT t u=eqV x y:=by
 cases t<;>first | cases ft | skip
 ·have:=qbk r; subst this; cases u<;>first | cases fu | skip
  ·have:=qbk r'; subst this; rfl
  ·have:=qa8 r'; subst this; rfl
  ·have:=qaq r'; subst this; rfl
  ·have:=qaD r'; subst this; rfl
 ·have:=qa8 r; subst this; cases u<;>first | cases fu | skip
  ·have:=qbk r'; subst this; rfl
  ·have:=qa8 r'; subst this; rfl
  ·have:=qaq r'; subst this; rfl
  ·have:=qaD r'; subst this; rfl
 ·have:=qaq r; subst this; cases u<;>first | cases fu | skip
  ·have:=qbk r'; subst this; rfl
  ·have:=qa8 r'; subst this; rfl
  ·have:=qaq r'; subst this; rfl
  ·have:=qaD r'; subst this; rfl
 ·have:=qaD r; subst this; cases u<;>first | cases fu | skip
  ·have:=qbk r'; subst this; rfl
  ·have:=qa8 r'; subst this; rfl
  ·have:=qaq r'; subst this; rfl
  ·have:=qaD r'; subst this; rfl
theorem qbK {t:T} {ts:List T} (f:qmo t=true):eqT t (.lst ts)=false∧eqT (.lst ts) t=false∧eqT t (.tup ts)=false∧eqT (.tup ts) t=false:=by
 cases t<;>first | exact ⟨rfl,rfl,rfl,rfl⟩ | cases f
theorem qcu {n:Nat} {ts:List T} (h:ts.all (okT n)=true) {j:Nat} (hj:j<ts.length):okT n (ts.getD j .non)=true:=by
 rw[List.getD_eq_getElem?_getD,List.getElem?_eq_getElem hj]
 exact List.all_eq_true.mp h _ (List.getElem_mem hj)
theorem qdl {n:Nat} {ts:List T} (h:okT n (.lst ts)=true): ∃m,n=m+1∧ts.all (okT m)=true:=by
 cases n with
 | zero=>cases h
 | succ m=>exact ⟨m,rfl,h⟩
theorem qdk {n:Nat} {ts:List T} (h:okT n (.tup ts)=true): ∃m,n=m+1∧ts.all (okT m)=true:=by
 cases n with
 | zero=>cases h
 | succ m=>exact ⟨m,rfl,h⟩
mutual
theorem qda: ∀(n:Nat) (t:T),okT n t=true→eqT t t=true
 | _,.non,_=>rfl
 | _,.bl b,_=>by simp[eqT]
 | _,.int b,_=>by simp[eqT]
 | _,.str b,_=>by simp[eqT]
 | _,.tup ts,h=>by
  obtain ⟨m,_,h'⟩:=qdk h
  rw[eqT]; exact qd6 m ts h'
 | _,.lst ts,h=>by
  obtain ⟨m,_,h'⟩:=qdl h
  rw[eqT]; exact qd6 m ts h'
 | n,.dct _,h=>by cases n<;>cases h
 | n,.scr _,h=>by cases n<;>cases h
theorem qd6: ∀(n:Nat) (ts:List T),ts.all (okT n)=true→qfr ts ts=true
 | _,[],_=>rfl
 | n,t::ts,h=>by
  rw[List.all_cons,Bool.and_eq_true] at h
  rw[qfr,qda n t h.1,qd6 n ts h.2]; rfl
end
mutual
theorem qgw (I:Inv X pins σ H s) (le:Le B H): ∀(n m:Nat) (t u:T) (x:V),okT n t=true→okT m u=true→Rep X.K B t x→Rep X.K B u x→t=u
 | n,m,.non,u,x,_,hu,r,r'=>by
  have:=qbk r; subst this
  cases u with
  | non=>rfl
  | bl _=>cases qa8 r'
  | int _=>cases qaq r'
  | str _=>cases qaD r'
  | tup _=>obtain ⟨_,_,e,_⟩:=qaZ r'; cases e
  | lst _=>obtain ⟨_,_,e,_⟩:=qbl r'; cases e
  | dct _=>cases m<;>cases hu
  | scr _=>cases m<;>cases hu
 | n,m,.bl _,u,x,_,hu,r,r'=>by
  have:=qa8 r; subst this
  cases u with
  | non=>cases qbk r'
  | bl _=>cases qa8 r'; rfl
  | int _=>cases qaq r'
  | str _=>cases qaD r'
  | tup _=>obtain ⟨_,_,e,_⟩:=qaZ r'; cases e
  | lst _=>obtain ⟨_,_,e,_⟩:=qbl r'; cases e
  | dct _=>cases m<;>cases hu
  | scr _=>cases m<;>cases hu
 | n,m,.int _,u,x,_,hu,r,r'=>by
  have:=qaq r; subst this
  cases u with
  | non=>cases qbk r'
  | bl _=>cases qa8 r'
  | int _=>cases qaq r'; rfl
  | str _=>cases qaD r'
  | tup _=>obtain ⟨_,_,e,_⟩:=qaZ r'; cases e
  | lst _=>obtain ⟨_,_,e,_⟩:=qbl r'; cases e
  | dct _=>cases m<;>cases hu
  | scr _=>cases m<;>cases hu
 | n,m,.str _,u,x,_,hu,r,r'=>by
  have:=qaD r; subst this
  cases u with
  | non=>cases qbk r'
  | bl _=>cases qa8 r'
  | int _=>cases qaq r'
  | str _=>cases qaD r'; rfl
  | tup _=>obtain ⟨_,_,e,_⟩:=qaZ r'; cases e
  | lst _=>obtain ⟨_,_,e,_⟩:=qbl r'; cases e
  | dct _=>cases m<;>cases hu
  | scr _=>cases m<;>cases hu
 | n,m,.tup ts,u,x,ht,hu,r,r'=>by
  obtain ⟨p,vs,rfl,hp,rs⟩:=qaZ r
  cases u with
  | non=>cases qbk r'
  | bl _=>cases qa8 r'
  | int _=>cases qaq r'
  | str _=>cases qaD r'
  | tup us=>
   obtain ⟨p',vs',e,hp',rs'⟩:=qaZ r'
   cases e
   have:=I.tuple_inj (le.sqT hp) (le.sqT hp')
   subst this
   obtain ⟨n',_,ht'⟩:=qdk ht
   obtain ⟨m',_,hu'⟩:=qdk hu
   rw[qeW I le n' m' ts us vs ht' hu' rs rs']
  | lst us=>
   obtain ⟨p',vs',e,hp',rs'⟩:=qbl r'
   cases e
   obtain ⟨is,_,pl,_⟩:=I.tuple (le.sqT hp)
   obtain ⟨is',_,pl',_⟩:=I.list (SqL.of (le _ _ hp'))
   obtain ⟨o,e1,c1,_⟩:=pl
   obtain ⟨o',e2,c2,_⟩:=pl'.isList
   rw[e1] at e2; cases e2; rw[c1] at c2; injection c2 with c2; exact absurd c2 (by decide)
  | dct _=>cases m<;>cases hu
  | scr _=>cases m<;>cases hu
 | n,m,.lst ts,u,x,ht,hu,r,r'=>by
  obtain ⟨p,vs,rfl,hp,rs⟩:=qbl r
  cases u with
  | non=>cases qbk r'
  | bl _=>cases qa8 r'
  | int _=>cases qaq r'
  | str _=>cases qaD r'
  | lst us=>
   obtain ⟨p',vs',e,hp',rs'⟩:=qbl r'
   cases e
   rw[hp] at hp'; cases hp'
   obtain ⟨n',_,ht'⟩:=qdl ht
   obtain ⟨m',_,hu'⟩:=qdl hu
   rw[qeW I le n' m' ts us vs ht' hu' rs rs']
  | tup us=>
   obtain ⟨p',vs',e,hp',rs'⟩:=qaZ r'
   cases e
   obtain ⟨is,_,pl,_⟩:=I.tuple (le.sqT hp')
   obtain ⟨is',_,pl',_⟩:=I.list (SqL.of (le _ _ hp))
   obtain ⟨o,e1,c1,_⟩:=pl
   obtain ⟨o',e2,c2,_⟩:=pl'.isList
   rw[e1] at e2; cases e2; rw[c1] at c2; injection c2 with c2; exact absurd c2 (by decide)
  | dct _=>cases m<;>cases hu
  | scr _=>cases m<;>cases hu
 | n,m,.dct _,u,x,ht,_,_,_=>by cases n<;>cases ht
 | n,m,.scr _,u,x,ht,_,_,_=>by cases n<;>cases ht
theorem qeW (I:Inv X pins σ H s) (le:Le B H): ∀(n m:Nat) (ts us:List T) (vs:List V),ts.all (okT n)=true→us.all (okT m)=true→qaE X.K B ts vs→qaE X.K B us vs→ts=us
 | _,_,[],us,vs,_,_,r,r'=>by
  have:=r.inv0; subst this
  cases us with
  | nil=>rfl
  | cons _ _=>obtain ⟨_,_,e,_⟩:=r'.inv; cases e
 | n,m,t::ts,us,vs,ht,hu,r,r'=>by
  obtain ⟨v,vs',rfl,a,b⟩:=r.inv
  cases us with
  | nil=>cases r'.inv0
  | cons u us=>
   obtain ⟨v',vs'',e,a',b'⟩:=r'.inv
   cases e
   rw[List.all_cons,Bool.and_eq_true] at ht hu
   rw[qgw I le n m t u v ht.1 hu.1 a a',qeW I le n m ts us vs' ht.2 hu.2 b b']
end
open SeqAt in
theorem qnd (I:Inv X pins σ H s) (le:Le B H): ∀(n m:Nat) (A:Around) (t u:T) (x y:V) (v w:Value),okT n t=true→okT m u=true→A.units+n<cLine→Rep X.K B t x→Rep X.K B u y→RelV x v→RelV y w→EqAt A s v w (eqT t u):=by
 intro n
 induction n with
 | zero=>
  intro m A t u x y v w ht hu hc r r' rv rw'
  rcases st3 I le ht r rv with ⟨f,fx,_,_⟩ | _ | _
  ·rcases st3 I le hu r' rw' with ⟨g,gx,_,_⟩ | ⟨pl,_,_⟩ | ⟨pl,_,_⟩
   ·rw[qfe f g r r']; exact qhY rv rw' fx gx
   ·rw[(qbK f).1]; exact (qgY rv fx pl (by lia)).1
   ·rw[(qbK f).2.2.1]; exact (qgX rv fx pl (by lia)).1
  ·cases ht
  ·cases ht
 | succ n ih=>
  intro m A t u x y v w ht hu hc r r' rv rw'
  have hA:A.units<cLine:=by lia
  rcases st3 I le ht r rv with ⟨f,fx,_,_⟩ | ⟨pl,vs,rs⟩ | ⟨pl,vs,rs⟩
  ·rcases st3 I le hu r' rw' with ⟨g,gx,_,_⟩ | ⟨pl,_,_⟩ | ⟨pl,_,_⟩
   ·rw[qfe f g r r']; exact qhY rv rw' fx gx
   ·rw[(qbK f).1]; exact (qgY rv fx pl hA).1
   ·rw[(qbK f).2.2.1]; exact (qgX rv fx pl hA).1
  ·rename_i ts p is xs
   rcases st3 I le hu r' rw' with ⟨g,gx,_,_⟩ | ⟨pl',vs',rs'⟩ | ⟨pl',_,_⟩
   ·rw[(qbK g).2.1]; exact (qgY rw' gx pl hA).2.1
   ·rename_i us p' is' ys
    by_cases z:p=p'
    ·subst z
     have e:=qgw I le (n+1) m _ _ _ ht hu r r'
     rw[←e,qda _ _ ht]
     exact EqAt.same _
    ·have l1:=vs.length
     have l2:=vs'.length
     have l3:=rs.length
     have l4:=rs'.length
     refine EqAt.of_refs z ?_
     show RcAt A s _ _ (qfr ts us)
     by_cases hl:ts.length=us.length
     ·rw[qhW hl]
      have q:=RcAt.lists (A:=A) (s:=s) (e:=qhs ts us) pl pl' (by simp; lia) hA fun j a1 a2=> ?_
      ·have:(List.toArray is).size=ts.length:=by simp; lia
       rw[this] at q; exact q
      ·have b1:j<ts.length:=by simp at a1; lia
       have b2:j<us.length:=by lia
       obtain ⟨m',rfl,hu'⟩:=qdl hu
       exact ih m' A.in1 _ _ _ _ _ _ (qcu ht b1) (qcu hu' b2) (by show A.units+1+n<cLine; lia) (rs.getD j b1) (rs'.getD j b2) (RH.valsArr vs a1) (RH.valsArr vs' a2)
     ·rw[qky hl]
      exact RcAt.lists_lengths pl pl' (by simp; lia) hA
   ·exact EqAt.list_tuple pl pl' hA
  ·rename_i ts p is xs
   rcases st3 I le hu r' rw' with ⟨g,gx,_,_⟩ | ⟨pl',vs',rs'⟩ | ⟨pl',vs',rs'⟩
   ·rw[(qbK g).2.2.2]; exact (qgX rw' gx pl hA).2.1
   ·exact EqAt.tuple_list pl pl' hA
   ·rename_i us p' is' ys
    by_cases z:p=p'
    ·subst z
     have e:=qgw I le (n+1) m _ _ _ ht hu r r'
     rw[←e,qda _ _ ht]
     exact EqAt.same _
    ·have l1:=vs.length
     have l2:=vs'.length
     have l3:=rs.length
     have l4:=rs'.length
     refine EqAt.of_refs z ?_
     show RcAt A s _ _ (qfr ts us)
     rw[qc9]
     have q:=RcAt.tuples (A:=A) (s:=s) (e:=qhs ts us) pl pl' hA fun j a1 a2=> ?_
     ·have e1:(List.toArray is).size=ts.length:=by simp; lia
      have e2:(List.toArray is').size=us.length:=by simp; lia
      rw[e1,e2] at q; exact q
     ·have b1:j<ts.length:=by simp at a1; lia
      have b2:j<us.length:=by simp at a2; lia
      obtain ⟨m',rfl,hu'⟩:=qdk hu
      exact ih m' A.in1 _ _ _ _ _ _ (qcu ht b1) (qcu hu' b2) (by show A.units+1+n<cLine; lia) (rs.getD j b1) (rs'.getD j b2) (RH.valsArr vs a1) (RH.valsArr vs' a2)
open SeqAt in
theorem qm5 (I:Inv X pins σ H s) (le:Le B H) (n:Nat) (A:Around) (t u:T) (x y:V) (v w:Value) (ht:okT n t=true) (hu:okT n u=true) (hc:A.units+n<cLine) (r:Rep X.K B t x) (r':Rep X.K B u y) (rv:RelV x v) (rw':RelV y w):RcAt A s v w (eqT t u)∧RcNeAt A s v w (!eqT t u):=by
 have hA:A.units<cLine:=by lia
 rcases st3 I le ht r rv with ⟨f,fx,_,_⟩ | ⟨pl,vs,rs⟩ | ⟨pl,vs,rs⟩
 ·rcases st3 I le hu r' rw' with ⟨g,gx,_,_⟩ | ⟨pl,_,_⟩ | ⟨pl,_,_⟩
  ·rw[qfe f g r r']; exact qr2 rv fx rw' gx
  ·rw[(qbK f).1]; exact ⟨(qgY rv fx pl hA).2.2.1,(qgY rv fx pl hA).2.2.2.2.1⟩
  ·rw[(qbK f).2.2.1]; exact ⟨(qgX rv fx pl hA).2.2.1,(qgX rv fx pl hA).2.2.2.2.1⟩
 ·rename_i ts p is xs
  rcases st3 I le hu r' rw' with ⟨g,gx,_,_⟩ | ⟨pl',vs',rs'⟩ | ⟨pl',_,_⟩
  ·rw[(qbK g).2.1]; exact ⟨(qgY rw' gx pl hA).2.2.2.1,(qgY rw' gx pl hA).2.2.2.2.2⟩
  ·rename_i us p' is' ys
   have l1:=vs.length
   have l2:=vs'.length
   have l3:=rs.length
   have l4:=rs'.length
   obtain ⟨n',rfl,ht'⟩:=qdl ht
   obtain ⟨m',e,hu'⟩:=qdl hu
   cases e
   show RcAt A s _ _ (qfr ts us)∧RcNeAt A s _ _ (!qfr ts us)
   by_cases hl:ts.length=us.length
   ·rw[qhW hl]
    have it: ∀j (a1:j<(List.toArray is).size) (a2:j<(List.toArray is').size),EqAt A.in1 s (List.toArray is)[j] (List.toArray is')[j] (qhs ts us j):=fun j a1 a2=>by
     have b1:j<ts.length:=by simp at a1; lia
     have b2:j<us.length:=by lia
     exact qnd I le n' n' A.in1 _ _ _ _ _ _ (qcu ht' b1) (qcu hu' b2) (by show A.units+1+n'<cLine; lia) (rs.getD j b1) (rs'.getD j b2) (RH.valsArr vs a1) (RH.valsArr vs' a2)
    have ez:(List.toArray is).size=ts.length:=by simp; lia
    have q1:=RcAt.lists (A:=A) (s:=s) (e:=qhs ts us) pl pl' (by simp; lia) hA it
    have q2:=RcNeAt.lists (A:=A) (s:=s) (e:=qhs ts us) pl pl' (by simp; lia) hA it
    rw[ez] at q1 q2
    exact ⟨q1,q2⟩
   ·rw[qky hl]
    exact ⟨RcAt.lists_lengths pl pl' (by simp; lia) hA,RcNeAt.lists_lengths pl pl' (by simp; lia) hA⟩
  ·exact ⟨RcAt.list_tuple pl pl' hA,RcNeAt.list_tuple pl pl' hA⟩
 ·rename_i ts p is xs
  rcases st3 I le hu r' rw' with ⟨g,gx,_,_⟩ | ⟨pl',vs',rs'⟩ | ⟨pl',vs',rs'⟩
  ·rw[(qbK g).2.2.2]; exact ⟨(qgX rw' gx pl hA).2.2.2.1,(qgX rw' gx pl hA).2.2.2.2.2⟩
  ·exact ⟨RcAt.tuple_list pl pl' hA,RcNeAt.tuple_list pl pl' hA⟩
  ·rename_i us p' is' ys
   have l1:=vs.length
   have l2:=vs'.length
   have l3:=rs.length
   have l4:=rs'.length
   obtain ⟨n',rfl,ht'⟩:=qdk ht
   obtain ⟨m',e,hu'⟩:=qdk hu
   cases e
   show RcAt A s _ _ (qfr ts us)∧RcNeAt A s _ _ (!qfr ts us)
   rw[qc9]
   have it: ∀j (a1:j<(List.toArray is).size) (a2:j<(List.toArray is').size),EqAt A.in1 s (List.toArray is)[j] (List.toArray is')[j] (qhs ts us j):=fun j a1 a2=>by
    have b1:j<ts.length:=by simp at a1; lia
    have b2:j<us.length:=by simp at a2; lia
    exact qnd I le n' n' A.in1 _ _ _ _ _ _ (qcu ht' b1) (qcu hu' b2) (by show A.units+1+n'<cLine; lia) (rs.getD j b1) (rs'.getD j b2) (RH.valsArr vs a1) (RH.valsArr vs' a2)
   have e1:(List.toArray is).size=ts.length:=by simp; lia
   have e2:(List.toArray is').size=us.length:=by simp; lia
   have q1:=RcAt.tuples (A:=A) (s:=s) (e:=qhs ts us) pl pl' hA it
   have q2:=RcNeAt.tuples (A:=A) (s:=s) (e:=qhs ts us) pl pl' hA it
   rw[e1,e2] at q1 q2
   exact ⟨q1,q2⟩
end
end PL
end
section
namespace PL
open PySem L2
def qbi:T→T→Rs T
 | .int i,.int j=>.ok (.int (i+j))
 | .str x,.str y=>if x.length+y.length≤1000 then .ok (.str (x++y)) else .no
 | .lst xs,.lst ys=>if xs.length+ys.length≤1000 then .ok (.lst (xs++ys)) else .no
 | .tup (x::xs),.tup (y::ys)=>if (x::xs).length+(y::ys).length≤1000 then .ok (.tup ((x::xs)++(y::ys))) else .no
 | _,_=>.no
def gSub:T→T→Rs T
 | .int i,.int j=>.ok (.int (i - j))
 | _,_=>.no
def qll:T→T→Rs T
 | .int i,.int j=>if (-1000000≤i∧i≤1000000)∨(-1000000≤j∧j≤1000000) then .ok (.int (i*j)) else .no
 | _,_=>.no
def quM:T→T→Rs T
 | .int i,.int j=>if 0<j∧j<1073741824 then .ok (.int (i / j)) else .no
 | _,_=>.no
def qoS:T→T→Rs T
 | .int i,.int j=>if 0<j then .ok (.int (i % j)) else .no
 | _,_=>.no
def qtq:T→Rs T
 | .int i=>.ok (.int (-i))
 | _=>.no
def qpe (x y:Str):Bool:=decide (x.cps.toList<y.cps.toList)
def gLt:T→T→Rs T
 | .int i,.int j=>.ok (.bl (decide (i<j)))
 | .str x,.str y=>.ok (.bl (qpe x y))
 | _,_=>.no
def gLe:T→T→Rs T
 | .int i,.int j=>.ok (.bl (decide (i≤j)))
 | .str x,.str y=>.ok (.bl (!qpe y x))
 | _,_=>.no
def gGt:T→T→Rs T
 | .int i,.int j=>.ok (.bl (decide (j<i)))
 | _,_=>.no
def gGe:T→T→Rs T
 | .int i,.int j=>.ok (.bl (decide (j≤i)))
 | _,_=>.no
def gEq (a b:T):Rs T:=if okT 8 a=true∧okT 8 b=true then .ok (.bl (eqT a b)) else .no
def gNe (a b:T):Rs T:=if okT 8 a=true∧okT 8 b=true then .ok (.bl (!eqT a b)) else .no
def gIx:T→T→Rs T
 | .lst ts,.int k=>(match atI ts k with | some t=>.ok t | none=>.no)
 | .tup ts,.int k=>(match atI ts k with | some t=>.ok t | none=>.no)
 | .str z,.int k=>if z.length≤1000 then (match atI z.cps.toList k with | some c=>.ok (.str ⟨#[c]⟩) | none=>.no) else .no
 | _,_=>.no
def gIs:T→T→Rs T
 | x,.non=>(match x with | .non=>.ok (.bl true) | .dct _=>.no | .scr _=>.no | _=>.ok (.bl false))
 | .bl a,.bl b=>.ok (.bl (a==b))
 | _,_=>.no
def qqo:T→T→Rs T
 | x,.non=>(match x with | .non=>.ok (.bl false) | .dct _=>.no | .scr _=>.no | _=>.ok (.bl true))
 | .bl a,.bl b=>.ok (.bl (a != b))
 | _,_=>.no
theorem Rep.sq {K:PySem.W.Frag} {B:Hp} {ts:List T} {v:V} (r:Rep K B (.lst ts) v): ∃p vs,v= .ref p∧B p=some (.lst vs)∧qaE K B ts vs:=qbl r
section
variable {M:Md} {X:Cx}
def qpA (K:PySem.W.Frag):R2:=fun x y H Q=>(rI0 (fun i j=>.int (i+j)) x y H Q∨(∃i j,x= .str i∧y= .str j∧i.length+j.length≤sizeLine∧Q (.str (i++j)) H))∨(qtj x y H Q∨qpz K x y H Q)
theorem qav:OpR X (binaryOp .Add) (qpA X.K):=(qfL.or qiu).or (qm7.or qn2)
theorem qaH:Pl qbi:=fun a b c e=>by unfold qbi at e; split at e<;>first | cases e | (split at e<;>cases e)
theorem qaG (hK:X.K=M.K:=by rfl):RS M (qpA X.K) qbi:=by
 intro H B x y a b c Q le bt m ra rb e k
 have same: ∀{t:T} {v:V},(∀B,Rep M.K B t v)→c=t→Q v H:=fun r ec=>by subst ec; exact k _ H B (.refl le bt) m (r B)
 unfold qbi at e
 split at e
 ·cases e
  rw[qaq ra,qaq rb]
  exact .inl (.inl ⟨_,_,rfl,rfl,same (fun B=>qbs) rfl⟩)
 ·split at e
  ·rename_i hz
   cases e
   rw[qaD ra,qaD rb]
   exact .inl (.inr ⟨_,_,rfl,rfl,Nat.le_of_lt (qbh hz),same (fun B=>qhz) rfl⟩)
  ·cases e
 ·split at e
  ·rename_i xs ys hz
   cases e
   obtain ⟨p,us,rfl,hp,r1⟩:=qbl ra
   obtain ⟨q,ws,rfl,hq,r2⟩:=qbl rb
   refine .inr (.inl ⟨p,q,us,ws,rfl,rfl,le _ _ hp,le _ _ hq,Nat.le_of_lt (qbh (by rw[r1.length,r2.length]; exact hz)),fun d hd=> ?_⟩)
   have g:=qa4.new (o:=HO.lst (us++ws)) le bt hd (by intro ps z; cases z)
   exact k _ _ _ g (M.G.st H _ (fun a o e _ _ _ _=>by rw[qaj (qap e hd)]; exact e) m) (qp3 qan ((r1.append r2).mono g.bb))
  ·cases e
 ·split at e
  ·rename_i x xs y ys hz
   cases e
   obtain ⟨p,us,rfl,hp,r1⟩:=qaZ ra
   obtain ⟨q,ws,rfl,hq,r2⟩:=qaZ rb
   have l1:=r1.length
   have l2:=r2.length
   refine .inr (.inr ⟨p,q,us,ws,rfl,rfl,by rw[hK]; exact le.sqT hp,by rw[hK]; exact le.sqT hq,(fun z=>by rw[z] at l1; cases l1),Nat.le_of_lt (qbh (by lia)),(fun z=>by rw[z] at l2; cases l2),fun _ d hd=> ?_⟩)
   have g:=qa4.new (o:=HO.tup (us++ws)) le bt hd (by intro ps z; cases z)
   exact k _ _ _ g (M.G.st H _ (fun a o e _ _ _ _=>by rw[qaj (qap e hd)]; exact e) m) (qm9 (SqT.of qan) ((r1.append r2).mono g.bb))
  ·cases e
 ·cases e
theorem qev:RS M (rI0 fun i j=>.int (i - j)) gSub:=by
 intro H B x y a b c Q le bt m ra rb e k
 unfold gSub at e
 split at e
 ·cases e
  exact ⟨_,_,qaq ra,qaq rb,k _ H B (.refl le bt) m qbs⟩
 ·cases e
theorem qey:Pl gSub:=fun a b c e=>by unfold gSub at e; split at e<;>cases e
theorem qjt:RS M (rI qrd fun i j=>.int (i*j)) qll:=by
 intro H B x y a b c Q le bt m ra rb e k
 unfold qll at e
 split at e
 ·split at e
  ·rename_i h
   cases e
   refine ⟨_,_,qaq ra,qaq rb,?_,k _ H B (.refl le bt) m qbs⟩
   rcases h with h | h
   ·exact .inl ⟨by lia,by lia⟩
   ·exact .inr ⟨by lia,by lia⟩
  ·cases e
 ·cases e
theorem qjI:Pl qll:=fun a b c e=>by unfold qll at e; split at e<;>first | cases e | (split at e<;>cases e)
theorem qpu:RS M (rI (fun _ j=>0<j) fun i j=>.int (i % j)) qoS:=by
 intro H B x y a b c Q le bt m ra rb e k
 unfold qoS at e
 split at e
 ·split at e
  ·rename_i h
   cases e
   exact ⟨_,_,qaq ra,qaq rb,h,k _ H B (.refl le bt) m qbs⟩
  ·cases e
 ·cases e
theorem qpJ:Pl qoS:=fun a b c e=>by unfold qoS at e; split at e<;>first | cases e | (split at e<;>cases e)
theorem qnZ:OpR X (compareOp .Lt) (fun x y H Q=>rI0 (fun i j=>.bl (decide (i<j))) x y H Q∨∃i j,x= .str i∧y= .str j∧Q (.bl (decide (i.cps.toList<j.cps.toList))) H):=qpV.or qjO
theorem qrZ:RS M (fun x y H Q=>rI0 (fun i j=>.bl (decide (i<j))) x y H Q∨∃i j,x= .str i∧y= .str j∧Q (.bl (decide (i.cps.toList<j.cps.toList))) H) gLt:=by
 intro H B x y a b c Q le bt m ra rb e k
 unfold gLt at e
 split at e
 ·cases e; exact .inl ⟨_,_,qaq ra,qaq rb,k _ H B (.refl le bt) m qcR⟩
 ·cases e; exact .inr ⟨_,_,qaD ra,qaD rb,k _ H B (.refl le bt) m qcR⟩
 ·cases e
theorem qr6:Pl gLt:=fun a b c e=>by unfold gLt at e; split at e<;>cases e
theorem qbP:OpR X (compareOp .LtE) (fun x y H Q=>rI0 (fun i j=>.bl (decide (i≤j))) x y H Q∨∃i j,x= .str i∧y= .str j∧Q (.bl (!decide (j.cps.toList<i.cps.toList))) H):=qse.or qjP
theorem qdz:RS M (fun x y H Q=>rI0 (fun i j=>.bl (decide (i≤j))) x y H Q∨∃i j,x= .str i∧y= .str j∧Q (.bl (!decide (j.cps.toList<i.cps.toList))) H) gLe:=by
 intro H B x y a b c Q le bt m ra rb e k
 unfold gLe at e
 split at e
 ·cases e; exact .inl ⟨_,_,qaq ra,qaq rb,k _ H B (.refl le bt) m qcR⟩
 ·cases e; exact .inr ⟨_,_,qaD ra,qaD rb,k _ H B (.refl le bt) m qcR⟩
 ·cases e
theorem qdA:Pl gLe:=fun a b c e=>by unfold gLe at e; split at e<;>cases e
theorem qnI:RS M (rI0 fun i j=>.bl (decide (j<i))) gGt:=by
 intro H B x y a b c Q le bt m ra rb e k
 unfold gGt at e
 split at e
 ·cases e; exact ⟨_,_,qaq ra,qaq rb,k _ H B (.refl le bt) m qcR⟩
 ·cases e
theorem qnS:Pl gGt:=fun a b c e=>by unfold gGt at e; split at e<;>cases e
def qq0 (K:PySem.W.Frag) (neg:Bool):R2:=fun x y H Q=> ∃B t u,Le B H∧Rep K B t x∧Rep K B u y∧okT 8 t=true∧okT 8 u=true∧Q (.bl (if neg then !eqT t u else eqT t u)) H
theorem qhy (hu:X.A.units+8<cLine):OpR X (compareOp .Eq) (qq0 X.K false):=by
 intro pins s σ H x y v u Q I rx ry hq181
 obtain ⟨B,t,u',le,ra,rb,o1,o2,q⟩:=hq181
 exact (qm5 I le 8 X.A t u' x y v u o1 o2 hu ra rb rx ry).1 _ _ _ _ ⟨.bl _,H,I,rfl,q⟩
theorem op_neT (hu:X.A.units+8<cLine):OpR X (compareOp .NotEq) (qq0 X.K true):=by
 intro pins s σ H x y v u Q I rx ry hq184
 obtain ⟨B,t,u',le,ra,rb,o1,o2,q⟩:=hq184
 exact (qm5 I le 8 X.A t u' x y v u o1 o2 hu ra rb rx ry).2 _ _ _ _ ⟨.bl _,H,I,rfl,q⟩
theorem qlI (hK:X.K=M.K:=by rfl):RS M (qq0 X.K false) gEq:=by
 intro H B x y a b c Q le bt m ra rb e k
 unfold gEq at e
 split at e
 ·rename_i h
  cases e
  exact ⟨B,a,b,le,by rw[hK]; exact ra,by rw[hK]; exact rb,h.1,h.2,k _ H B (.refl le bt) m qcR⟩
 ·cases e
theorem qlO:Pl gEq:=fun a b c e=>by unfold gEq at e; split at e<;>cases e
theorem qdS (hK:X.K=M.K:=by rfl):RS M (qq0 X.K true) gNe:=by
 intro H B x y a b c Q le bt m ra rb e k
 unfold gNe at e
 split at e
 ·rename_i h
  cases e
  exact ⟨B,a,b,le,by rw[hK]; exact ra,by rw[hK]; exact rb,h.1,h.2,k _ H B (.refl le bt) m qcR⟩
 ·cases e
theorem qdY:Pl gNe:=fun a b c e=>by unfold gNe at e; split at e<;>cases e
theorem qmi {K:PySem.W.Frag} {B:Hp} {t:T} {v:V} (r:Rep K B t v):(match t with | .non=>v= .non | .dct _=>True | .scr _=>True | _=>v≠.non):=by
 cases t with
 | non=>exact qbk r
 | bl _=>have:=qa8 r; subst this; exact fun z=>by cases z
 | int _=>have:=qaq r; subst this; exact fun z=>by cases z
 | str _=>have:=qaD r; subst this; exact fun z=>by cases z
 | tup _=>obtain ⟨_,_,e,_⟩:=qaZ r; subst e; exact fun z=>by cases z
 | lst _=>obtain ⟨_,_,e,_⟩:=qbl r; subst e; exact fun z=>by cases z
 | dct _=>trivial
 | scr _=>trivial
theorem qpW:OpR X (compareOp .Is) (fun x y H Q=>(y= .non∧Q (.bl (decide (x= .non))) H)∨∃c d,x= .bl c∧y= .bl d∧Q (.bl (c==d)) H):=qpX.or ql1
theorem qr0:RS M (fun x y H Q=>(y= .non∧Q (.bl (decide (x= .non))) H)∨∃c d,x= .bl c∧y= .bl d∧Q (.bl (c==d)) H) gIs:=by
 intro H B x y a b c Q le bt m ra rb e k
 have kk:=qmi ra
 have fin: ∀z:Bool,c= .bl z→Q (.bl z) H:=fun z ec=>by subst ec; exact k _ H B (.refl le bt) m qcR
 unfold gIs at e
 split at e
 ·refine .inl ⟨qbk rb,?_⟩
  split at e
  ·have kk:x= .non:=kk
   cases e; subst kk; exact fin true rfl
  ·cases e
  ·cases e
  ·rename_i h1 h2 h3
   cases e
   have:x≠.non:=by
    cases a with
    | non=>exact absurd rfl h1
    | dct z=>exact absurd rfl (h2 z)
    | scr z=>exact absurd rfl (h3 z)
    | _=>exact kk
   rw[decide_eq_false this]; exact fin false rfl
 ·cases e
  exact .inr ⟨_,_,qa8 ra,qa8 rb,fin _ rfl⟩
 ·cases e
theorem qr7:Pl gIs:=fun a b c e=>by
 unfold gIs at e
 split at e
 ·split at e<;>cases e
 ·cases e
 ·cases e
theorem qeY {K:PySem.W.Frag} {B:Hp} {ts:List T} {vs:List V} {k:Int} {t:T} (r:qaE K B ts vs) (e:atI ts k=some t): ∃v,atI vs k=some v∧Rep K B t v:=by
 unfold atI at e⊢
 rw[r.length]
 cases q:ixN ts.length k with
 | none=>rw[q] at e; cases e
 | some j=>rw[q] at e; exact r.get e
theorem qaY (hK:X.K=M.K:=by rfl):RS M (rIx X.K) gIx:=by
 intro H B x y a b c Q le bt m ra rb e k
 unfold gIx at e
 split at e
 ·split at e
  ·rename_i ts i t et
   cases e
   obtain ⟨p,vs,rfl,hp,r⟩:=qbl ra
   obtain ⟨v,ev,rv⟩:=qeY r et
   exact .inl ⟨p,vs,_,v,rfl,qaq rb,SqL.of (le _ _ hp),ev,k _ H B (.refl le bt) m rv⟩
  ·cases e
 ·split at e
  ·rename_i ts i t et
   cases e
   obtain ⟨p,vs,rfl,hp,r⟩:=qaZ ra
   obtain ⟨v,ev,rv⟩:=qeY r et
   exact .inr (.inl ⟨p,vs,_,v,rfl,qaq rb,by rw[hK]; exact le.sqT hp,ev,k _ H B (.refl le bt) m rv⟩)
  ·cases e
 ·split at e
  ·rename_i hz
   split at e
   ·rename_i ch ec
    cases e
    exact .inr (.inr ⟨_,_,ch,qaD ra,qaq rb,Nat.le_of_lt (qbh hz),ec,k _ H B (.refl le bt) m qhz⟩)
   ·cases e
  ·cases e
 ·cases e
theorem qa0:Pl gIx:=fun a b c e=>by
 unfold gIx at e
 split at e
 ·split at e<;>cases e
 ·split at e<;>cases e
 ·split at e
  ·split at e<;>cases e
  ·cases e
 ·cases e
end
end PL
end
section
namespace PL
open PySem L2
theorem PO.weak {X:Cx} {e:Option Expr} {t t':TO} (h:PO X e t) (w: ∀σ H Q,t' σ H Q→t σ H Q):PO X e t':=fun pins s σ H Q I q=>h pins s σ H Q I (w σ H Q q)
def qhh (M:Md) (H B:Hp) (q:Bool×List T) (p:Addr) (vs:List V):Prop:=if q.1=true then H p=some (.lst vs) else SqT M.K B p vs
theorem qhh.grow {M:Md} {H B H' B':Hp} {q:Bool×List T} {p:Addr} {vs:List V} (h:qhh M H B q p vs) (g:qa4 H B H' B'):qhh M H' B' q p vs:=by
 unfold qhh at h⊢
 by_cases c:q.1=true
 ·rw[if_pos c] at h⊢
  exact g.gx.hh _ _ h (by intro ps z; cases z)
 ·rw[if_neg c] at h⊢
  exact g.bb.sqT h
theorem qhh.seq {M:Md} {X:Cx} {H B:Hp} {q:Bool×List T} {p:Addr} {vs:List V} (h:qhh M H B q p vs) (le:Le B H) (hK:X.K=M.K):SqL X.K H p vs∨SqT X.K H p vs:=by
 unfold qhh at h
 split at h
 ·exact .inl (SqL.of h)
 ·exact .inr (by rw[hK]; exact le.sqT h)
section
variable {M:Md} {X:Cx} {e a b:Expr} {pos p2:Pos} {da db:Ro→Rs T} {dq:Ro→Rs (Bool×List T)} {lo hi:Option Expr} {dl dh:Ro→Rs (Option Int)}
def dCQ (g:Bool×List T→Rs T) (dq:Ro→Rs (Bool×List T)):Ro→Rs T:=fun ρ=>dq ρ>>=g
def qlm (g:Bool×List T→Rs (List T)) (dq:Ro→Rs (Bool×List T)):Ro→Rs (List T):=fun ρ=>dq ρ>>=g
theorem qf6 {r:List V→Hp→VK→Prop} {g:Bool×List T→Rs T} (h:PE X e (tCB r (qcp (tQ M dq) qhk)))
  (hs: ∀(H B:Hp) (p:Addr) (vs:List V) (q:Bool×List T) (c:T) (Q:VK),Le B H→(∀a ps,B a≠some (.tbl ps))→M.G.P H→qhh M H B q p vs→qaE M.K B q.2 vs→g q= .ok c→(∀v H' B',qa4 H B H' B'→M.G.P H'→Rep M.K B' c v→Q v H')→r [.ref p] H Q)
  (hp: ∀q c,g q≠.ex c):DE M X e (dCQ g dq):=by
 refine PE.weak h fun σ H Q hq30=> ?_
 obtain ⟨H0,B0,ρ,B,ev,w⟩:=hq30
 refine tQ.of ev (Wnt.mono (Wnt.bind (qaJ.mp w)) fun q w1 p vs H1 B1 g1 m1 hq r1=> ?_)
 have ev1:=ev.grow g1 m1
 cases z:g q with
 | no=>rw[z] at w1; exact w1.elim
 | ex c=>exact absurd z (hp q c)
 | ok c=>
  rw[z] at w1
  exact hs H1 B1 p vs q c Q ev1.bh ev1.bt m1 hq r1 z fun v H' B' g' m' r'=>w1 v H' B' (g1.trans g') m' r'
theorem qqw {r:List V→Hp→VK→Prop} {g:Bool×List T→Rs (List T)} (h:PE X e (tCB r (qcp (tQ M dq) qhk)))
  (hs: ∀(H B:Hp) (p:Addr) (vs:List V) (q:Bool×List T) (c:List T) (Q:VK),Le B H→(∀a ps,B a≠some (.tbl ps))→M.G.P H→qhh M H B q p vs→qaE M.K B q.2 vs→g q= .ok c→(∀p' ws H' B',qa4 H B H' B'→M.G.P H'→H p'=none→B' p'=none→H' p'=some (.lst ws)→qaE M.K B' c ws→Q (.ref p') H')→r [.ref p] H Q)
  (hp: ∀q c,g q≠.ex c):DF M X e (qlm g dq):=by
 refine PE.weak h fun σ H Q hq42=> ?_
 obtain ⟨H0,B0,ρ,B,ev,w⟩:=hq42
 refine tQ.of ev (Wnt.mono (Wnt.bind (qbL.mp w)) fun q w1 p vs H1 B1 g1 m1 hq r1=> ?_)
 have ev1:=ev.grow g1 m1
 cases z:g q with
 | no=>rw[z] at w1; exact w1.elim
 | ex c=>exact absurd z (hp q c)
 | ok c=>
  rw[z] at w1
  exact hs H1 B1 p vs q c Q ev1.bh ev1.bt m1 hq r1 z fun p' ws H' B' g' m' n1 n2 n3 r'=>w1 p' ws H' B' (g1.trans g') m' (qbD g1.gx n1) n2 n3 r'
theorem qcd {H B:Hp} {p:Addr} {ws:List V} (le:Le B H) (bt: ∀a ps,B a≠some (.tbl ps)) (m:M.G.P H) (hp:H p=none):qa4 H B (upd H p (.lst ws)) B∧M.G.P (upd H p (.lst ws))∧B p=none:=
 ⟨.own le bt hp,M.G.st H _ (fun a o e _ _ _ _=>by rw[qaj (qap e hp)]; exact e) m,by
  cases q:B p with
  | none=>rfl
  | some u=>rw[le _ _ q] at hp; cases hp⟩
def qoP:Bool×List T→Rs T:=fun q=>.ok (.int q.2.length)
theorem qqA (h:PE X e (tCB (fun xs H Q=> ∃p ys,xs=[.ref p]∧(SqL X.K H p ys∨SqT X.K H p ys)∧Q (.int ys.length) H) (qcp (tQ M dq) qhk))) (hK:X.K=M.K:=by rfl):DE M X e (dCQ qoP dq):=
 qf6 h (fun H B p vs q c Q le bt m hq r e k=>by
  cases e
  exact ⟨p,vs,rfl,hq.seq le hK,by rw[r.length]; exact k _ H B (.refl le bt) m qbs⟩) (fun q c e=>by cases e)
def qtp:Bool×List T→Rs (List T):=fun q=>.ok q.2
def qtb:Bool×List T→Rs T:=fun q=>.ok (.tup q.2)
def qoy (dp dq:Ro→Rs (Bool×List T)):Ro→Rs (List T):=fun ρ=>dp ρ>>=fun x=>dq ρ>>=fun y=>if (x.1=true∧y.1=true)∧x.2.length+y.2.length≤1000 then .ok (x.2++y.2) else .no
theorem qnh {dp:Ro→Rs (Bool×List T)} (ha:DQ M X a dp) (hb:DQ M X b dq):DF M X (.BinOp a .Add b pos) (qoy dp dq):=by
 refine PE.weak (qcQ qm7 ha hb) fun σ H Q hq81=> ?_
 obtain ⟨H0,B0,ρ,B,ev,w⟩:=hq81
 refine tQ.of ev (Wnt.mono (Wnt.bind (qbL.mp w)) fun x w1 p vs H1 B1 g1 m1 hx r1=> ?_)
 have ev1:=ev.grow g1 m1
 refine tQ.of ev1 (Wnt.mono (Wnt.bind w1) fun y w2 p' vs' H2 B2 g2 m2 hy r2=> ?_)
 have ev2:=ev1.grow g2 m2
 split at w2
 ·rename_i hc
  rw[if_pos hc.1.1] at hx
  rw[if_pos hc.1.2] at hy
  refine ⟨p,p',vs,vs',rfl,rfl,g2.gx.hh _ _ hx (by intro ps z; cases z),hy,Nat.le_of_lt (qbh (by rw[r1.length,r2.length]; exact hc.2)),fun l hl=> ?_⟩
  obtain ⟨g,m',bp⟩:=qcd (M:=M) (ws:=vs++vs') ev2.bh ev2.bt m2 hl
  exact w2 l _ _ B2 ((g1.trans g2).trans g) m' (qbD (g1.trans g2).gx hl) bp qan ((r1.mono g2.bb).append r2)
 ·exact w2.elim
def ixQ (q:Bool×List T):T→Rs T
 | .int k=>(match atI q.2 k with | some t=>.ok t | none=>.no)
 | _=>.no
def qno (dq:Ro→Rs (Bool×List T)) (db:Ro→Rs T):Ro→Rs T:=fun ρ=>dq ρ>>=fun q=>db ρ>>=fun k=>ixQ q k
theorem qnl (ha:DQ M X a dq) (hb:DE M X b db) (hs:qhg b) (hK:X.K=M.K:=by rfl):DE M X (.Subscript a b pos) (qno dq db):=by
 refine PE.weak (qlV qaB ha hb hs) fun σ H Q hq100=> ?_
 obtain ⟨H0,B0,ρ,B,ev,w⟩:=hq100
 refine tQ.of ev (Wnt.mono (Wnt.bind (qaJ.mp w)) fun q w1 p vs H1 B1 g1 m1 hx r1=> ?_)
 have ev1:=ev.grow g1 m1
 refine tP.of ev1 (Wnt.mono (Wnt.bind w1) fun y w2 v H2 B2 g2 m2 r2=> ?_)
 cases y with
 | int k=>
  have e1:=qaq r2
  subst e1
  unfold ixQ at w2
  dsimp only at w2
  split at w2
  ·rename_i t et
   obtain ⟨u,eu,ru⟩:=qeY (r1.mono g2.bb) et
   have w3:=w2 u H2 B2 (g1.trans g2) m2 ru
   rcases (qhh.grow (M:=M) hx g2).seq (ev1.grow g2 m2).bh hK with h | h
   ·exact .inl ⟨p,vs,k,u,rfl,rfl,h,eu,w3⟩
   ·exact .inr (.inl ⟨p,vs,k,u,rfl,rfl,h,eu,w3⟩)
  ·exact w2.elim
 | _=>exact w2.elim
def tPO (M:Md) (d:Ro→Rs (Option Int)):TO:=fun σ H Q=> ∃H0 B0 ρ B,Ev M H0 B0 ρ σ H B∧Wnt M H0 (fun o=> ∀H' B',qa4 H B H' B'→M.G.P H'→Q o H') (d ρ)
abbrev DO (M:Md) (X:Cx) (e:Option Expr) (d:Ro→Rs (Option Int)):Prop:=PO X e (tPO M d)
def dON:Ro→Rs (Option Int):=fun _=>.ok none
def dOS (da:Ro→Rs T):Ro→Rs (Option Int):=fun ρ=>da ρ>>=fun t=>match t with | .int i=>.ok (some i) | _=>.no
theorem qd8:DO M X none dON:=PO.weak qnR fun σ H Q ⟨H0,B0,ρ,B,ev,w⟩=>w H B (.refl ev.bh ev.bt) ev.gm
theorem qd7 (h:DE M X e da):DO M X (some e) (dOS da):=PO.weak (qnQ h) fun σ H Q ⟨H0,B0,ρ,B,ev,w⟩=>tP.of ev (Wnt.mono (Wnt.bind w) fun t w1 v H1 B1 g1 m1 r1=>by
 cases t with
 | int i=>exact ⟨i,qaq r1,w1 H1 B1 g1 m1⟩
 | _=>exact w1.elim)
def qoW (ts:List T) (lo hi:Option Int):List T:=(ts.drop (HT.sIx ts.length 0 lo)).take (HT.sIx ts.length ts.length hi - HT.sIx ts.length 0 lo)
theorem qhp {K:PySem.W.Frag} {B:Hp} {ts:List T} {vs:List V} (r:qaE K B ts vs) (lo hi:Option Int):qaE K B (qoW ts lo hi) (qkU vs lo hi):=by
 unfold qoW qkU
 rw[r.length]
 exact (r.drop _).take _
def qi7 (dq:Ro→Rs (Bool×List T)) (dl dh:Ro→Rs (Option Int)):Ro→Rs (List T):=fun ρ=>dq ρ>>=fun q=>dl ρ>>=fun l=>dh ρ>>=fun h=>if q.1=true then .ok (qoW q.2 l h) else .no
theorem qfj (ha:DQ M X a dq) (hl:DO M X lo dl) (hh:DO M X hi dh):DF M X (.Subscript a (.Slice lo hi none p2) pos) (qi7 dq dl dh):=by
 refine PE.weak (qhv qnD ha hl hh) fun σ H Q hq136=> ?_
 obtain ⟨H0,B0,ρ,B,ev,w⟩:=hq136
 refine tQ.of ev (Wnt.mono (Wnt.bind (qbL.mp w)) fun q w1 p vs H1 B1 g1 m1 hx r1=> ?_)
 have ev1:=ev.grow g1 m1
 refine ⟨H0,B0,ρ,B1,ev1,Wnt.mono (Wnt.bind w1) fun l w2 H2 B2 g2 m2=> ?_⟩
 have ev2:=ev1.grow g2 m2
 refine ⟨H0,B0,ρ,B2,ev2,Wnt.mono (Wnt.bind w2) fun h w3 H3 B3 g3 m3=> ?_⟩
 have ev3:=ev2.grow g3 m3
 split at w3
 ·rename_i hc
  rw[if_pos hc] at hx
  refine ⟨p,vs,rfl,SqL.of (g3.gx.hh _ _ (g2.gx.hh _ _ hx (by intro ps z; cases z)) (by intro ps z; cases z)),fun d hd=> ?_⟩
  obtain ⟨g,m',bp⟩:=qcd (M:=M) (ws:=qkU vs l h) ev3.bh ev3.bt m3 hd
  have gg:=(g1.trans g2).trans g3
  exact w3 d _ _ B3 (gg.trans g) m' (qbD gg.gx hd) bp qan (qhp ((r1.mono g2.bb).mono g3.bb) l h)
 ·exact w3.elim
def quJ (neg:Bool) (t:T) (q:Bool×List T):Rs T:=if okT 7 t=true∧q.2.all (okT 7)=true then .ok (.bl (if neg then !q.2.any (fun u=>eqT u t) else q.2.any (fun u=>eqT u t))) else .no
def dIn (neg:Bool) (da:Ro→Rs T) (dq:Ro→Rs (Bool×List T)):Ro→Rs T:=fun ρ=>da ρ>>=fun t=>dq ρ>>=fun q=>quJ neg t q
end
end PL
end
section
namespace SetL
open PySem
def Ri (xs:Array Nat):Prop:=xs.toList.Pairwise (· < ·)
theorem Ri.lt {xs:Array Nat} (h:Ri xs) {i j:Nat} (hij:i<j) (hj:j<xs.size):xs.getD i 0<xs.getD j 0:=by
 have:=List.pairwise_iff_getElem.mp h i j (by rw[Array.length_toList]; lia) (by rw[Array.length_toList]; lia) hij
 simpa [Array.getD,hj,show i<xs.size by lia] using this
theorem qoj {xs:Array Nat} {j:Nat} (h:Ri xs): ∀(fuel lo hi:Nat),lo≤hi→hi≤xs.size→hi - lo≤fuel→(∀i,i<lo→xs.getD i 0<j)→(∀i,hi≤i→i<xs.size→j≤xs.getD i 0)→
  SetTable.below.go xs j fuel lo hi≤xs.size∧(∀i,i<SetTable.below.go xs j fuel lo hi→xs.getD i 0<j)∧∀i,SetTable.below.go xs j fuel lo hi≤i→i<xs.size→j≤xs.getD i 0
 | 0,lo,hi,h1,h2,h3,a,b=>by
  unfold SetTable.below.go
  exact ⟨by lia,a,fun i hi'=>b i (by lia)⟩
 | fuel+1,lo,hi,h1,h2,h3,a,b=>by
  unfold SetTable.below.go
  by_cases c:lo<hi
  ·rw[if_pos c]
   dsimp only
   have hm:(lo+hi) / 2<xs.size:=by lia
   have em:xs.getD ((lo+hi) / 2) j=xs.getD ((lo+hi) / 2) 0:=by simp[Array.getD,hm]
   rw[em]
   by_cases d:xs.getD ((lo+hi) / 2) 0<j
   ·rw[if_pos d]
    refine qoj h fuel _ _ (by lia) h2 (by lia) (fun i hi'=> ?_) b
    by_cases e:i=(lo+hi) / 2
    ·rw[e]; exact d
    ·have:=h.lt (i:=i) (j:=(lo+hi) / 2) (by lia) hm
     lia
   ·rw[if_neg d]
    refine qoj h fuel _ _ (by lia) (by lia) (by lia) a fun i hi' hs=> ?_
    by_cases e:i=(lo+hi) / 2
    ·rw[e]; lia
    ·have:=h.lt (i:=(lo+hi) / 2) (j:=i) (by lia) hs
     lia
  ·rw[if_neg c]
   exact ⟨by lia,a,fun i hi'=>b i (by lia)⟩
theorem qfn {xs:Array Nat} (h:Ri xs) (j:Nat):SetTable.below xs j≤xs.size∧(∀i,i<SetTable.below xs j→xs.getD i 0<j)∧∀i,SetTable.below xs j≤i→i<xs.size→j≤xs.getD i 0:=
 qoj h _ _ _ (Nat.zero_le _) (Nat.le_refl _) (by lia) (fun i hi=>absurd hi (Nat.not_lt_zero _)) fun i hi hs=>absurd hs (by lia)
theorem qiW {xs:Array Nat} (h:Ri xs) {i:Nat} (hi:i<xs.size):SetTable.below xs (xs.getD i 0+1)=i+1:=by
 obtain ⟨b1,b2,b3⟩:=qfn h (xs.getD i 0+1)
 rcases Nat.lt_trichotomy (SetTable.below xs (xs.getD i 0+1)) (i+1) with c | c | c
 ·have:=b3 i (by lia) hi; lia
 ·exact c
 ·have:=b2 (i+1) c
  have:=h.lt (i:=i) (j:=i+1) (by lia) (by lia)
  lia
theorem qiV {xs:Array Nat} (h:Ri xs):SetTable.below xs 0=0:=by
 obtain ⟨b1,b2,b3⟩:=qfn h 0
 by_cases c:SetTable.below xs 0=0
 ·exact c
 ·have:=b2 0 (by lia); lia
theorem qgR {α:Type} (xs:Array α) (p:Nat) (x:α) (hp:p≤xs.size):(SetTable.insertAt xs p x).toList=xs.toList.take p++x::xs.toList.drop p:=by
 unfold SetTable.insertAt
 rw[Array.toList_append,Array.toList_push,Array.toList_extract,Array.toList_extract]
 simp[List.extract_eq_drop_take]
 exact List.take_of_length_le (by rw[List.length_drop,Array.length_toList]; exact Nat.le_refl _)
theorem qkn {xs:Array Nat} (h:Ri xs) {j:Nat} (hn:xs[SetTable.below xs j]? ≠some j):Ri (SetTable.insertAt xs (SetTable.below xs j) j):=by
 obtain ⟨b1,b2,b3⟩:=qfn h j
 unfold Ri
 rw[qgR _ _ _ b1]
 have g: ∀{i:Nat} (hi:i<xs.toList.length),xs.toList[i]=xs.getD i 0:=fun {i} hi=>by
  have:i<xs.size:=by rw[Array.length_toList] at hi; exact hi
  simp[Array.getD,this]
 have gt: ∀i,SetTable.below xs j≤i→i<xs.size→j<xs.getD i 0:=fun i h1 h2=>by
  have e0:=b3 i h1 h2
  by_cases c:i=SetTable.below xs j
  ·have:xs[SetTable.below xs j]? =some (xs.getD (SetTable.below xs j) 0):=by
    have hs:SetTable.below xs j<xs.size:=by lia
    simp[Array.getD,hs]
   rw[this] at hn
   subst c
   have:xs.getD (SetTable.below xs j) 0≠j:=fun z=>hn (by rw[z])
   lia
  ·have e1:=b3 (SetTable.below xs j) (Nat.le_refl _) (by lia)
   have:=h.lt (i:=SetTable.below xs j) (j:=i) (by lia) h2
   lia
 refine List.pairwise_append.mpr ⟨List.Pairwise.sublist (List.take_sublist _ _) h,List.pairwise_cons.mpr ⟨fun y hy=> ?_,List.Pairwise.sublist (List.drop_sublist _ _) h⟩,fun x hx y hy=> ?_⟩
 ·obtain ⟨k,hk,rfl⟩:=List.mem_iff_getElem.mp hy
  rw[List.getElem_drop,g]
  rw[List.length_drop,Array.length_toList] at hk
  exact gt _ (by lia) (by lia)
 ·obtain ⟨k,hk,rfl⟩:=List.mem_iff_getElem.mp hx
  rw[List.getElem_take,g]
  rw[List.length_take] at hk
  have a:=b2 k (by lia)
  rcases List.mem_cons.mp hy with z | z
  ·rw[z]; exact a
  ·obtain ⟨m,hm,rfl⟩:=List.mem_iff_getElem.mp z
   rw[List.getElem_drop,g]
   rw[List.length_drop,Array.length_toList] at hm
   have:=gt (SetTable.below xs j+m) (by lia) (by lia)
   lia
theorem qlJ (n:Nat):Ri (Array.range n):=by
 unfold Ri
 rw[Array.toList_range]
 exact List.pairwise_lt_range
def qdN (t:SetTable):Prop:=Ri t.place∧t.dummies= #[]
theorem qeC (a b:Nat) (l:Bool):qdN (.fresh a b l):=⟨List.Pairwise.nil,rfl⟩
theorem qcF (t:SetTable) (n:Nat):qdN (t.standIn n):=⟨qlJ n,rfl⟩
theorem qiv {t:SetTable} (h:qdN t) (b:Bool):qdN { t with plain:=b }:=h
theorem qkr (j:Nat):SetTable.has #[] j=false:=rfl
theorem qjg {t:SetTable} (h:qdN t) (j:Nat):t.slot j≠.dummy:=by
 unfold SetTable.slot
 dsimp only
 rw[h.2,qkr]
 split
 ·intro z; cases z
 ·rw[if_neg (by decide)]; intro z; cases z
theorem qhr {t:SetTable} (h:qdN t) (ha:Nat→Int) (x:Int): ∀(fuel:Nat) (p:SetTable.Probe) (j:Nat) (d:Option Nat),p.dummy=none→SetTable.probe.go t ha x fuel p=some (.empty j d)→d=none∧t.slot j= .empty
 | 0,p,j,d,hp,e=>by unfold SetTable.probe.go at e; cases e
 | fuel+1,p,j,d,hp,e=>by
  have adv:(t.advance p).dummy=none:=by
   unfold SetTable.advance
   split
   ·exact hp
   ·exact hp
  unfold SetTable.probe.go at e
  split at e
  ·rename_i es
   cases e
   exact ⟨hp,es⟩
  ·rename_i es
   exact absurd es (qjg h _)
  ·split at e
   ·cases e
   ·exact qhr h ha x fuel _ j d adv e
theorem qin {t:SetTable} {j:Nat} (h:t.slot j= .empty):t.place[SetTable.below t.place j]? ≠some j:=by
 intro z
 unfold SetTable.slot at h
 dsimp only at h
 rw[z,if_pos (by simp)] at h
 cases h
theorem ql4 {t:SetTable} (h:qdN t) {j:Nat} (hj:t.slot j= .empty):qdN (t.put j).1:=by
 unfold SetTable.put
 refine ⟨qkn h.1 (qin hj),?_⟩
 show (if SetTable.has t.dummies j=true then _ else t.dummies)= #[]
 rw[h.2,qkr,if_neg (by decide)]
theorem qfO {t:SetTable} (h:qdN t) (n:Nat):qdN (t.orStandIn n):=by
 unfold SetTable.orStandIn
 split
 ·exact h
 ·exact qcF _ _
theorem ql8 {t:SetTable} (h:qdN t) (es:Array (Int×Value)) (x:Int) (v:Value):qdN (layNew t es x v).2.1:=by
 unfold layNew
 split
 ·rename_i slot wd e
  unfold SetTable.freeSlot at e
  split at e
  ·rename_i j d e2
   obtain ⟨rfl,e3⟩:=qhr h _ _ _ _ j d rfl e2
   cases e
   exact qfO (ql4 h e3) _
  ·cases e
 ·exact qcF _ _
theorem qe7 (ow:Array (Option Nat)): ∀l:List Nat,l.Pairwise (· < ·)→((l.filterMap fun j=>(ow.getD j none).map (j, ·)).map (·.1)).Pairwise (· < ·)∧∀x∈((l.filterMap fun j=>(ow.getD j none).map (j, ·)).map (·.1)),x∈l
 | [],_=>⟨List.Pairwise.nil,fun _ h=>by cases h⟩
 | y::l,h=>by
  have h':=List.pairwise_cons.mp h
  obtain ⟨i1,i2⟩:=qe7 ow l h'.2
  cases e:ow.getD y none with
  | none=>
   rw[List.filterMap_cons,e]
   exact ⟨i1,fun x hx=>List.mem_cons_of_mem _ (i2 x hx)⟩
  | some k=>
   rw[List.filterMap_cons,e]
   dsimp only[Option.map]
   rw[List.map_cons]
   refine ⟨List.pairwise_cons.mpr ⟨fun x hx=>h'.1 x (i2 x hx),i1⟩,fun x hx=> ?_⟩
   rcases List.mem_cons.mp hx with z | z
   ·rw[z]; exact List.mem_cons_self
   ·exact List.mem_cons_of_mem _ (i2 x z)
theorem qgx {t t':SetTable} {hs:Array Int} {n:Nat} {o:Array Nat} (e:t.relaid hs n=some (t',o)):qdN t':=by
 unfold SetTable.relaid SetTable.laid at e
 cases q:SetTable.layClean (SetTable.sizeAbove n - 1) hs with
 | none=>rw[q] at e; cases e
 | some ow=>
  rw[q] at e
  have e':=Option.some.inj e
  have e1:=(Prod.mk.inj e').1
  subst e1
  exact ⟨(qe7 ow _ List.pairwise_lt_range).1,rfl⟩
theorem qiq (t:SetTable) (es:Array (Int×Value)) (n:Nat):qdN (relayAll t es n).2.1:=by
 unfold relayAll
 split
 ·rename_i t' o e
  dsimp only
  split
  ·exact qgx e
  ·exact qcF _ _
 ·exact qcF _ _
end SetL
end
section
namespace SetL
open PySem
theorem qgE {t:SetTable} {n:Nat}:(t.orStandIn n).led=t.led:=by
 unfold SetTable.orStandIn
 split<;>rfl
theorem qoc {t:SetTable} {es:Array (Int×Value)} {h:Int} {x:Value}:(layNew t es h x).2.1.led=t.led:=by
 unfold layNew
 split
 ·exact qgE
 ·rfl
theorem qir {t t':SetTable} {hs:Array Int} {n:Nat} {o:Array Nat} (e:t.relaid hs n=some (t',o)):t'.led=t.led:=by
 unfold SetTable.relaid SetTable.laid at e
 cases q:SetTable.layClean (SetTable.sizeAbove n - 1) hs with
 | none=>rw[q] at e; cases e
 | some ow=>
  rw[q] at e
  have e':=Option.some.inj e
  exact (congrArg (fun p:SetTable×Array Nat=>p.1.led) e').symm
theorem qjy {t:SetTable} {es:Array (Int×Value)} {n:Nat}:(relayAll t es n).2.1.led=t.led:=by
 unfold relayAll
 split
 ·rename_i t' o e
  dsimp only
  split
  ·exact qir e
  ·rfl
 ·rfl
section
variable {prog:Program} {w:World} {K:Type} [DecidableEq K] (knd:KeyKind prog w K)
def qgo (h:Heap) (a:Addr) (S:K→Bool) (n:Nat):Prop:=
 ∃o es ep t,h.get? a=some o∧o.ExactSet∧o.data= .set es ep t∧ElemsOf knd es.toList∧(∀k,S k=true↔∃e∈es.toList,knd.is k e.2=true)∧es.size<scanBound∧t.fits es.size=true∧es.size=n∧qdN t∧t.led= !w.params.followText "set-order"
variable {knd} {A:Around} {E:Value→Shared→Prop} {s:Shared}
theorem qgo.keep {h h':Heap} {a:Addr} {S:K→Bool} {n:Nat} (x:qgo knd h a S n) (k: ∀o,h.get? a=some o→h'.get? a=some o):qgo knd h' a S n:=
 let ⟨o,es,ep,t,ho,r⟩:=x
 ⟨o,es,ep,t,k _ ho,r⟩
theorem qkt (b:Bool) {s₁:Shared} {Q':Unit→Shared→Prop} (hq:Q' () s₁):wpAny (model prog w) A (match b with | true=>rule "set.scan.the-table-gave-way" | false=>pure ()) Q' E s₁:=by
 cases b with
 | true=>exact wpAny_rule hq
 | false=>exact wpAny_pure hq
theorem qgr {a:Addr} {o:Obj} {es es':Array (Int×Value)} {ep:Nat} {t t':SetTable} {S':K→Bool} {Q:Unit→Shared→Prop} (ho:s.heap.get? a=some o) (hx:o.ExactSet) (hd:o.data= .set es ep t) (el:ElemsOf knd es'.toList)
  (me: ∀k,S' k=true↔∃e∈es'.toList,knd.is k e.2=true) (hb:es'.size<scanBound) (hf:t'.fits es'.size=true) (hp:qdN t') (hl:t'.led= !w.params.followText "set-order")
  (h: ∀h',Heap.SameBut a s.heap h'→h'.get? a=some { o with data:=.set es' (ep+1) t' }→qgo knd h' a S' es'.size→Q () { s with heap:=h' }):wpAny (model prog w) A (storeSet a es' t') Q E s:=by
 refine wpAny_storeSet_of ho hd ?_ (fits_of_scanBound hb)
 obtain ⟨g,_⟩:=SetOf_store (knd:=knd) ho hx hd el me hb hf
 exact h _ (Heap.SameBut.update s.heap a _) g ⟨_,es',ep+1,t',g,hx,rfl,el,me,hb,hf,rfl,hp,hl⟩
theorem qqQ {a:Addr} {S:K→Bool} {n:Nat} {k:K} {x:Value} {Q:Bool→Shared→Prop} (hk:knd.is k x=true) (hsc:x.scannable=true) (hS:qgo knd s.heap a S n) (room:n+1<scanBound)
  (h: ∀h',Heap.SameBut a s.heap h'→qgo knd h' a (fun k'=>S k'||decide (k'=k)) (if S k then n else n+1)→Q (!S k) { s with heap:=h' }):wpAny (model prog w) A (setAddHashed a x (knd.hash k)) Q E s:=by
 obtain ⟨o,es,ep,t,ho,hx,hd,el,me,hb,hf,hn,pl,ld⟩:=hS
 unfold setAddHashed setAddHashedIn
 refine wpAny_holding (wpAny_bind (wpAny_setState_of ho hd hf ?_))
 dsimp only
 rw[byScan_of hsc hb el,if_pos rfl]
 unfold setAddByScan
 refine wpAny_bind (wpAny_bind (wpAny_rule (wpAny_bind (wpAny_setScan_of hk ho hd hf el ?_))))
 cases fr:List.findIdx? (fun e=>knd.is k e.2) es.toList with
 | some j=>
  obtain ⟨hj,pj,_⟩:=List.findIdx?_eq_some_iff_getElem.mp fr
  have Sk:S k=true:=(me k).mpr ⟨_,List.getElem_mem hj,pj⟩
  refine wpAny_pure (wpAny_pure ?_)
  have z:=h s.heap (Heap.SameBut.refl a s.heap) ⟨o,es,ep,t,ho,hx,hd,el,fun k'=> ?_,hb,hf,by rw[if_pos Sk]; exact hn,pl,ld⟩
  ·rw[Sk] at z
   exact z
  ·rw[Bool.or_eq_true,decide_eq_true_eq,←me k']
   exact ⟨fun q=>q.elim id fun e=>by rw[e]; exact Sk,.inl⟩
 | none=>
  have Sk:S k=false:=by
   cases q:S k with
   | false=>rfl
   | true=>
    obtain ⟨e,he,p⟩:=(me k).mp q
    rw[List.findIdx?_eq_none_iff.mp fr e he] at p
    cases p
  have pm:=layNew_perm t es (knd.hash k) x
  have ft:=layNew_fits t es (knd.hash k) x
  have lp:=ql8 pl es (knd.hash k) x
  have ll:=qoc (es:=es) (h:=knd.hash k) (x:=x) (t:=t)
  generalize layNew t es (knd.hash k) x=L at pm ft lp ll⊢
  obtain ⟨es1,t1,wd,gv⟩:=L
  dsimp only at pm ft lp ll⊢
  rw[Array.toList_push] at pm
  have el1:ElemsOf knd es1.toList:=(el.push hk hsc).perm pm
  have me1:=mem_push_iff (S:=S) hk me pm
  have sz:es1.size=n+1:=by rw[←Array.length_toList,pm.length_eq,List.length_append,Array.length_toList,hn]; rfl
  refine wpAny_bind (qkt _ ?_)
  have go: ∀t2:SetTable,t2.fits es1.size=true→qdN t2→t2.led=(!w.params.followText "set-order")→wpAny (model prog w) A (do
    storeSet a es1 t2
    if (!wd&&t2.tooFull)=true then do
     (match (relayAll t2 es1 (SetTable.grown es1.size)).2.2 with | true=>rule "set.scan.the-table-gave-way" | false=>pure ())
     storeSet a (relayAll t2 es1 (SetTable.grown es1.size)).1 (relayAll t2 es1 (SetTable.grown es1.size)).2.1
     pure (some true)
    else pure (some true):Sem (Option Bool)) (fun r s'=> ∃h',s'={ s with heap:=h' }∧r=some true∧Q true { s with heap:=h' }) E s:=fun t2 f2 p2 l2=>by
   refine wpAny_bind (qgr (knd:=knd) (S':=fun k'=>S k'||decide (k'=k)) ho hx hd el1 me1 (by lia) f2 p2 l2 fun h1 sb g1 S1=> ?_)
   split
   ·have pm2:=relayAll_perm t2 es1 (SetTable.grown es1.size)
    have ft2:=relayAll_fits t2 es1 (SetTable.grown es1.size)
    have rp:=qiq t2 es1 (SetTable.grown es1.size)
    have rl:=qjy (es:=es1) (n:=SetTable.grown es1.size) (t:=t2)
    generalize relayAll t2 es1 (SetTable.grown es1.size)=R at pm2 ft2 rp rl⊢
    obtain ⟨es2,t3,g2⟩:=R
    dsimp only at pm2 ft2 rp rl⊢
    have sz2:es2.size=es1.size:=by rw[←Array.length_toList,pm2.length_eq,Array.length_toList]
    refine wpAny_bind (qkt _ (wpAny_bind (qgr (knd:=knd) (S':=fun k'=>S k'||decide (k'=k)) (s:={ s with heap:=h1 }) g1 hx rfl (el1.perm pm2) (fun k'=>(me1 k').trans ⟨fun ⟨e,he,q⟩=>⟨e,pm2.mem_iff.mpr he,q⟩,fun ⟨e,he,q⟩=>⟨e,pm2.mem_iff.mp he,q⟩⟩) (by lia) ft2 rp (rl.trans l2) fun h2 sb2 _ S2=> ?_)))
    have z:=h h2 (sb.trans sb2) (by rw[Sk,if_neg (by decide)]; rw[sz2,sz] at S2; exact S2)
    rw[Sk] at z
    exact wpAny_pure ⟨h2,rfl,rfl,z⟩
   ·have z:=h h1 sb (by rw[Sk,if_neg (by decide)]; rw[sz] at S1; exact S1)
    rw[Sk] at z
    exact wpAny_pure ⟨h1,rfl,rfl,z⟩
  have both: ∀c:Bool,wpAny (model prog w) A (do
    let t2:SetTable:=if c=true then t1 else { t1 with plain:=false }
    storeSet a es1 t2
    if (!wd&&t2.tooFull)=true then do
     (match (relayAll t2 es1 (SetTable.grown es1.size)).2.2 with | true=>rule "set.scan.the-table-gave-way" | false=>pure ())
     storeSet a (relayAll t2 es1 (SetTable.grown es1.size)).1 (relayAll t2 es1 (SetTable.grown es1.size)).2.1
     pure (some true)
    else pure (some true):Sem (Option Bool)) (fun r s'=> ∃h',s'={ s with heap:=h' }∧r=some true∧Q true { s with heap:=h' }) E s:=fun c=>by
   cases c with
   | true=>exact go t1 ft lp (ll.trans ld)
   | false=>exact go { t1 with plain:=false } (SetTable.fits_plain_off ft) (qiv lp false) (ll.trans ld)
  by_cases tp:t1.plain=true
  ·rw[if_pos tp,hashByValue_scannable 8 hsc]
   refine wpAny_bind (wpAny_pure ?_)
   refine wpAny_mono (both (plainKind x)) (fun r s' ⟨h',e1,e2,q⟩=> ?_) fun _ _ z=>z
   subst e1 e2
   exact wpAny_pure q
  ·rw[if_neg tp]
   refine wpAny_bind (wpAny_pure ?_)
   refine wpAny_mono (both true) (fun r s' ⟨h',e1,e2,q⟩=> ?_) fun _ _ z=>z
   subst e1 e2
   exact wpAny_pure q
end
end SetL
end
section
namespace SetL
open PySem
theorem qkY {M:Model} {A:Around} {E:Value→Shared→Prop} {s:Shared} {src:Source} {n:Nat} {Q:Nat→Shared→Prop} (hn:n≠0) (h: ∀i d,i<n→Q i { s with drawn:=d }):wpAny M A (choose src n) Q E s:=
 fun Γ p hΓ=>⟨hn,h _ _ (Nat.mod_lt _ (Nat.pos_of_ne_zero hn))⟩
theorem qdi {α:Type}: ∀{xs:List α} {i:Nat} {x:α},xs[i]? =some x→List.Perm (x::xs.eraseIdx i) xs
 | [],i,x,h=>by simp at h
 | y::ys,0,x,h=>by
  simp at h; subst h
  exact List.Perm.refl _
 | y::ys,i+1,x,h=>by
  have:=qdi (xs:=ys) (i:=i) (x:=x) (by simpa using h)
  exact (List.Perm.swap y x _).trans (this.cons y)
theorem qg1 {M:Model} {A:Around} {E:Value→Shared→Prop} {α:Type}: ∀(n:Nat) (xs:List α) (s:Shared) (Q:List α→Shared→Prop),xs.length=n→(∀ys d,List.Perm ys xs→Q ys { s with drawn:=d })→wpAny M A (drawOrder n xs) Q E s
 | 0,xs,s,Q,hl,h=>by
  have e:xs=[]:=List.length_eq_zero_iff.mp hl
  subst e
  exact wpAny_pure (h [] s.drawn (List.Perm.refl _))
 | n+1,[],s,Q,hl,h=>by cases hl
 | n+1,x::xs,s,Q,hl,h=>by
  unfold drawOrder
  refine wpAny_bind (qkY (by simp) fun i d hi=> ?_)
  obtain ⟨y,hy⟩: ∃y,(x::xs)[i]? =some y:=⟨_,List.getElem?_eq_getElem hi⟩
  rw[hy]
  have hp:=qdi hy
  refine wpAny_bind (qg1 n _ _ _ ?_ fun ys d' pm=>wpAny_pure (h (y::ys) d' ((pm.cons y).trans hp)))
  have:=hp.length_eq
  simp only[List.length_cons] at this hl⊢
  lia
theorem qfI {α:Type} (next:Nat→Nat): ∀(fuel k:Nat) (left:List α) (out:Array α),left.length=fuel→List.Perm (pickOrder.go next fuel k left out).toList (out.toList++left)
 | 0,k,left,out,h=>by
  have e:left=[]:=List.length_eq_zero_iff.mp h
  subst e
  simp[pickOrder.go]
 | n+1,k,left,out,h=>by
  unfold pickOrder.go
  have hlt:next k % left.length<left.length:=Nat.mod_lt _ (by lia)
  rw[List.getElem?_eq_getElem hlt]
  dsimp only
  have hp:=qdi (List.getElem?_eq_getElem hlt)
  have hl:=hp.length_eq
  simp only[List.length_cons] at hl
  refine (qfI next n (k+1) _ _ (by lia)).trans ?_
  rw[Array.toList_push,List.append_assoc]
  exact List.Perm.append_left _ hp
theorem qcK {α:Type} (next:Nat→Nat) (xs:Array α):List.Perm (pickOrder next xs).toList xs.toList:=by
 unfold pickOrder
 have:=qfI next xs.size 0 xs.toList #[] (by simp)
 simpa using this
def qgQ (first:Value) (i:Nat) (a:Addr) (n ep:Nat):Obj:={ cls:=.type "set_iterator",data:=.fields #[first,rawInt i,.ref a,rawInt n,rawInt ep] }
inductive Way (w:World) (h:Heap) (a:Addr) (es:Array (Int×Value)) (ep:Nat) (t:SetTable):List Addr→(Nat→Value)→List Value→Prop
 | drawn {tp:Addr} {ot:Obj} {pl:List Nat} {k:Nat}:h.get? tp=some ot→ot.data= .seq (List.toArray (pl.map fun (i:Nat)=>rawInt i)) k→(∀i∈pl,i<es.size)→Way w h a es ep t [tp] (fun _=>.ref tp) (pl.map fun i=>(es.toList.map (·.2)).getD i .none)
 | text:w.params.followText "set-order" =true→Way w h a es ep t [] (fun _=>rawInt 0) ((pickOrder (w.params.setOrder a ep) es).toList.map (·.2))
 | small:w.params.followText "set-order" =false→(!t.plain&&decide (es.size>1))=false→t.led=true→qdN t→Way w h a es ep t [] (fun i=>if i=0 then rawInt 0 else rawInt (t.place.getD (i - 1) 0+1:Nat)) (es.toList.map (·.2))
theorem Way.keep {w:World} {h h':Heap} {a:Addr} {es:Array (Int×Value)} {ep:Nat} {t:SetTable} {tl:List Addr} {f:Nat→Value} {vs:List Value} (x:Way w h a es ep t tl f vs) (k: ∀b∈tl,∀o,h.get? b=some o→h'.get? b=some o):Way w h' a es ep t tl f vs:=by
 cases x with
 | drawn e d b=>exact .drawn (k _ (List.mem_singleton.mpr rfl) _ e) d b
 | text e=>exact .text e
 | small e1 e2 e3 e4=>exact .small e1 e2 e3 e4
theorem qcZ:Slot "set_iterator" "__next__" "set_iterator.__next__" :=
 .of (owner:= "set_iterator") (n:= "__next__") (by rw[typeLookup_type,builtinLookup_eq_fast]; kernel_rfl) (by decide+kernel) (by decide+kernel)
  (by decide+kernel) (by first | exact .inl (by decide+kernel) | exact .inr (by decide+kernel)) (by rw[isSubtype_type]; kernel_rfl)
theorem qfx:Slot "set_iterator" "__iter__" "set_iterator.__iter__" :=
 .of (owner:= "set_iterator") (n:= "__iter__") (by rw[typeLookup_type,builtinLookup_eq_fast]; kernel_rfl) (by decide+kernel) (by decide+kernel)
  (by decide+kernel) (by first | exact .inl (by decide+kernel) | exact .inr (by decide+kernel)) (by rw[isSubtype_type]; kernel_rfl)
theorem qiN:entryFor table "set_iterator.__next__" =some Builtin.«set_iterator.__next__» :=entryFor_of_fast (by kernel_rfl)
theorem qff:entryFor table "set.__iter__" =some Builtin.«frozenset.__iter__» :=
 entryFor_alias (id':= "frozenset.__iter__") (by kernel_rfl) rfl (by decide+kernel) (by kernel_rfl)
theorem qlc (a:Value):argsOk "set_iterator.__next__" ⟨[a],[]⟩:=by
 unfold argsOk; kernel_rfl
section
variable {prog:Program} {w:World} {A:Around} {E:Value→Shared→Prop} {s:Shared}
theorem qdg {Q:Bool→Shared→Prop} (h:Q (w.params.followText "set-order") s):wpAny (model prog w) A setsByText Q E s:=by
 unfold setsByText
 exact wpAny_bind (wpAny_askSetting (wpAny_pure h))
theorem qiO {a:Addr} {o:Obj} {es:Array (Int×Value)} {ep:Nat} {t:SetTable} {Q:Nat→Shared→Prop} (ho:s.heap.get? a=some o) (hd:o.data= .set es ep t) (hf:t.fits es.size=true) (h:Q es.size s):wpAny (model prog w) A (Builtin.Frozenset.sizeOf a) Q E s:=by
 unfold Builtin.Frozenset.sizeOf
 exact wpAny_bind (wpAny_setEntries_of ho hd hf (wpAny_pure h))
theorem qmu {a:Addr} {o:Obj} {es:Array (Int×Value)} {ep:Nat} {t:SetTable} {Q:Bool→Shared→Prop} (ho:s.heap.get? a=some o) (hd:o.data= .set es ep t) (hf:t.fits es.size=true) (h:Q (!w.params.followText "set-order" &&(!t.plain&&decide (es.size>1))) s):wpAny (model prog w) A (setDrawn a) Q E s:=by
 unfold setDrawn
 exact wpAny_bind (wpAny_setState_of ho hd hf (wpAny_bind (qdg (wpAny_pure h))))
theorem qmh {a:Addr} {o:Obj} {es:Array (Int×Value)} {ep:Nat} {t:SetTable} {Q:Value→Shared→Prop} (ho:s.heap.get? a=some o) (hx:o.ExactSet) (hd:o.data= .set es ep t) (hf:t.fits es.size=true) (hb:es.size<scanBound) (pl:qdN t) (ld:t.led= !w.params.followText "set-order")
  (h: ∀(it:Addr) (h':Heap) (d:Drawn) (tl:List Addr) (f:Nat→Value) (vs:List Value),s.heap.objs.size≤it→(∀b∈tl,s.heap.objs.size≤b∧b≠it)→(∀b u,s.heap.get? b=some u→h'.get? b=some u)→h'.get? it=some (qgQ (f 0) 0 a es.size ep)→Way w h' a es ep t tl f vs→List.Perm vs (es.toList.map (·.2))→
   Q (.ref it) { s with heap:=h',drawn:=d }):wpAny (model prog w) A (pyIter (.ref a)) Q E s:=by
 have ty:s.TypeIs (.ref a) "set" :=⟨o,ho,hx.1⟩
 refine wpAny_pyIter_slot ty PySem.F.slot_set_iter (wpAny_call_entry PySem.F.slot_set_iter ty qff ?_ (PySem.F.args_set_iter_1 _))
 unfold Builtin.«frozenset.__iter__» Builtin.Frozenset.slot0 slotArgs
 refine wpAny_bind (wpAny_pure (wpAny_bind (qiO ho hd hf ?_)))
 refine wpAny_bind (qmu ho hd hf ?_)
 have fin: ∀(s1:Shared) (first:Value) (tl:List Addr) (f:Nat→Value) (vs:List Value),s1.gens=s.gens→s1.os=s.os→s1.toks=s.toks→s.heap.objs.size≤s1.heap.objs.size→(∀b u,s.heap.get? b=some u→s1.heap.get? b=some u)→(∀b∈tl,s.heap.objs.size≤b∧b<s1.heap.objs.size)→f 0=first→(∀h',(∀b u,s1.heap.get? b=some u→h'.get? b=some u)→Way w h' a es ep t tl f vs)→List.Perm vs (es.toList.map (·.2))→
   wpAny (model prog w) A.in1 (do ret (←newFields "set_iterator" [first,rawInt 0,.ref a,rawInt (es.size:Nat),rawInt (←setEpoch a)])) (fun r s'=> ∃v,r= .done (.ret v)∧∃(T':String) (r':Value),s'.TypeIs v T'∧typeLookup (.type T') "__next__" =pure (some r')∧Q v s') E s1:=fun s1 first tl f vs e1 e2 e3 sz kp tb ef wy pm=>by
  refine wpAny_bind (wpAny_setEpoch_of (kp _ _ ho) hd hf ?_)
  refine wpAny_bind (wpAny_newObj_type ?_ (by size_fits))
  refine wpAny_pure ⟨_,rfl, "set_iterator",_,⟨_,Heap.get?_push_size _ rfl,rfl⟩,qcZ.lookup,?_⟩
  have kp2: ∀b u,s1.heap.get? b=some u→(s1.heap.push (qgQ first 0 a es.size ep)).get? b=some u:=fun b u q=>Heap.get?_push_of_some _ q
  have:=h s1.heap.objs.size (s1.heap.push (qgQ first 0 a es.size ep)) s1.drawn tl f vs sz (fun b hb=>⟨(tb b hb).1,Nat.ne_of_lt (tb b hb).2⟩) (fun b u q=>kp2 b u (kp b u q)) (by rw[ef]; exact Heap.get?_push_size _ rfl) (wy _ kp2) pm
  obtain ⟨hh,g,d,tk,os⟩:=s1
  dsimp only at e1 e2 e3 this⊢
  subst e1 e2 e3
  exact this
 have hall: ∀{α:Type} (d:α) (l:List α),(List.range l.length).map (fun i=>l.getD i d)=l:=fun d l=>by
  apply List.ext_getElem
  ·simp
  ·intro i h1 h2
   simp[List.getElem?_eq_getElem h2]
 cases bt:w.params.followText "set-order" with
 | true=>
  rw[if_neg (by simp)]
  refine wpAny_bind (wpAny_pure ?_)
  refine fin s (rawInt 0) [] (fun _=>rawInt 0) _ rfl rfl rfl (Nat.le_refl _) (fun _ _ q=>q) (fun b hb=>nomatch hb) rfl (fun h' _=>.text bt) ?_
  exact (qcK _ _).map _
 | false=>
  by_cases h1:(!t.plain&&decide (es.size>1))=true
  ·rw[if_pos (by rw[h1]; rfl)]
   refine wpAny_bind (qg1 es.size (List.range es.size) s _ (by simp) fun ys d pm=> ?_)
   refine wpAny_bind (wpAny_newObj_type ?_ (by
    have:=pm.length_eq
    have h2:scanBound=4096:=rfl
    show (List.toArray (ys.map fun (i:Nat)=>rawInt i)).size≤sizeLine
    rw[List.size_toArray,List.length_map,this,List.length_range,sizeLine_eq]
    lia))
   refine fin _ (.ref s.heap.objs.size) [s.heap.objs.size] (fun _=>.ref s.heap.objs.size) (ys.map fun i=>(es.toList.map (·.2)).getD i .none) rfl rfl rfl (by show _≤(s.heap.push _).objs.size; rw[Heap.size_push]; exact Nat.le_succ _) (fun b u q=>Heap.get?_push_of_some _ q) (fun b hb=> ?_) rfl (fun h' kp=> ?_) ?_
   ·rw[List.mem_singleton.mp hb]
    refine ⟨Nat.le_refl _,?_⟩
    show _<(s.heap.push _).objs.size
    rw[Heap.size_push]; exact Nat.lt_succ_self _
   ·refine .drawn (kp _ _ (Heap.get?_push_size _ rfl)) rfl fun i hi=> ?_
    have:=pm.mem_iff.mp hi
    simpa using this
   ·have q:=pm.map fun i=>(es.toList.map (·.2)).getD i Value.none
    have e:es.size=(es.toList.map (·.2)).length:=by simp
    rw[e,hall] at q
    exact q
  ·have h1':(!t.plain&&decide (es.size>1))=false:=by simpa using h1
   rw[if_neg (by rw[h1']; decide)]
   refine wpAny_bind (wpAny_pure ?_)
   exact fin s (rawInt 0) [] _ _ rfl rfl rfl (Nat.le_refl _) (fun _ _ q=>q) (fun b hb=>nomatch hb) (if_pos rfl) (fun h' _=>.small bt h1' (by rw[ld,bt]; rfl) pl) (List.Perm.refl _)
end
end SetL
end
section
namespace SetL
open PySem
section
variable {prog:Program} {w:World} {A:Around} {E:Value→Shared→Prop} {s:Shared} {it a:Addr} {o:Obj} {es:Array (Int×Value)} {ep:Nat} {t:SetTable} {tl:List Addr} {f:Nat→Value} {vs:List Value}
theorem qn8 {i:Nat} {slot:Nat} {Q:Option (Value×Nat)→Shared→Prop} (ho:s.heap.get? a=some o) (hd:o.data= .set es ep t) (hf:t.fits es.size=true) (W:Way w s.heap a es ep t tl f vs) (hs:f i=rawInt (slot:Nat)) (hi:i≤vs.length)
  (h:Q (vs[i]?.map fun v=>(v,if w.params.followText "set-order" =true then slot else t.place.getD i 0+1)) s):wpAny (model prog w) A (setNext a slot i ep) Q E s:=by
 unfold setNext
 refine wpAny_bind (wpAny_setState_of ho hd hf ?_)
 dsimp only
 refine wpAny_bind (qdg ?_)
 cases W with
 | drawn _ _ _=>cases hs
 | text e=>
  rw[if_pos e,if_neg (by simp)]
  refine wpAny_bind ?_
  unfold setWalk
  refine wpAny_bind (wpAny_setState_of ho hd hf ?_)
  dsimp only
  refine wpAny_bind (qdg ?_)
  rw[if_pos e]
  refine wpAny_bind (wpAny_askSetting (wpAny_pure (wpAny_pure ?_)))
  have e2:(if w.params.followText "set-order" =true then slot else t.place.getD i 0+1)=slot:=if_pos e
  rw[e2] at h
  have e3:((pickOrder (w.params.setOrder a ep) es).toList.map (·.2))[i]?.map (fun v=>(v,slot))=((pickOrder (w.params.setOrder a ep) es)[i]?).map fun e=>(e.2,slot):=by
   rw[List.getElem?_map,Array.getElem?_toList,Option.map_map]
   rfl
  rw[e3] at h
  exact h
 | small e ndr hl hft=>
  rw[e,if_neg (by decide)]
  split
  ·rename_i z
   have z':(!t.plain&&decide (es.size>1))=true:=z
   rw[ndr] at z'; cases z'
  have led:(!t.led&& !es.isEmpty)=false:=by rw[hl]; rfl
  refine wpAny_bind ?_
  show wpAny _ _ (if (!t.led&& !es.isEmpty)=true then _ else _) _ _ _
  rw[if_neg (by rw[led]; decide)]
  refine wpAny_pure (wpAny_pure ?_)
  have e2:(if w.params.followText "set-order" =true then slot else t.place.getD i 0+1)=t.place.getD i 0+1:=if_neg (by rw[e]; decide)
  rw[e2] at h
  have psz:t.place.size=es.size:=by
   have:=hf
   simp only[SetTable.fits,Bool.and_eq_true,beq_iff_eq] at this
   exact this.1
  have hi':i≤es.size:=by simpa using hi
  have eb:SetTable.below t.place slot=i:=by
   cases i with
   | zero=>
    have:slot=0:=by
     have hs':rawInt 0=rawInt (slot:Nat):=by simpa using hs
     unfold rawInt at hs'
     injection hs' with q _
     lia
    rw[this]; exact qiV hft.1
   | succ i=>
    have:slot=t.place.getD i 0+1:=by
     have hs':rawInt ((t.place.getD i 0+1:Nat):Int)=rawInt (slot:Nat):=by simpa using hs
     unfold rawInt at hs'
     injection hs' with q _
     lia
    rw[this]; exact qiW hft.1 (by lia)
  have e3:((es.toList.map (·.2))[i]?.map fun v=>(v,t.place.getD i 0+1))=(es[i]?).map fun e=>(e.2,t.place.getD i 0+1):=by
   rw[List.getElem?_map,Array.getElem?_toList,Option.map_map]
   rfl
  rw[e3] at h
  rw[eb]
  by_cases c:i<es.size
  ·have c1:es[i]? =some es[i]:=by simp[c]
   have c2:t.place[i]? =some (t.place.getD i 0):=by simp[Array.getD,psz,c]
   rw[c1] at h⊢
   rw[c2]
   exact h
  ·have c1:es[i]? =none:=by simp; lia
   rw[c1] at h⊢
   exact h
theorem qnB {Q:Option Value→Shared→Prop} (hh:A.handled=none) {s:Shared} (h: ∀h',(∀b u,s.heap.get? b=some u→h'.get? b=some u)→Q none { s with heap:=h' }):
  wpAny (model prog w) A.in1 (do raiseNew (←newExc (.type "StopIteration") []):Sem Fin) (fun r s'=> ∃v,r=Fin.done (.ret v)∧Q (some v) s') (fun e s'=>wpAny (model prog w) A (do if ←isInstance e (.type "StopIteration") then pure none else throw e) Q E s') s:=by
 refine wpAny_bind ?_
 simp only[newExc,newTuple]
 refine wpAny_bind (wpAny_newObj_type ?_ (by size_fits))
 refine wpAny_bind (m:=firstArgMember _ _) (wpAny_of_eq (a:=Value.none) (by first | rfl | (simp only[firstArgMember]; rfl)) ?_)
 refine wpAny_newObj_type ?_ (by size_fits)
 simp only[raiseNew]
 refine wpAny_bind (wpAny_handled ?_)
 rw[show A.in1.handled=none from hh]
 refine wpAny_bind (wpAny_pure (wpAny_throw ?_))
 refine wpAny_bind (wpAny_isInstance (T:= "StopIteration") (b:=true) ⟨_,Heap.get?_push_size _ rfl,rfl⟩ isSubtype_stop ?_)
 exact wpAny_pure (h _ fun b u q=>Heap.get?_push_of_some _ (Heap.get?_push_of_some _ q))
theorem qhU {first:Value} {i n:Nat} {j:Nat} {x:Value} {h:Heap} (ho:h.get? it=some (qgQ first i a n ep)):(h.update it (Obj.mapFields (·.setIfInBounds j x))).get? it=some { cls:=.type "set_iterator",data:=.fields (#[first,rawInt i,.ref a,rawInt n,rawInt ep].setIfInBounds j x) }:=
 Heap.get?_update_self _ ho rfl
theorem qei {i:Nat} {Q:Option Value→Shared→Prop} (hh:A.handled=none) (hne:a≠it) (htl:it∉tl) (hit:s.heap.get? it=some (qgQ (f i) i a es.size ep)) (ho:s.heap.get? a=some o) (hd:o.data= .set es ep t) (hf:t.fits es.size=true) (W:Way w s.heap a es ep t tl f vs) (hv:vs.length=es.size) (hi:i≤vs.length)
  (h1: ∀v h',vs[i]? =some v→Heap.SameBut it s.heap h'→h'.get? it=some (qgQ (f (i+1)) (i+1) a es.size ep)→Q (some v) { s with heap:=h' })
  (h0: ∀h',vs[i]? =none→(∀b u,b≠it→s.heap.get? b=some u→h'.get? b=some u)→Q none { s with heap:=h' }):wpAny (model prog w) A (pyNext (.ref it)) Q E s:=by
 have ty:s.TypeIs (.ref it) "set_iterator" :=⟨_,hit,rfl⟩
 unfold pyNext
 refine wpAny_bind (wpAny_attempt (wpAny_callSpecial?_slot (name:=Str.ofString "__next__") ty qcZ (wpAny_call_entry qcZ ty qiN ?_ (qlc _))))
 unfold Builtin.«set_iterator.__next__» slotArgs
 refine wpAny_bind (wpAny_pure (wpAny_bind (wpAny_fieldsOf hit rfl ?_)))
 refine wpAny_bind (wpAny_setEntries_of ho hd hf ?_)
 dsimp only
 rw[if_neg (by simp)]
 have one: ∀(v:Value) (s2:Shared),Q (some v) s2→∃v',Fin.done (Flow.ret v)=Fin.done (Flow.ret v')∧wpAny (model prog w) A (match (Except.ok (some v'):Except Value (Option Value)) with
      | Except.ok (some v)=>pure (some v)
      | Except.ok none=>unsupported "iter:the-iterator's-class-has-lost-its-__next__-amid-the-walk"
      | Except.error e=>do
       let b ←isInstance e (Value.type "StopIteration")
       if b=true then pure none else throw e) Q E s2:=fun v s2 q=>⟨v,rfl,wpAny_pure q⟩
 have stop: ∀s2:Shared,(∀h',(∀b u,s2.heap.get? b=some u→h'.get? b=some u)→Q none { s2 with heap:=h' })→wpAny (model prog w) A.in1 (do raiseNew (←newExc (.type "StopIteration") []):Sem Fin) (fun fin s'=> ∃v,fin=Fin.done (Flow.ret v)∧wpAny (model prog w) A (match (Except.ok (some v):Except Value (Option Value)) with
      | Except.ok (some v)=>pure (some v)
      | Except.ok none=>unsupported "iter:the-iterator's-class-has-lost-its-__next__-amid-the-walk"
      | Except.error e=>do
       let b ←isInstance e (Value.type "StopIteration")
       if b=true then pure none else throw e) Q E s') (fun e s'=>wpAny (model prog w) A (do
       let b ←isInstance e (Value.type "StopIteration")
       if b=true then pure none else throw e) Q E s') s2:=fun s2 q=>wpAny_mono (qnB (Q:=Q) (E:=E) hh q) (fun r s' ⟨v,e,q'⟩=>⟨v,e,wpAny_pure q'⟩) fun _ _ z=>z
 have byInt: ∀slot:Nat,f i=rawInt (slot:Nat)→(∀v,vs[i]? =some v→f (i+1)=rawInt ((if w.params.followText "set-order" =true then slot else t.place.getD i 0+1:Nat):Int))→
   wpAny (model prog w) A.in1 (do
    let r ←setNext a ((slot:Nat):Int).toNat ((i:Nat):Int).toNat ((ep:Nat):Int).toNat
    match r with
     | some (x,next)=>do
      setField (Value.ref it) 0 (rawInt (next:Nat))
      setField (Value.ref it) 1 (rawInt ((i:Nat)+1))
      ret x
     | none=>do
      setField (Value.ref it) 2 Value.none
      let e ←newExc (Value.type "StopIteration") []
      raiseNew e) (fun fin s'=> ∃v,fin=Fin.done (Flow.ret v)∧wpAny (model prog w) A (match (Except.ok (some v):Except Value (Option Value)) with
      | Except.ok (some v)=>pure (some v)
      | Except.ok none=>unsupported "iter:the-iterator's-class-has-lost-its-__next__-amid-the-walk"
      | Except.error e=>do
       let b ←isInstance e (Value.type "StopIteration")
       if b=true then pure none else throw e) Q E s') (fun e s'=>wpAny (model prog w) A (do
       let b ←isInstance e (Value.type "StopIteration")
       if b=true then pure none else throw e) Q E s') s:=fun slot hs hnx=>by
  rw[Int.toNat_natCast,Int.toNat_natCast,Int.toNat_natCast]
  refine wpAny_bind (qn8 (slot:=slot) ho hd hf W hs hi ?_)
  cases q:vs[i]? with
  | some v=>
   dsimp only[Option.map]
   refine wpAny_bind (wpAny_setField (i:=0) hit rfl (by simp) ?_)
   refine wpAny_bind (wpAny_setField (i:=1) (qhU hit) rfl (by simp) (wpAny_pure (one v _ (h1 v _ q ((Heap.SameBut.update ..).trans (Heap.SameBut.update ..)) ?_))))
   rw[hnx v q]
   exact Heap.get?_update_self _ (qhU hit) rfl
  | none=>
   dsimp only[Option.map]
   refine wpAny_bind (wpAny_setField (i:=2) hit rfl (by simp) (stop _ fun h' kp=>h0 h' q fun b u hb e=>kp b u ?_))
   exact (Heap.get?_update_other _ _ (Ne.symm hb)).trans e
 cases id W with
 | drawn et dt bd=>
  rename_i tp ot pl k
  show wpAny _ _ (seqItems? (.ref tp)>>=_) _ _ _
  refine wpAny_bind (wpAny_seqItems et dt ?_)
  dsimp only
  rw[Int.toNat_natCast]
  cases q:pl[i]? with
  | some j=>
   have e1:(List.toArray (pl.map fun (i:Nat)=>rawInt i))[i]? =some (rawInt (j:Nat)):=by simp[q]
   rw[e1]
   have hj:=bd j (List.mem_of_getElem? q)
   show wpAny _ _ (setNextDrawn a ((j:Nat):Int).toNat ((ep:Nat):Int).toNat>>=_) _ _ _
   rw[Int.toNat_natCast,Int.toNat_natCast]
   have ej:es[j]? =some es[j]:=by simp[hj]
   refine wpAny_bind ?_
   unfold setNextDrawn
   refine wpAny_bind (wpAny_setState_of ho hd hf ?_)
   dsimp only
   rw[if_neg (by simp),ej]
   refine wpAny_pure ?_
   have ev:(pl.map fun i=>(es.toList.map (·.2)).getD i Value.none)[i]? =some es[j].2:=by
    rw[List.getElem?_map,q]
    simp[hj]
   exact wpAny_bind (wpAny_setField hit rfl (by simp) (wpAny_pure (one _ _ (h1 _ _ ev (Heap.SameBut.update ..) (qhU hit)))))
  | none=>
   have e1:(List.toArray (pl.map fun (i:Nat)=>rawInt i))[i]? =none:=by simp[List.getElem?_eq_none_iff.mp q]
   rw[e1]
   have ev:(pl.map fun i=>(es.toList.map (·.2)).getD i Value.none)[i]? =none:=by rw[List.getElem?_map,q]; rfl
   refine wpAny_bind (wpAny_setField hit rfl (by simp) ?_)
   refine wpAny_bind (wpAny_setField (qhU hit) rfl (by simp) (stop _ fun h' kp=>h0 h' ev fun b u hb e=>kp b u ?_))
   exact (Heap.get?_update_other _ _ (Ne.symm hb)).trans ((Heap.get?_update_other _ _ (Ne.symm hb)).trans e)
 | text e=>
  exact byInt 0 rfl fun v _=>by rw[if_pos e]; rfl
 | small e hn hl hft=>
  cases i with
  | zero=>exact byInt 0 rfl fun v _=>by rw[if_neg (by rw[e]; decide)]; rfl
  | succ i=>
   have:=byInt (t.place.getD i 0+1) rfl fun v _=>by rw[if_neg (by rw[e]; decide)]; rfl
   exact this
end
end SetL
end
section
namespace SetL
open PySem
theorem qf1:entryFor table "set_iterator.__iter__" =some Builtin.«dict_keyiterator.__iter__» :=
 entryFor_alias (id':= "dict_keyiterator.__iter__") (by kernel_rfl) rfl (by decide+kernel) (by kernel_rfl)
theorem qhd (a:Value):argsOk "set_iterator.__iter__" ⟨[a],[]⟩:=by
 unfold argsOk; kernel_rfl
section
variable {prog:Program} {w:World} {A:Around} {it a:Addr} {o:Obj} {es:Array (Int×Value)} {ep:Nat} {t:SetTable} {tl:List Addr} {f:Nat→Value} {vs:List Value}
def qu2 (w:World) (it a:Addr) (o:Obj) (es:Array (Int×Value)) (ep:Nat) (t:SetTable) (tl:List Addr) (f:Nat→Value) (vs:List Value) (i:Nat) (h:Heap):Prop:=h.get? it=some (qgQ (f i) i a es.size ep)∧h.get? a=some o∧Way w h a es ep t tl f vs∧i≤vs.length
theorem qre (hh:A.handled=none) (hne:a≠it) (htl:it∉tl) (hd:o.data= .set es ep t) (hf:t.fits es.size=true) (hv:vs.length=es.size):Walks prog w A it (it::a::tl) [it] vs.length (fun i v=>vs[i]? =some v) (qu2 w it a o es ep t tl f vs) where
 sub:=fun b hb=>by rw[List.mem_singleton.mp hb]; exact List.mem_cons_self
 frame:=fun i h h' st k=>⟨k it List.mem_cons_self _ st.1,k a (List.mem_cons_of_mem _ List.mem_cons_self) _ st.2.1,st.2.2.1.keep fun b hb u e=>k b (List.mem_cons_of_mem _ (List.mem_cons_of_mem _ hb)) u e,st.2.2.2⟩
 item:=fun i s Q E hi st hQ=>by
  refine qei hh hne htl st.1 st.2.1 hd hf st.2.2.1 hv st.2.2.2 (fun v h' ev sb g=> ?_) fun h' ev _=> ?_
  ·have e:s={ s with toks:=s.toks }:=rfl
   refine hQ v h' s.toks ev ⟨g,(sb.2 a hne).trans st.2.1,st.2.2.1.keep fun b hb u q=>(sb.2 b (fun z=>htl (by rw[←z]; exact hb))).trans q,hi⟩ fun b u hb q=>(sb.2 b (fun z=>hb (by rw[z]; exact List.mem_singleton.mpr rfl))).trans q
  ·rw[List.getElem?_eq_getElem hi] at ev; cases ev
 done:=fun s Q E st hQ=>by
  refine qei hh hne htl st.1 st.2.1 hd hf st.2.2.1 hv st.2.2.2 (fun v h' ev sb g=> ?_) fun h' ev kp=> ?_
  ·rw[List.getElem?_eq_none_iff.mpr (Nat.le_refl _)] at ev; cases ev
  ·exact hQ h' s.toks fun b u hb q=>kp b u (fun z=>hb (by rw[z]; exact List.mem_singleton.mpr rfl)) q
 self:=fun i s Q E st hQ=>by
  have ty:s.TypeIs (.ref it) "set_iterator" :=⟨_,st.1,rfl⟩
  refine wpAny_pyIter_slot ty qfx (wpAny_call_entry qfx ty qf1 ?_ (qhd _))
  show wpAny _ _ (ret (.ref it)) _ _ s
  exact wpAny_pure ⟨_,rfl, "set_iterator",_,ty,qcZ.lookup,hQ⟩
end
section
variable {prog:Program} {w:World} {A:Around} {E:Value→Shared→Prop} {s:Shared}
theorem qjb:splitId "set.__len__" =some ("set", "__len__"):=by decide+kernel
theorem qqf {α:Type} {M:Model} {c:Bool} {x y:Sem α} {Q:α→Shared→Prop} (hc:c=true) (h:wpAny M A x Q E s):wpAny M A (if c=true then x else y) Q E s:=by rw[if_pos hc]; exact h
theorem qsJ {α:Type} {M:Model} {c:Bool} {x y:Sem α} {Q:α→Shared→Prop} (hc:c=false) (h:wpAny M A y Q E s):wpAny M A (if c=true then x else y) Q E s:=by rw[if_neg (by rw[hc]; decide)]; exact h
theorem qg8 {a:Addr} {o:Obj} {es:Array (Int×Value)} {ep:Nat} {t:SetTable} {Q:List Value→Shared→Prop} (hh:A.handled=none) (ho:s.heap.get? a=some o) (hx:o.ExactSet) (hd:o.data= .set es ep t) (hf:t.fits es.size=true) (hb:es.size<scanBound) (pl:qdN t) (ld:t.led= !w.params.followText "set-order")
  (h: ∀(vs:List Value) (h':Heap) (d:Drawn) (tk:Nat),List.Perm vs (es.toList.map (·.2))→(∀b u,s.heap.get? b=some u→h'.get? b=some u)→Q vs { s with heap:=h',drawn:=d,toks:=tk }):wpAny (model prog w) A (collect (.ref a)) Q E s:=by
 have ha:=Heap.lt_size ho
 unfold collect
 refine wpAny_bind (wpAny_runValue (codeAny_builtin PySem.F.entry_proto_collect ?_))
 rw[Around.under_plainId PySem.F.plain_proto_collect _]
 refine wpAny_bind (wpAny_newObj_type ?_ (by size_fits))
 refine wpAny_pure ⟨plainId_quiet PySem.F.plain_list_iadd _,codeAny_builtin PySem.F.entry_list_iadd ?_⟩
 rw[Around.under_plainId PySem.F.plain_list_iadd _]
 have hL:(s.heap.push { cls:=.type "list",data:=.seq ([]:List Value).toArray }).get? s.heap.objs.size=some { cls:=.type "list",data:=.seq ([]:List Value).toArray }:=Heap.get?_push_size _ rfl
 have ho1:(s.heap.push { cls:=.type "list",data:=.seq ([]:List Value).toArray }).get? a=some o:=Heap.get?_push_of_some _ ho
 have ty:({ s with heap:=s.heap.push { cls:=.type "list",data:=.seq ([]:List Value).toArray } }:Shared).TypeIs (.ref a) "set" :=⟨o,ho1,hx.1⟩
 show wpAny _ A.in1 (Builtin.List.listExtendWith (.ref s.heap.objs.size) (.ref a) (.ref s.heap.objs.size)) _ _ _
 unfold Builtin.List.listExtendWith
 refine wpAny_bind (wpAny_typeOf ty ?_)
 have ns:Builtin.List.listSameRef (.ref s.heap.objs.size) (.ref a)=false:=by
  simp[Builtin.List.listSameRef]
  exact (Nat.ne_of_lt ha).symm
 rw[if_neg (by rw[ns]; decide)]
 refine wpAny_bind (qmh (s:={ s with heap:=s.heap.push { cls:=.type "list",data:=.seq ([]:List Value).toArray } }) ho1 hx hd hf hb pl ld fun it h1 d tl f vs hit htl kp g W pm=> ?_)
 have ty1:({ s with heap:=h1,drawn:=d }:Shared).TypeIs (.ref a) "set" :=⟨o,kp _ _ ho1,hx.1⟩
 refine wpAny_bind (wpAny_holding ?_)
 unfold Builtin.List.listLengthHint
 refine wpAny_bind (wpAny_specialOf ty1 PySem.F.slot_set_len.lookup ?_)
 dsimp only
 rw[qjb]
 dsimp only
 refine wpAny_bind (wpAny_isInstance (b:=true) ty1 (by rw[isSubtype_type]; kernel_rfl) ?_)
 refine qsJ rfl (qqf (by decide+kernel) ?_)
 refine wpAny_bind (wpAny_typeOf ty1 (wpAny_pure ?_))
 refine qqf (by decide+kernel) ?_
 refine wpAny_bind (wpAny_rule ?_)
 have g1:h1.get? s.heap.objs.size=some { cls:=.type "list",data:=.seq ([]:List Value).toArray }:=kp _ _ hL
 refine wpAny_bind ?_
 show wpAny _ A.in1 (updateSeq s.heap.objs.size (·.push .none)>>=fun _=>updateSeq s.heap.objs.size (·.pop)) _ _ _
 refine wpAny_bind (wpAny_updateSeq g1 rfl ?_)
 have g2:=Heap.get?_update_self (Obj.mapSeq (·.push Value.none)) g1 rfl
 refine wpAny_updateSeq g2 rfl ?_
 have g3:=Heap.get?_update_self (Obj.mapSeq (·.pop)) g2 rfl
 have oth: ∀b u,b≠s.heap.objs.size→h1.get? b=some u→((h1.update s.heap.objs.size (Obj.mapSeq (·.push Value.none))).update s.heap.objs.size (Obj.mapSeq (·.pop))).get? b=some u:=
  fun b u hb e=>(Heap.get?_update_other _ _ (Ne.symm hb)).trans ((Heap.get?_update_other _ _ (Ne.symm hb)).trans e)
 have szp:s.heap.objs.size<({ s with heap:=s.heap.push { cls:=.type "list",data:=.seq ([]:List Value).toArray } }:Shared).heap.objs.size:=by
  show _<(s.heap.push _).objs.size
  rw[Heap.size_push]; exact Nat.lt_succ_self _
 have nit:it≠s.heap.objs.size:=fun z=>by rw[z] at hit; exact absurd (Nat.lt_of_lt_of_le szp hit) (Nat.lt_irrefl _)
 have nia:a≠it:=fun z=>by
  rw[←z] at hit
  exact absurd (Nat.lt_of_lt_of_le (Nat.lt_trans ha szp) hit) (Nat.lt_irrefl _)
 have ntl:it∉tl:=fun z=>(htl it z).2 rfl
 have lt:s.heap.objs.size∉(it::a::tl):=fun z=>by
  rcases List.mem_cons.mp z with z | z
  ·exact nit z.symm
  ·rcases List.mem_cons.mp z with z | z
   ·exact absurd ha (by rw[←z]; exact Nat.lt_irrefl _)
   ·exact absurd (Nat.lt_of_lt_of_le szp (htl _ z).1) (Nat.lt_irrefl _)
 have lv:vs.length=es.size:=by rw[pm.length_eq]; simp
 have hh2:A.in1.handled=none:=hh
 have Wk:=qre (prog:=prog) (w:=w) (A:=A.in1) (f:=f) hh2 nia ntl hd hf lv
 refine wpAny_pure ⟨plainId_quiet PySem.F.plain_extend_loop _,codeAny_extend_loopS Wk.toS (by rw[lv]; exact fits_of_scanBound hb) _ lt _ vs.length 0 _ _ _ rfl (Nat.zero_le _) ?_ g3 (ItemsOf.nil _) fun s' acc' c' hm hS' hacc=> ?_⟩
 ·exact ⟨oth _ _ nit g,oth _ _ (Nat.ne_of_lt ha) (kp _ _ ho1),W.keep fun b hb' u e=>oth b u (fun z=>lt (by rw[←z]; exact List.mem_cons_of_mem _ (List.mem_cons_of_mem _ hb'))) e,Nat.zero_le _⟩
 ·show wpAny _ A (load s.heap.objs.size>>=_) _ _ s'
  refine wpAny_bind (wpAny_load hS' (wpAny_pure ?_))
  have ev:acc'.toList=vs:=by
   apply List.ext_getElem?
   intro j
   by_cases hj:j<vs.length
   ·have h2:j<acc'.size:=by rw[hacc.1]; exact hj
    have:=hacc.2 j acc'[j] (by simp[h2])
    rw[this]
    simp[h2]
   ·have q1:acc'.toList[j]? =none:=List.getElem?_eq_none_iff.mpr (by rw[Array.length_toList,hacc.1]; lia)
    have q2:vs[j]? =none:=List.getElem?_eq_none_iff.mpr (by lia)
    rw[q1,q2]
  rw[ev]
  obtain ⟨hh',gg,dd,tk,os⟩:=s'
  have e1:gg=s.gens:=hm.gens
  have e2:dd=d:=hm.drawn
  have e3:os=s.os:=hm.os
  subst e1 e2 e3
  refine h vs hh' dd tk pm fun b u e=> ?_
  have nb:b<s.heap.objs.size:=Heap.lt_size e
  refine hm.heap b u (fun z=> ?_) (oth b u (Nat.ne_of_lt nb) (kp b u (Heap.get?_push_of_some _ e)))
  rcases List.mem_cons.mp z with z | z
  ·exact absurd nb (by rw[z]; exact Nat.lt_irrefl _)
  ·rw[List.mem_singleton.mp z] at nb
   exact absurd (Nat.lt_of_lt_of_le (Nat.lt_trans nb szp) hit) (Nat.lt_irrefl _)
end
end SetL
end
section
namespace SetL
open PySem
section
variable {K:Type} [DecidableEq K]
def mem (key:Nat→K) (i:Nat) (k:K):Bool:=(List.range i).any fun j=>decide (k=key j)
def cnt (key:Nat→K):Nat→Nat
 | 0=>0
 | i+1=>if mem key i (key i)=true then cnt key i else cnt key i+1
theorem qhD (key:Nat→K) (i:Nat) (k:K):mem key (i+1) k=(mem key i k||decide (k=key i)):=by
 unfold mem
 rw[List.range_succ,List.any_append]
 simp
theorem qnp (key:Nat→K): ∀i,cnt key i≤i
 | 0=>Nat.le_refl _
 | i+1=>by
  have:=qnp key i
  unfold cnt
  split<;>lia
end
section
variable {prog:Program} {w:World} {K:Type} [DecidableEq K] {knd:KeyKind prog w K} {A:Around} {R:Result→Shared→Prop} {I:Addr} {fp wr:List Addr} {G:Array GenState→Array GenState→Prop} {n:Nat} {P:Nat→Value→Prop} {Sx:Nat→Shared→Prop}
theorem qp5 (W:WalksS prog w A.in1 I fp wr G n P Sx) (S:Addr) (hSf:S∉fp) (key:Nat→K) (hval: ∀i v,P i v→knd.is (key i) v=true∧v.scannable=true) (hb:n+1<scanBound):
  ∀(k i:Nat) (s:Shared),n - i=k→i≤n→Sx i s→qgo knd s.heap S (mem key i) (cnt key i)→(∀s',Moved (S::wr) G s s'→qgo knd s'.heap S (mem key n) (cnt key n)→R (.ok (.ret .none)) s')→
   codeAny (model prog w) A (.builtin "set.update.loop" ⟨[.ref S,.ref I],[]⟩) R s:=by
 have nw:S∉wr:=fun z=>hSf (W.sub _ z)
 have sub: ∀b∈wr,b∈S::wr:=fun b z=>List.mem_cons_of_mem _ z
 intro k
 induction k with
 | zero=>
  intro i s hk hi st hS fin
  obtain rfl:i=n:=by lia
  refine codeAny_builtin PyProof.Rows.F.entry_set_update_loop ?_
  rw[Around.under_plainId PyProof.Rows.F.plain_set_update_loop _]
  refine wpAny_bind (W.done s _ _ st fun s' mv=>wpAny_pure (fin s' (mv.mono sub) (hS.keep fun o e=>mv.heap S o nw e)))
 | succ k ih=>
  intro i s hk hi st hS fin
  have lt:i<n:=by lia
  refine codeAny_builtin PyProof.Rows.F.entry_set_update_loop ?_
  rw[Around.under_plainId PyProof.Rows.F.plain_set_update_loop _]
  refine wpAny_bind (W.item i s _ _ lt st fun v s' hP st' mv=> ?_)
  obtain ⟨v1,v2⟩:=hval i v hP
  refine wpAny_bind (wpAny_holding ?_)
  unfold setAdd
  refine wpAny_holding (wpAny_bind (knd.pyHash (k:=key i) v1 ?_))
  have cl:=qnp key i
  refine qqQ (knd:=knd) (s:={ s' with toks:=s'.toks+1 }) v1 v2 (hS.keep fun o e=>mv.heap S o nw e) (by lia) fun h' sb S2=> ?_
  refine wpAny_pure ⟨plainId_quiet PyProof.Rows.F.plain_set_update_loop _,ih (i+1) _ (by lia) lt (W.frame _ s' _ _ st' (Nat.le_succ _) fun b hb' o e=> ?_) ?_ fun s'' mv2 S3=> ?_⟩
  ·rw[sb.2 b fun z=>hSf (by rw[←z]; exact hb')]; exact e
  ·obtain ⟨o,es,ep,t,a1,a2,a3,a4,a5,a6,a7,a8,a9,a10⟩:=S2
   exact ⟨o,es,ep,t,a1,a2,a3,a4,fun k'=>by rw[qhD]; exact a5 k',a6,a7,a8,a9,a10⟩
  ·refine fin s'' (Moved.trans W.gtrans ((mv.mono sub).then_heap (Nat.le_succ _) fun b o hb' e=> ?_) mv2) S3
   rw[sb.2 b fun z=>hb' (by rw[z]; exact List.mem_cons_self)]; exact e
end
section
variable {prog:Program} {w:World} {K:Type} [DecidableEq K] {knd:KeyKind prog w K} {A:Around} {E:Value→Shared→Prop} {s:Shared}
theorem qjW (x:Value) {Q₁:Value→Shared→Prop} (h:Q₁ (.ref s.heap.objs.size) { s with heap:=s.heap.push { cls:=.type "set",dict:=none,data:=.set #[] 0 (.fresh 0 0 (!w.params.followText "set-order")) } }):
  codeAny (model prog w) A (.call (.builtin "set.__new__") ⟨[.type "set",x],[]⟩) (PySem.wants Q₁ E) s:=by
 refine codeAny_of_tree ?_
 show wpAny _ A.in1 (do checkBuiltinCall "set.__new__" ⟨[.type "set",x],[]⟩; again (.builtin "set.__new__" ⟨[.type "set",x],[]⟩)) _ _ s
 refine wpAny_bind (wpAny_of_eq (PySem.F.newCall_set_1 x) (wpAny_pure ⟨plainId_quiet PySem.F.plain_set_new _,codeAny_builtin PySem.F.entry_set_new ?_⟩))
 rw[Around.under_plainId PySem.F.plain_set_new _]
 unfold Builtin.«set.__new__»
 unfold Builtin.Frozenset.newClass
 have sb:=PySem.sub_set_self
 obtain ⟨hp,g,d,tk,os⟩:=s
 dsimp only
 wp_walk
 exact wpAny_askSetting (wpAny_pure (by
  dsimp only
  simp only[newObj]
  exact wpAny_bind (wpAny_alloc (wpAny_pure (wpAny_pure h)))))
set_option maxHeartbeats 8000000 in
theorem qqL {l:Addr} {items:Array Value} {key:Nat→K} {Q:Value→Shared→Prop} (hh:A.handled=none) (hl:s.heap.IsList l items) (hval: ∀i v,items[i]? =some v→knd.is (key i) v=true∧v.scannable=true) (hb:items.size+1<scanBound)
  (h: ∀(h':Heap) (tk:Nat),qgo knd h' s.heap.objs.size (mem key items.size) (cnt key items.size)→(∀b o,s.heap.get? b=some o→h'.get? b=some o)→Q (.ref s.heap.objs.size) { s with heap:=h',toks:=tk }):
  wpAny (model prog w) A (call (.type "set") [.ref l]) Q E s:=by
 obtain ⟨c,tl,mro⟩:=PySem.F.called_set.mro
 have md:=PySem.F.called_set.made
 have sb:=PySem.F.called_set.sub
 refine wpAny_call (codeAny_of_tree ?_)
 show wpAny _ _ (callAny (.type "set") _) _ _ _
 refine wpAny_pure ⟨Code.quiet_builtin _ (by decide+kernel),codeAny_builtin PySem.F.entry_type_call ?_⟩
 rw[Around.under_plain (weight_type_call_type "set" [.ref l] []) rfl]
 have q1:=PySem.F.called_set.notType
 have q2:=PySem.F.called_set.canCreate
 have q3:=PySem.F.typeCall_set_1 (.ref l)
 repeat (any_goals (first | assumption | wp_step))
 refine codeAny_mono (qjW (.ref l) (E:=E) (Q₁:=fun v s1=>v= .ref s.heap.objs.size∧s1={ s with heap:=s.heap.push { cls:=.type "set",dict:=none,data:=.set #[] 0 (.fresh 0 0 (!w.params.followText "set-order")) } }) ⟨rfl,rfl⟩) fun r s1 hr=> ?_
 cases r with
 | error e=>exact hr
 | ok fl=>cases fl with
  | ret obj=>
   obtain ⟨rfl,rfl⟩:=hr
   have gS:(s.heap.push { cls:=.type "set",dict:=none,data:=.set #[] 0 (.fresh 0 0 (!w.params.followText "set-order")) }).get? s.heap.objs.size=some { cls:=.type "set",dict:=none,data:=.set #[] 0 (.fresh 0 0 (!w.params.followText "set-order")) }:=Heap.get?_push_size _ rfl
   have tS:Shared.TypeIs { s with heap:=s.heap.push { cls:=.type "set",dict:=none,data:=.set #[] 0 (.fresh 0 0 (!w.params.followText "set-order")) } } (.ref s.heap.objs.size) "set" :=⟨_,gS,rfl⟩
   have li:=PySem.F.called_set.init.lookup
   have bi:=PySem.F.called_set.init.bind (.ref s.heap.objs.size)
   repeat (any_goals (first | assumption | wp_step))
   refine codeAny_mono (codeAny_call_builtin (R:=PySem.wants (fun r s2=>r= .none∧∃h' tk,s2={ s with heap:=h',toks:=tk }∧qgo knd h' s.heap.objs.size (mem key items.size) (cnt key items.size)∧∀b o,s.heap.get? b=some o→h'.get? b=some o) E) PySem.F.called_set.init.plain PySem.F.entry_set_init (PySem.check_set_init_1 tS ?_)) fun r2 s2 hr2=> ?_
   ·obtain ⟨⟨oc,od,odt,osl⟩,gl,cl,nl,dl⟩:=hl
    simp only at cl dl
    subst cl dl
    have gl':(s.heap.push { cls:=.type "set",dict:=none,data:=.set #[] 0 (.fresh 0 0 (!w.params.followText "set-order")) }).get? l=some { cls:=.type "list",dict:=od,data:=.seq items nl,slots:=osl }:=Heap.get?_push_of_some _ gl
    have u1:=PySem.F.sub_list_set
    have u2:=PySem.F.sub_list_frozenset
    have u3:(Value.type "list" ==Value.type "dict")=false:=by decide
    have l1:(s.heap.push { cls:=.type "set",dict:=none,data:=.set #[] 0 (.fresh 0 0 (!w.params.followText "set-order")) }).IsList l items:=⟨_,gl',rfl,nl,rfl⟩
    unfold Builtin.«set.__init__» noKeywords
    unfold Builtin.Frozenset.updateFrom
    generalize pie:pyIter=PI
    wp_walk
    subst pie
    refine wpAny_pyIter_list l1 (wpAny_bind (wpAny_runValue ?_))
    have lS:l<s.heap.objs.size:=Heap.lt_size gl
    have sz:(s.heap.push { cls:=.type "set",dict:=none,data:=.set #[] 0 (.fresh 0 0 (!w.params.followText "set-order")) }).objs.size=s.heap.objs.size+1:=Heap.size_push ..
    have n1:l≠(s.heap.push { cls:=.type "set",dict:=none,data:=.set #[] 0 (.fresh 0 0 (!w.params.followText "set-order")) }).objs.size:=by rw[sz]; exact Nat.ne_of_lt (Nat.lt_succ_of_lt lS)
    have n2:s.heap.objs.size∉[(s.heap.push { cls:=.type "set",dict:=none,data:=.set #[] 0 (.fresh 0 0 (!w.params.followText "set-order")) }).objs.size,l]:=fun z=>by
     rw[sz] at z
     rcases List.mem_cons.mp z with z | z
     ·exact absurd z (Nat.ne_of_lt (Nat.lt_succ_self _))
     ·exact absurd (List.mem_singleton.mp z) (Nat.ne_of_gt lS)
    have hh3:A.in1.in1.in1.handled=none:=hh
    refine qp5 (knd:=knd) ((Walks.list hh3 _ l n1 items).toS) s.heap.objs.size n2 key (fun i v hv=>hval i v hv) hb (items.size - 0) 0 _ (by lia) (Nat.zero_le _) ⟨⟨_,Heap.get?_push_size _ rfl,rfl,rfl⟩,l1.push _⟩ ?_ fun s' mv S'=> ?_
    ·exact ⟨_, #[],0,_,Heap.get?_push_of_some _ gS,⟨rfl,rfl,rfl⟩,rfl,fun e he=>by simp at he,fun k=>by simp[mem],by decide,by rfl,rfl,qeC _ _ _,rfl⟩
    ·obtain ⟨h',g',d',tk',os'⟩:=s'
     have e1:g'=s.gens:=mv.gens
     have e2:d'=s.drawn:=mv.drawn
     have e3:os'=s.os:=mv.os
     subst e1 e2 e3
     refine wpAny_pure (wpAny_pure ⟨rfl,h',tk',rfl,S',fun b o e=> ?_⟩)
     have lb:=Heap.lt_size e
     refine mv.heap b o (fun z=> ?_) (Heap.get?_push_of_some _ (Heap.get?_push_of_some _ e))
     rcases List.mem_cons.mp z with z | z
     ·exact absurd z (Nat.ne_of_lt lb)
     ·have z':=List.mem_singleton.mp z
      rw[sz] at z'
      exact absurd z' (Nat.ne_of_lt (Nat.lt_succ_of_lt lb))
   ·cases r2 with
    | error e=>exact hr2
    | ok f2=>cases f2 with
     | ret r=>
      obtain ⟨rfl,h',tk,rfl,S',kp⟩:=hr2
      repeat (any_goals (first | assumption | wp_step))
      exact h _ _ S' kp
     | _=>exact hr2.elim
  | _=>exact hr.elim
end
end SetL
end
section
namespace SR
theorem snoc_ind {α:Type} {P:List α→Prop} (h0:P []) (hs: ∀l a,P l→P (l++[a])): ∀l,P l:=by
 intro l
 have: ∀r:List α,P r.reverse:=by
  intro r
  induction r with
  | nil=>exact h0
  | cons a r ih=>rw[List.reverse_cons]; exact hs _ _ ih
 rw[←List.reverse_reverse l]
 exact this _
section
variable {α:Type}
end
section
variable {κ:Type} [DecidableEq κ]
abbrev T4 (κ:Type):=Int×κ×Int×Int
end
end SR
end
section
namespace SR
section
variable {κ:Type} [DecidableEq κ]
abbrev R3 (κ:Type):=Int×κ×Int
def un (t:T4 κ):R3 κ:=(t.1,t.2.1,t.2.2.1)
def mat (w:Int) (a b:R3 κ):Bool:=decide (a.2.1=b.2.1)&&(decide (a.1 - b.1≤w)&&decide (b.1 - a.1≤w))
def cp (a b:R3 κ):T4 κ:=(max a.1 b.1,a.2.1,a.2.2,b.2.2)
def pr (w:Int) (A B:List (R3 κ)):List (T4 κ):=A.flatMap fun a=>(B.filter (mat w a)).map (cp a)
abbrev mo:R3 κ→Int:=fun r=>r.1
def keyIs (k:κ):R3 κ→Bool:=fun r=>decide (r.2.1=k)
end
end SR
end
section
namespace SR
theorem qfW {α:Type} {k k':α→Int} {r:α} (hr:k r=k' r): ∀l:List α,(∀x∈l,k x=k' x)→ins k r l=ins k' r l
 | [],_=>rfl
 | x::l,h=>by
  show (if k x≤k r then x::ins k r l else r::x::l)=(if k' x≤k' r then x::ins k' r l else r::x::l)
  rw[hr,h x List.mem_cons_self,qfW hr l fun y hy=>h y (List.mem_cons_of_mem _ hy)]
theorem srt_congr {α:Type} {k k':α→Int} (l:List α):(∀x∈l,k x=k' x)→srt k l=srt k' l:=by
 refine snoc_ind (P:=fun l=>(∀x∈l,k x=k' x)→srt k l=srt k' l) (fun _=>rfl) (fun l a ih h=> ?_) l
 rw[qeS,qeS,ih fun x hx=>h x (List.mem_append_left _ hx)]
 exact qfW (h a (List.mem_append_right _ List.mem_cons_self)) _ fun x hx=>h x (List.mem_append_left _ ((qa1 _).mp hx))
end SR
namespace RH
open PySem PySem.Spec PyProof.Rows L2 SR
def ltS (x y:Str):Bool:=decide (x.cps.toList<y.cps.toList)
theorem qpd {x y:Str} (h:x.cps.toList=y.cps.toList):x=y:=by
 cases x; cases y
 congr 1
 exact Array.toList_inj.mp h
theorem ordS:Ord ltS where
 irr:=fun a=>decide_eq_false (List.lt_irrefl _)
 tr:=fun a b c h1 h2=>decide_eq_true (List.lt_trans (of_decide_eq_true h1) (of_decide_eq_true h2))
 tot:=fun a b h1 h2=>qpd (List.le_antisymm (List.not_lt.mp (of_decide_eq_false h2)) (List.not_lt.mp (of_decide_eq_false h1)))
section
variable {prog:Program} {w:World} {A:Around} {s:Shared}
open PySem.W
end
section
variable {X:Cx}
end
end RH
end
section
namespace SetL
section
variable {α:Type} [DecidableEq α]
def dd:List α→List α
 | []=>[]
 | x::xs=>if x∈dd xs then dd xs else x::dd xs
theorem qck {x:α}: ∀{l:List α},x∈dd l↔x∈l
 | []=>Iff.rfl
 | y::l=>by
  have ih:=qck (x:=x) (l:=l)
  show x∈(if y∈dd l then dd l else y::dd l)↔_
  by_cases c:y∈dd l
  ·rw[if_pos c,ih,List.mem_cons]
   refine ⟨.inr,fun h=> ?_⟩
   rcases h with rfl | h
   ·exact ih.mp c
   ·exact h
  ·rw[if_neg c,List.mem_cons,List.mem_cons,ih]
theorem qbJ: ∀l:List α,(dd l).Nodup
 | []=>List.nodup_nil
 | y::l=>by
  show (if y∈dd l then dd l else y::dd l).Nodup
  by_cases c:y∈dd l
  ·rw[if_pos c]; exact qbJ l
  ·rw[if_neg c]; exact List.nodup_cons.mpr ⟨c,qbJ l⟩
theorem qg4: ∀l:List α,(dd l).length≤l.length
 | []=>Nat.le_refl _
 | y::l=>by
  have ih:=qg4 l
  show (if y∈dd l then dd l else y::dd l).length≤_
  split
  ·exact Nat.le_succ_of_le ih
  ·exact Nat.succ_le_succ ih
theorem qdZ: ∀{D L:List α},D.Nodup→(∀x∈D,x∈L)→L.length=D.length→List.Perm L D
 | [],L,_,_,hl=>by rw[List.length_eq_zero_iff.mp hl]
 | d::D,L,hn,hm,hl=>by
  have hd:=hm d List.mem_cons_self
  have hn':=List.nodup_cons.mp hn
  refine (List.perm_cons_erase hd).trans (List.Perm.cons d (qdZ hn'.2 (fun x hx=> ?_) ?_))
  ·have ne:x≠d:=fun z=>by subst z; exact hn'.1 hx
   refine (List.mem_erase_of_ne ne).mpr (hm x (List.mem_cons_of_mem _ hx))
  ·rw[List.length_erase_of_mem hd,hl]; rfl
def dl (key:Nat→α):Nat→List α
 | 0=>[]
 | i+1=>if mem key i (key i)=true then dl key i else dl key i++[key i]
theorem qng (key:Nat→α): ∀i,(dl key i).length=cnt key i
 | 0=>rfl
 | i+1=>by
  have ih:=qng key i
  show (if mem key i (key i)=true then dl key i else dl key i++[key i]).length=if mem key i (key i)=true then cnt key i else cnt key i+1
  split
  ·exact ih
  ·rw[List.length_append,ih]; rfl
theorem qjZ (key:Nat→α) (x:α): ∀i,x∈dl key i↔mem key i x=true
 | 0=>by simp[dl,mem]
 | i+1=>by
  have ih:=qjZ key x i
  rw[qhD]
  show x∈(if mem key i (key i)=true then dl key i else dl key i++[key i])↔_
  by_cases c:mem key i (key i)=true
  ·rw[if_pos c,ih]
   simp only[Bool.or_eq_true,decide_eq_true_eq]
   refine ⟨.inl,fun h=> ?_⟩
   rcases h with h | rfl
   ·exact h
   ·exact c
  ·rw[if_neg c,List.mem_append,ih]
   simp
theorem qhC (key:Nat→α): ∀i,(dl key i).Nodup
 | 0=>List.nodup_nil
 | i+1=>by
  have ih:=qhC key i
  show (if mem key i (key i)=true then dl key i else dl key i++[key i]).Nodup
  by_cases c:mem key i (key i)=true
  ·rw[if_pos c]; exact ih
  ·rw[if_neg c,List.nodup_append]
   refine ⟨ih,by simp,fun a ha b hb=> ?_⟩
   rw[List.mem_singleton] at hb
   subst hb
   intro z
   subst z
   exact c ((qjZ key _ i).mp ha)
theorem qe5 {l:List α} {d:α} {x:α}:mem (fun i=>l.getD i d) l.length x=true↔x∈l:=by
 unfold mem
 rw[List.any_eq_true]
 constructor
 ·rintro ⟨j,hj,e⟩
  have hj':=List.mem_range.mp hj
  have e':=of_decide_eq_true e
  rw[e']
  show l.getD j d∈l
  rw[List.getD_eq_getElem?_getD,List.getElem?_eq_getElem hj']
  exact List.getElem_mem hj'
 ·intro h
  obtain ⟨j,hj,e⟩:=List.mem_iff_getElem.mp h
  refine ⟨j,List.mem_range.mpr hj,decide_eq_true ?_⟩
  show x=l.getD j d
  rw[List.getD_eq_getElem?_getD,List.getElem?_eq_getElem hj]
  exact e.symm
theorem qsV {l:List α} {d:α}:List.Perm (dl (fun i=>l.getD i d) l.length) (dd l):=
 (List.perm_ext_iff_of_nodup (qhC _ _) (qbJ _)).mpr fun x=>by rw[qjZ,qe5,qck]
theorem qkV {l:List α} {d:α}:cnt (fun i=>l.getD i d) l.length=(dd l).length:=by rw[←qng,qsV.length_eq]
end
end SetL
namespace SetL
open PySem PySem.W PySem.Calls PyProof.Rows SR
structure Kd (prog:Program) (w:World) (α:Type) [DecidableEq α] where
 knd:PySem.KeyKind prog w α
 up:α→L2.V
 d:α
 of:Value→α
 lt:α→α→Bool
 ord:Ord lt
 isv: ∀x u,L2.RelV (up x) u→knd.is x u=true∧u.scannable=true
 vis: ∀x u,knd.is x u=true→L2.RelV (up x) u
 ofv: ∀x u,L2.RelV (up x) u→of u=x
 kind: ∀v1 v2 vs,(∀v∈v1::v2::vs,∃x,L2.RelV (up x) v)→keyKind' (v1::v2::vs).toArray=pure oneType'
 lts: ∀{A:Around} {E:Value→Shared→Prop} {s:Shared} {Q:Bool→Shared→Prop} (x y:α) (u v:Value),L2.RelV (up x) u→L2.RelV (up y) v→Q (lt x y) s→wpAny (model prog w) A (keyLt' oneType' u v) Q E s
section
variable {prog:Program} {w:World} {A:Around} {E:Value→Shared→Prop} {s:Shared} {α:Type} [DecidableEq α] (k:Kd prog w α)
theorem qmr {h:Heap} {a:Addr} {ss:List α} (S:qgo k.knd h a (mem (fun i=>ss.getD i k.d) ss.length) (cnt (fun i=>ss.getD i k.d) ss.length)):
  ∃o es ep t,h.get? a=some o∧o.ExactSet∧o.data= .set es ep t∧es.size<scanBound∧t.fits es.size=true∧qdN t∧t.led=(!w.params.followText "set-order")∧es.size=(dd ss).length∧
   (∀v∈es.toList.map (·.2),∃x,L2.RelV (k.up x) v)∧List.Perm ((es.toList.map (·.2)).map k.of) (dd ss):=by
 obtain ⟨o,es,ep,t,ho,hx,hd,hel,hme,hb,hf,hn,hp,hl⟩:=S
 have hv: ∀v∈es.toList.map (·.2),∃x,L2.RelV (k.up x) v:=fun v hv=>by
  obtain ⟨e,he,rfl⟩:=List.mem_map.mp hv
  obtain ⟨⟨x,hk,_⟩,_⟩:=hel e he
  exact ⟨x,k.vis x _ hk⟩
 refine ⟨o,es,ep,t,ho,hx,hd,hb,hf,hp,hl,by rw[hn,qkV],hv,?_⟩
 refine qdZ (qbJ ss) (fun x hx=> ?_) (by rw[List.length_map,List.length_map,Array.length_toList,hn,qkV])
 have hx':=qck.mp hx
 obtain ⟨e,he,ek⟩:=(hme x).mp (qe5.mpr hx')
 exact List.mem_map.mpr ⟨e.2,List.mem_map.mpr ⟨e,he,rfl⟩,k.ofv x _ (k.vis x _ ek)⟩
theorem qer {a:Addr} {ss:List α} {Q:Value→Shared→Prop} (hh:A.handled=none) (S:qgo k.knd s.heap a (mem (fun i=>ss.getD i k.d) ss.length) (cnt (fun i=>ss.getD i k.d) ss.length)) (h64:ss.length<64)
  (h: ∀h1 D h' d tk c vs,St.Kp s.heap h1→h1.objs.size≤D→St.Kp h1 h'→h'.get? D=some (seqObj "list" (List.toArray vs) c)→L2.Vals ((qbM k.lt (dd ss)).map k.up) vs→Q (.ref D) { s with heap:=h',drawn:=d,toks:=tk }):
  wpAny (model prog w) A (call (.builtin "sorted") [.ref a]) Q E s:=by
 obtain ⟨o,es,ep,t,ho,hx,hd,hb,hf,hp,hl,hn,hv,pm⟩:=qmr k S
 refine Calls.call_function_entry kind_sorted plain_sorted entry_sorted (args_sorted1 _) ?_
 unfold Builtin.«sorted»
 refine wpAny_bind (m:=checkCount "sorted" 1 1 _) (wpAny_pure ?_)
 refine wpAny_bind (qg8 (by exact hh) ho hx hd hf hb hp hl fun vs H1 d1 tk1 pv kp1=> ?_)
 have le:vs.length=(dd ss).length:=by rw[pv.length_eq,List.length_map,Array.length_toList,hn]
 have l64:vs.length<64:=by have:=qg4 ss; lia
 have hv': ∀v∈vs,∃x,L2.RelV (k.up x) v:=fun v z=>hv v (pv.mem_iff.mp z)
 have pm':List.Perm (vs.map k.of) (dd ss):=(pv.map k.of).trans pm
 refine wpAny_bind (wpAny_newList ?_ (by rw[sizeLine_eq]; show vs.length≤_; lia))
 have kp2:St.Kp H1 (H1.push (seqObj "list" vs.toArray 0)):=fun b o q=>Heap.get?_push_of_some _ q
 have hoD:(H1.push (seqObj "list" vs.toArray 0)).get? H1.objs.size=some (seqObj "list" vs.toArray 0):=Heap.get?_push_size _ rfl
 refine wpAny_bind (wpAny_holding (wpAny_call_entry slot_list_sort ⟨_,hoD,rfl⟩ entry_list_sort ?body (args_list_sort _)))
 case body=>
  have at_: ∀{m:Nat},m<vs.length→L2.RelV (k.up ((vs.map k.of).getD m k.d)) (vs.getD m Value.none)∧(vs.map k.of).getD m k.d∈vs.map k.of:=fun {m} hm=>by
   obtain ⟨x,e⟩:=hv' vs[m] (List.getElem_mem hm)
   have e1:(vs.map k.of).getD m k.d=x:=by
    rw[List.getD_eq_getElem?_getD,List.getElem?_map,List.getElem?_eq_getElem hm]
    exact k.ofv x _ e
   refine ⟨?_,?_⟩
   ·rw[e1,List.getD_eq_getElem?_getD,List.getElem?_eq_getElem hm]; exact e
   ·rw[e1]; exact List.mem_map.mpr ⟨_,List.getElem_mem hm,k.ofv x _ e⟩
  refine St.lsort_p (h0:=H1) (kz:=(vs.map k.of).map (qbr k.lt (vs.map k.of))) (κ:=oneType') (s:={ s with heap:=H1.push (seqObj "list" vs.toArray 0),drawn:=d1,toks:=tk1 }) hoD (by simp) l64 kp2 (St.get_none (Nat.le_refl _)) (fun s' kk h2 Q' hq=> ?_) (fun s' kk i j hi hj C hc=> ?_) fun h' tk c p a1 a2 a3=>⟨_,rfl,?_⟩
  ·match vs,h2,hv' with
   | v1::v2::vs,_,hv'=>
    rw[k.kind v1 v2 vs hv']
    exact wpAny_pure hq
  ·have e1: ∀{m:Nat},m<vs.length→((vs.map k.of).map (qbr k.lt (vs.map k.of))).getD m 0=qbr k.lt (vs.map k.of) ((vs.map k.of).getD m k.d):=fun {m} hm=>by
    have hm':m<(vs.map k.of).length:=by rw[List.length_map]; exact hm
    rw[List.getD_eq_getElem?_getD,List.getD_eq_getElem?_getD,List.getElem?_map,List.getElem?_eq_getElem hm']
    rfl
   obtain ⟨f1,m1⟩:=at_ hi
   obtain ⟨f2,m2⟩:=at_ hj
   rw[e1 hi,e1 hj,qcc k.ord m1 m2] at hc
   exact k.lts _ _ _ _ f1 f2 hc
  ·refine wpAny_pure ⟨_,rfl,h _ _ h' d1 tk c _ kp1 (Nat.le_refl _) a1 a3 ?_⟩
   have ep:=qc2 a2
   have e:qbM k.lt (dd ss)=p.toList.map fun j=>(vs.map k.of).getD j k.d:=by
    rw[←qb7 k.ord pm',ep,SR.srt_congr (k':=fun j=>qbr k.lt (vs.map k.of) ((vs.map k.of).getD j k.d)),qbg (k:=qbr k.lt (vs.map k.of)) (f:=fun j=>(vs.map k.of).getD j k.d) (fun b=>rfl),show vs.length=(vs.map k.of).length by simp,Mir.map_range_getD]
    ·rfl
    ·intro b hb'
     have hb2:b<(vs.map k.of).length:=by rw[List.length_map]; exact List.mem_range.mp hb'
     rw[List.getD_eq_getElem?_getD,List.getElem?_map,List.getElem?_eq_getElem hb2,List.getD_eq_getElem?_getD,List.getElem?_eq_getElem hb2]
     rfl
   rw[e,List.map_map]
   have go: ∀l:List Nat,(∀j∈l,j<vs.length)→L2.Vals (l.map (k.up∘fun j=>(vs.map k.of).getD j k.d)) (l.map fun i=>vs.getD i Value.none):=fun l=>by
    induction l with
    | nil=>exact fun _=>.nil
    | cons j l ih=>
     intro hl
     exact .cons (at_ (hl j List.mem_cons_self)).1 (ih fun i hi=>hl i (List.mem_cons_of_mem _ hi))
   exact go _ fun j hj=>(Mir.order_mem a2 j).mp hj
end
def qrn:Value→Str
 | .str x _=>x
 | _=> ""
theorem quq:Ord fun a b:Int=>decide (a<b) where
 irr:=fun a=>decide_eq_false (Int.lt_irrefl a)
 tr:=fun a b c h1 h2=>decide_eq_true (Int.lt_trans (of_decide_eq_true h1) (of_decide_eq_true h2))
 tot:=fun a b h1 h2=>by
  have:=of_decide_eq_false h1
  have:=of_decide_eq_false h2
  lia
def qpf (prog:Program) (w:World):Kd prog w Str where
 knd:=PySem.strKind prog w
 up:=L2.V.str
 d:= ""
 of:=qrn
 lt:=RH.ltS
 ord:=RH.ordS
 isv:=fun x u ⟨t,e⟩=>by subst e; exact ⟨by show Value.isStrOf x (Value.str x t)=true; simp[Value.isStrOf],rfl⟩
 vis:=fun x u h=>Value.isStrOf_shape h
 ofv:=fun x u ⟨t,e⟩=>by subst e; rfl
 kind:=fun v1 v2 vs h=>keyKind_strs (strsAre_map _ fun v hv=>by obtain ⟨x,t,e⟩:=h v hv; exact ⟨x,t,e⟩)
 lts:=fun x y u v ⟨t,e⟩ ⟨t',e'⟩ h=>by subst e e'; exact PySem.W.kas_lt_str h
end SetL
end
section
namespace SetL
open PySem L2 SR
theorem boot_sorted:bootBuiltins "sorted" =some (.builtin "sorted"):=by decide+kernel
theorem boot_set:bootBuiltins "set" =some (.type "set"):=by decide+kernel
section
variable {X:Cx} {a:Expr} {t:TE} {p1 p2 p3 pos:Pos} {α:Type} [DecidableEq α] (k:Kd X.prog X.w α)
theorem qof {pins:List (Addr×Obj)} {σ:St} {H:Hp} {s:Shared} {h':Heap} {d:Drawn} {tk:Nat} (I:Inv X pins σ H s) (k: ∀b u,s.heap.get? b=some u→h'.get? b=some u):Inv X pins σ H { s with heap:=h',drawn:=d,toks:=tk }:=by
 have J:=I.kept (t':=tk) k
 exact ⟨J.ok,J.os,J.bare,J.base,J.loc,J.cell,J.free,J.freeC,J.pin,J.hok,J.len⟩
theorem qnu (ss:List α) {is:List Value} (r:Vals (ss.map k.up) is) (i:Nat) (v:Value) (h:is[i]? =some v):RelV (k.up (ss.getD i k.d)) v:=by
 have hl:=r.length
 rw[List.length_map] at hl
 obtain ⟨hi,_⟩:=List.getElem?_eq_some_iff.mp h
 have hi':i<ss.length:=by lia
 obtain ⟨u,e,ru⟩:=r.get (i:=i) (x:=k.up ss[i]) (by rw[List.getElem?_map,List.getElem?_eq_getElem hi']; rfl)
 rw[h] at e
 cases e
 rw[List.getD_eq_getElem?_getD,List.getElem?_eq_getElem hi']
 exact ru
theorem qlE {pins:List (Addr×Obj)} {σ:St} {H:Hp} {s:Shared} {Q:Addr→List α→Hp→Prop} (hc:X.calm=true) (gt:Gl X "set") (mt:X.mg "set" =none) (ha:PE X a t) (hmono: ∀σ H (Q Q':VK),(∀v H1,Q v H1→Q' v H1)→t σ H Q→t σ H Q')
  (he:starEach [a] X.env=(false,eval a X.env)::starEach [] X.env) (I:Inv X pins σ H s)
  (h:t σ H fun v H1=> ∃l ss,v= .ref l∧SqL X.K H1 l (ss.map k.up)∧ss.length<64∧Q l ss H1):
  wpAny (model X.prog X.w) X.A (eval (.Call (.Name "set" p2) [a] [] p3) X.env) (fun u s'=> ∃S l ss H1,u= .ref S∧Inv X pins σ H1 s'∧ss.length<64∧qgo k.knd s'.heap S (mem (fun i=>ss.getD i k.d) ss.length) (cnt (fun i=>ss.getD i k.d) ss.length)∧Q l ss H1) X.xe s:=by
 refine wpAny_Call_Name_kw (qcw I gt mt boot_set ?_)
 refine PyProof.Rows.callWith_type1 ?_ he rfl
 refine thn (qau ha qaR he p3 pins s σ H (fun vs H1=> ∃l ss,vs=[.ref l]∧SqL X.K H1 l (ss.map k.up)∧ss.length<64∧Q l ss H1) I (hmono σ H _ _ (fun v H1 ⟨l,ss,e,r⟩=>⟨l,ss,by rw[e],r⟩) h)) fun us s1 hq32=> ?_
 obtain ⟨vs,H1,I1,r1,q1⟩:=hq32
 obtain ⟨l,ss,rfl,hS,h64,q⟩:=q1
 cases r1 with
 | cons r rr=>
  cases rr
  cases r
  obtain ⟨its,rv,pl,hz⟩:=I1.list hS
  have hl:=rv.length
  rw[List.length_map] at hl
  have hh:X.A.handled=none:=I1.ok.hd hc
  refine qqL (knd:=k.knd) (key:=fun i=>ss.getD i k.d) hh pl.isList (fun i v hv=> ?_) ?_ fun h' tk S' kp=> ?_
  ·exact k.isv _ _ (qnu k ss rv i v (by simpa using hv))
  ·rw[List.size_toArray]
   have:scanBound=2 ^ 24∨100<scanBound:=.inr (by decide)
   rcases this with z | z<;>lia
  ·refine ⟨_,l,ss,H1,rfl,I1.kept kp,h64,?_,q⟩
   have e:its.toArray.size=ss.length:=by rw[List.size_toArray]; lia
   rw[e] at S'
   exact S'
def tSS (k:Kd X.prog X.w α) (t:TE):TE:=fun σ H Q=>t σ H fun v H1=> ∃l ss,v= .ref l∧SqL X.K H1 l (ss.map k.up)∧ss.length<64∧∀D,H1 D=none→Q (.ref D) (upd H1 D (.lst ((qbM k.lt (dd ss)).map k.up)))
theorem qe1 (hc:X.calm=true) (gs:Gl X "sorted") (ms:X.mg "sorted" =none) (gt:Gl X "set") (mt:X.mg "set" =none) (ha:PE X a t) (hmono: ∀σ H (Q Q':VK),(∀v H1,Q v H1→Q' v H1)→t σ H Q→t σ H Q') (he:starEach [a] X.env=(false,eval a X.env)::starEach [] X.env:=by rfl):
  PE X (.Call (.Name "sorted" p1) [.Call (.Name "set" p2) [a] [] p3] [] pos) (tSS k t):=by
 intro pins s σ H Q I h
 refine wpAny_Call_Name_kw (qcw I gs ms boot_sorted ?_)
 refine PyProof.Rows.callWith_builtin1 (Calls.spliced_cons (thn (qlE k (Q:=fun l ss H1=> ∀D,H1 D=none→Q (.ref D) (upd H1 D (.lst ((qbM k.lt (dd ss)).map k.up)))) hc gt mt ha hmono he I h) fun u s1 ⟨S,l,ss,H1,eu,I1,h64,hS,q⟩=> ?_)) rfl rfl
 subst eu
 refine Calls.spliced_nil ?_
 have hh:X.A.handled=none:=I1.ok.hd hc
 refine qer k (ss:=ss) hh hS h64 fun h1 D h' d tk c vs k1 hD k2 hg rv=> ?_
 have I2:=qof (d:=d) (tk:=tk) I1 k1
 have fD:H1 D=none:=I2.hok.fresh hD
 have I3:Inv X pins σ (upd H1 D (.lst ((qbM k.lt (dd ss)).map k.up))) { s1 with heap:=h',drawn:=d,toks:=tk }:=by
  refine I2.laid (h':=h') (t':=tk) k2 hD ⟨?_,_,c,rv,hg⟩
  rw[List.length_map,sizeLine_eq]
  have:=(qaI (k:=qbr k.lt (dd ss)) (dd ss)).length_eq
  have e:(qbM k.lt (dd ss)).length=(dd ss).length:=this
  have:=qg4 ss
  lia
 exact ⟨.ref D,_,I3,rfl,q D fD⟩
end
end SetL
end
section
namespace PL
open PySem L2 SR SetL
inductive Ky where
 | i (n:Int) | s (x:Str)
 deriving DecidableEq
def qi6:Ky→Ky→Bool
 | .i a,.i b=>decide (a<b)
 | .i _,.s _=>true
 | .s _,.i _=>false
 | .s a,.s b=>RH.ltS a b
theorem qnY:Ord qi6 where
 irr:=fun a=>by
  cases a with
  | i n=>exact decide_eq_false (Int.lt_irrefl n)
  | s x=>exact RH.ordS.irr x
 tr:=fun a b c h1 h2=>match a,b,c,h1,h2 with
  | .i _,.i _,.i _,h1,h2=>decide_eq_true (Int.lt_trans (of_decide_eq_true h1) (of_decide_eq_true h2))
  | .i _,.i _,.s _,_,_=>rfl
  | .i _,.s _,.i _,_,h2=>nomatch h2
  | .i _,.s _,.s _,_,_=>rfl
  | .s _,.i _,_,h1,_=>nomatch h1
  | .s _,.s _,.i _,_,h2=>nomatch h2
  | .s _,.s _,.s _,h1,h2=>RH.ordS.tr _ _ _ h1 h2
 tot:=fun a b h1 h2=>match a,b,h1,h2 with
  | .i x,.i y,h1,h2=>by
   have e1: ¬x<y:=of_decide_eq_false h1
   have e2: ¬y<x:=of_decide_eq_false h2
   congr 1; lia
  | .i _,.s _,h1,_=>nomatch h1
  | .s _,.i _,_,h2=>nomatch h2
  | .s x,.s y,h1,h2=>congrArg Ky.s (RH.ordS.tot x y h1 h2)
def qbB:List Ky→List Ky→Bool
 | [],[]=>false
 | [],_::_=>true
 | _::_,[]=>false
 | a::as,b::bs=>if a=b then qbB as bs else qi6 a b
theorem qhG: ∀a,qbB a a=false
 | []=>rfl
 | a::as=>by
  show (if a=a then qbB as as else qi6 a a)=false
  rw[if_pos rfl]; exact qhG as
theorem qj1: ∀a b c,qbB a b=true→qbB b c=true→qbB a c=true
 | [],[],_,h,_=>by cases h
 | [],_::_,[],_,h=>by cases h
 | [],_::_,_::_,_,_=>rfl
 | _::_,[],_,h,_=>by cases h
 | _::_,_::_,[],_,h=>by cases h
 | a::as,b::bs,c::cs,h1,h2=>by
  have h1':(if a=b then qbB as bs else qi6 a b)=true:=h1
  have h2':(if b=c then qbB bs cs else qi6 b c)=true:=h2
  show (if a=c then qbB as cs else qi6 a c)=true
  by_cases e1:a=b
  ·subst e1
   rw[if_pos rfl] at h1'
   by_cases e2:a=c
   ·rw[if_pos e2] at h2'⊢; exact qj1 as bs cs h1' h2'
   ·rw[if_neg e2] at h2'⊢; exact h2'
  ·rw[if_neg e1] at h1'
   by_cases e2:b=c
   ·subst e2
    rw[if_neg e1]; exact h1'
   ·rw[if_neg e2] at h2'
    have t:=qnY.tr _ _ _ h1' h2'
    by_cases e3:a=c
    ·subst e3; rw[qnY.irr] at t; cases t
    ·rw[if_neg e3]; exact t
theorem qhF: ∀a b,qbB a b=false→qbB b a=false→a=b
 | [],[],_,_=>rfl
 | [],_::_,h,_=>by cases h
 | _::_,[],_,h=>by cases h
 | a::as,b::bs,h1,h2=>by
  have h1':(if a=b then qbB as bs else qi6 a b)=false:=h1
  have h2':(if b=a then qbB bs as else qi6 b a)=false:=h2
  by_cases e:a=b
  ·subst e
   rw[if_pos rfl] at h1' h2'
   rw[qhF as bs h1' h2']
  ·rw[if_neg e] at h1'
   rw[if_neg (Ne.symm e)] at h2'
   exact absurd (qnY.tot _ _ h1' h2') e
theorem qjN:Ord qbB:=⟨qhG,qj1,qhF⟩
def kyT:T→Ky
 | .int i=>.i i
 | .str x=>.s x
 | _=>.i 0
def qbT:T→List Ky
 | .int i=>[.i i]
 | .str x=>[.s x]
 | .tup ts=>ts.map kyT
 | _=>[]
def shT:T→Nat
 | .int _=>0
 | .str _=>1
 | _=>9
def qbq:T→List Nat
 | .int _=>[0]
 | .str _=>[1]
 | .tup ts=>2::ts.map shT
 | _=>[9]
def qcv:List Nat→Bool
 | [0]=>true
 | [1]=>true
 | 2::x::r=>(x::r).all fun n=>n==0||n==1
 | _=>false
def qbH:List T→Bool
 | []=>true
 | t::ts=>qcv (qbq t)&&ts.all fun u=>qbq u==qbq t
def qcY {α:Type} (f:α→List Ky) (ts:List α):List α:=srt (fun t=>qbr qbB (ts.map f) (f t)) ts
def qdh (ts:List T):List T:=qcY qbT ts
section
variable {prog:Program} {w:World} {A:Around} {s:Shared}
open PySem.W PyProof.Rows
def kyV:Ky→V
 | .i n=>.int n
 | .s x=>.str x
def shK:Ky→Nat
 | .i _=>0
 | .s _=>1
theorem qq1 {C:Bool→Shared→Prop}: ∀(as bs:List Ky) (us vs:List Value) (i:Nat),Vals (as.map kyV) us→Vals (bs.map kyV) vs→as.map shK=bs.map shK→C (qbB as bs) s→KatLex prog w A true false C (us.zip vs) i s
 | [],[],_,_,i,.nil,.nil,_,h=>kat_nil h
 | [],_::_,_,_,_,_,_,hs,_=>by cases hs
 | _::_,[],_,_,_,_,_,hs,_=>by cases hs
 | a::as,b::bs,_,_,i,.cons (l₂:=us) ra rs,.cons (l₂:=vs) rb rt,hs,h=>by
  have hs1:shK a=shK b:=(List.cons.inj hs).1
  have hs2:as.map shK=bs.map shK:=(List.cons.inj hs).2
  have h':C (if a=b then qbB as bs else qi6 a b) s:=h
  have go: ∀{p q:Value} {rr:List (Value×Value)} {e:Bool},MeetsSeq.EqGives p q e→(e=true→KatLex prog w A true false C rr (i+1) s)→(e=false→wpAny (model prog w) A (oneLt' (true&&i==0) p q) C (fun _ _=>False) s)→KatLex prog w A true false C ((p,q)::rr) i s:=fun {p q rr e} he h1 h2=>by
   refine kat_cons (he prog w A _ s _ ?_)
   cases e with
   | true=>exact kat_yes (h1 rfl)
   | false=>exact kat_no (h2 rfl)
  cases a with
  | i x=>
   cases b with
   | i y=>
    obtain ⟨t1,rfl⟩:=ra
    obtain ⟨t2,rfl⟩:=rb
    refine go (MeetsSeq.EqGives.int _ _ _ _) (fun e=> ?_) (fun e=> ?_)
    ·have e':=eq_of_beq e
     rw[if_pos (by rw[e'])] at h'
     exact qq1 as bs us vs (i+1) rs rt hs2 h'
    ·have e': ¬Ky.i x=Ky.i y:=fun z=>by cases z; rw[beq_self_eq_true] at e; cases e
     rw[if_neg e'] at h'
     cases z:(i==0) with
     | true=>exact oneLt_int h'
     | false=>exact kat_one _ _ (lt_int (show PySem.W.BoolBack C (.bool _) s from h'))
   | s y=>cases hs1
  | s x=>
   cases b with
   | i y=>cases hs1
   | s y=>
    obtain ⟨t1,rfl⟩:=ra
    obtain ⟨t2,rfl⟩:=rb
    have es:MeetsSeq.EqGives (.str x t1) (.str y t2) (decide (x=y)):=fun _ _ _ _ _ _ hq=>wpAny_eqBool_str hq
    refine go es (fun e=> ?_) (fun e=> ?_)
    ·have e':=of_decide_eq_true e
     rw[if_pos (by rw[e'])] at h'
     exact qq1 as bs us vs (i+1) rs rt hs2 h'
    ·have e': ¬Ky.s x=Ky.s y:=fun z=>by cases z; simp at e
     rw[if_neg e'] at h'
     cases z:(i==0) with
     | true=>exact oneLt_str h'
     | false=>exact kat_one _ _ (PySem.P.lt_str (show PySem.W.BoolBack C (.bool _) s from h'))
end
end PL
end
section
namespace PL
open PySem L2 SR SetL
section
variable {K:PySem.W.Frag} {B:Hp}
def qcz (t:T):Bool:=shT t==0||shT t==1
theorem qdG {t:T} {v:V} (h:qcz t=true) (r:Rep K B t v):v=kyV (kyT t)∧shT t=shK (kyT t):=by
 cases t with
 | int i=>exact ⟨qaq r,rfl⟩
 | str x=>exact ⟨qaD r,rfl⟩
 | non=>cases (show false=true from h)
 | bl b=>cases (show false=true from h)
 | tup b=>cases (show false=true from h)
 | lst b=>cases (show false=true from h)
 | dct b=>cases (show false=true from h)
 | scr b=>cases (show false=true from h)
theorem qfD: ∀{us:List T} {ws:List V},us.all qcz=true→qaE K B us ws→ws=(us.map kyT).map kyV∧us.map shT=(us.map kyT).map shK
 | [],_,_,r=>⟨r.inv0,rfl⟩
 | u::us,_,h,r=>by
  obtain ⟨v,rr,rfl,a,b⟩:=r.inv
  rw[List.all_cons,Bool.and_eq_true] at h
  obtain ⟨e1,e2⟩:=qdG h.1 a
  obtain ⟨e3,e4⟩:=qfD h.2 b
  refine ⟨by rw[List.map_cons,List.map_cons,←e1,←e3],?_⟩
  rw[List.map_cons,List.map_cons,List.map_cons,e2,e4]
end
theorem qb3 {ts:List T} (h:qbH ts=true) {t:T} (ht:t∈ts): ∃s0,qcv s0=true∧∀u∈ts,qbq u=s0:=by
 cases ts with
 | nil=>cases ht
 | cons t0 ts=>
  have h':(qcv (qbq t0)&&ts.all fun u=>qbq u==qbq t0)=true:=h
  rw[Bool.and_eq_true] at h'
  refine ⟨qbq t0,h'.1,fun u hu=> ?_⟩
  rcases List.mem_cons.mp hu with rfl | hu
  ·rfl
  ·exact eq_of_beq (List.all_eq_true.mp h'.2 u hu)
theorem qjk {t:T} (h:qbq t=[0]): ∃i,t= .int i:=by
 cases t with
 | int i=>exact ⟨i,rfl⟩
 | _=>cases h
theorem qjj {t:T} (h:qbq t=[1]): ∃x,t= .str x:=by
 cases t with
 | str i=>exact ⟨i,rfl⟩
 | _=>cases h
theorem qji {t:T} {x:Nat} {r:List Nat} (h:qbq t=2::x::r): ∃us,t= .tup us∧us.map shT=x::r:=by
 cases t with
 | tup us=>exact ⟨us,rfl,(List.cons.inj h).2⟩
 | _=>cases h
theorem qkx {us:List T} {l:List Nat} (h:us.map shT=l) (ho:l.all (fun n=>n==0||n==1)=true):us.all qcz=true:=by
 subst h
 rw[List.all_map] at ho
 refine List.all_eq_true.mpr fun u hu=> ?_
 exact List.all_eq_true.mp ho u hu
theorem qc3 {s0:List Nat} (h:qcv s0=true):s0=[0]∨s0=[1]∨∃x r,s0=2::x::r∧(x::r).all (fun n=>n==0||n==1)=true:=by
 unfold qcv at h
 split at h
 ·exact .inl rfl
 ·exact .inr (.inl rfl)
 ·exact .inr (.inr ⟨_,_,rfl,h⟩)
 ·cases h
open PySem.W PyProof.Rows in
theorem qj9 {prog:Program} {w:World} {A:Around} {E:Value→Shared→Prop} {s:Shared} {Q:SortKind→Shared→Prop} (its:List Value) (h2:2≤its.length) (hv: ∀v∈its,∃x t,v= .str x t) (hq:Q oneType' s):wpAny (model prog w) A (keyKind' its.toArray) Q E s:=
 match its,h2,hv with
 | v1::v2::vs',_,hv=>by
  rw[keyKind_strs (strsAre_map _ hv)]
  exact wpAny_pure hq
theorem qdm {h:Heap} {P:Value→Prop}: ∀(l:List Value),(∀v∈l,∃f,(∃a o xs n,v= .ref a∧h.get? a=some o∧o.cls= .type "tuple" ∧o.data= .seq xs n∧xs[0]? =some f)∧P f)→∃fs,PySem.W.KatTups h l fs∧fs.length=l.length∧∀f∈fs,P f
 | [],_=>⟨[],trivial,rfl,fun _ hf=>nomatch hf⟩
 | v::l,hl=>by
  obtain ⟨f,h1,h2⟩:=hl v List.mem_cons_self
  obtain ⟨fs,h3,h4,h5⟩:=qdm l fun u hu=>hl u (List.mem_cons_of_mem _ hu)
  refine ⟨f::fs,⟨h1,h3⟩,by simp[h4],fun g hg=> ?_⟩
  rcases List.mem_cons.mp hg with rfl | hg
  ·exact h2
  ·exact h5 g hg
section
variable {X:Cx}
open PySem.W PyProof.Rows in
theorem qgd:qdC X (.builtin "sorted") (fun xs H Q=> ∃(B:Hp) (a:Addr) (vs:List V) (ts:List T),xs=[.ref a]∧Le B H∧SqL X.K H a vs∧qaE X.K B ts vs∧ts.length<64∧qbH ts=true∧
  ∀(D:Addr) (ys:List V),H D=none→qaE X.K B (qdh ts) ys→Q (.ref D) (L2.upd H D (.lst ys))):=by
 intro pins s σ H xs us Q I r h
 obtain ⟨B,a,vs,ts,rfl,le,hS,hR,h64,hok,q⟩:=h
 obtain ⟨u,rfl,ru⟩:=qek r
 cases ru
 obtain ⟨its,rv,pl,hz⟩:=I.list hS
 have l1:=rv.length
 have l2:=hR.length
 have elem: ∀{m:Nat},m<ts.length→Rep X.K B (ts.getD m .non) (vs.getD m .non)∧RelV (vs.getD m .non) (its.getD m Value.none)∧ts.getD m .non∈ts:=fun {m} hm=>⟨hR.getD m hm,qcW rv m,by
  rw[List.getD_eq_getElem?_getD,List.getElem?_eq_getElem hm]; exact List.getElem_mem hm⟩
 have key1: ∀{m:Nat},m<ts.length→((ts.map qbT).map (qbr qbB (ts.map qbT))).getD m 0=qbr qbB (ts.map qbT) (qbT (ts.getD m .non)):=fun {m} hm=>by
  rw[List.getD_eq_getElem?_getD,List.getElem?_map,List.getElem?_map,List.getElem?_eq_getElem hm,List.getD_eq_getElem?_getD,List.getElem?_eq_getElem hm]
  rfl
 have main: ∀κ:SortKind,(∀s':Shared,St.Kp s.heap s'.heap→2≤its.length→∀(Q:SortKind→Shared→Prop) (E:Value→Shared→Prop),Q κ s'→wpAny (model X.prog X.w) X.A.in1.in1 (keyKind' its.toArray) Q E s')→
   (∀s':Shared,St.Kp s.heap s'.heap→∀i j,i<ts.length→j<ts.length→∀C:Bool→Shared→Prop,C (qbB (qbT (ts.getD i .non)) (qbT (ts.getD j .non))) s'→wpAny (model X.prog X.w) X.A.in1.in1 (keyLt' κ (its.getD i Value.none) (its.getD j Value.none)) C (fun _ _=>False) s')→
   wpAny (model X.prog X.w) X.A (call (.builtin "sorted") [.ref a]) (EP X pins σ Q) X.xe s:=fun κ kind cmp=>by
  refine St.sorted_p (kz:=(ts.map qbT).map (qbr qbB (ts.map qbT))) (κ:=κ) pl.isList (by simp; lia) (by lia) kind (fun s' k i j hi hj C hc=> ?_) fun D h' tk c p hD kp ho hget=> ?_
  ·have hi':i<ts.length:=by lia
   have hj':j<ts.length:=by lia
   rw[key1 hi',key1 hj',qcc qjN (List.mem_map.mpr ⟨_,(elem hi').2.2,rfl⟩) (List.mem_map.mpr ⟨_,(elem hj').2.2,rfl⟩)] at hc
   exact cmp s' k i j hi' hj' C hc
  ·have fD:H D=none:=I.hok.fresh hD
   have I3:Inv X pins σ (L2.upd H D (.lst (p.toList.map fun j=>vs.getD j .non))) { s with heap:=h',toks:=tk }:=by
    refine I.laid kp hD ⟨?_,_,c,L2.vals_pick rv p.toList,hget⟩
    rw[List.length_map,Array.length_toList,ho.1.sz,sizeLine_eq]
    lia
   refine ⟨.ref D,_,I3,rfl,q D _ fD ?_⟩
   have ep:=qc2 ho
   have e:qdh ts=p.toList.map fun j=>ts.getD j .non:=by
    unfold qdh qcY
    rw[ep,srt_congr (k':=fun j=>qbr qbB (ts.map qbT) (qbT (ts.getD j .non))),qbg (k:=fun t=>qbr qbB (ts.map qbT) (qbT t)) (f:=fun j=>ts.getD j .non) (fun b=>rfl),show its.length=ts.length by lia,Mir.map_range_getD]
    intro b hb
    have hb':b<ts.length:=by have:=List.mem_range.mp hb; lia
    exact key1 hb'
   rw[e]
   have go: ∀l:List Nat,(∀j∈l,j<ts.length)→qaE X.K B (l.map fun j=>ts.getD j .non) (l.map fun j=>vs.getD j .non):=fun l=>by
    induction l with
    | nil=>exact fun _=>.nil
    | cons j l ih=>exact fun hl=>.cons (elem (hl j List.mem_cons_self)).1 (ih fun i hi=>hl i (List.mem_cons_of_mem _ hi))
   exact go _ fun j hj=>by have:=(Mir.order_mem ho j).mp hj; lia
 rcases Nat.eq_zero_or_pos ts.length with z | z
 ·exact main oneType' (fun s' k h2=>by lia) (fun s' k i j hi=>by lia)
 ·obtain ⟨s0,ok0,sh⟩:=qb3 hok (elem z).2.2
  have hInts:s0=[0]→wpAny (model X.prog X.w) X.A (call (.builtin "sorted") [.ref a]) (EP X pins σ Q) X.xe s:=fun e0=>by
   have at_: ∀{m:Nat},m<ts.length→∃n t,ts.getD m .non= .int n∧its.getD m Value.none= .int n t:=fun {m} hm=>by
    obtain ⟨a1,a2,a3⟩:=elem hm
    obtain ⟨n,en⟩:=qjk (e0▸sh _ a3)
    rw[en] at a1
    rw[qaq a1] at a2
    obtain ⟨t,et⟩:=a2
    exact ⟨n,t,en,et⟩
   refine main oneType' (fun s' k h2 Q' E' hq=> ?_) (fun s' k i j hi hj C hc=> ?_)
   ·have hI: ∀l:List Value,(∀v∈l,∃n t,v= .int n t)→∃ns,IntsAre l ns:=fun l=>by
     induction l with
     | nil=>exact fun _=>⟨[],.nil⟩
     | cons v l ih=>
      intro hl
      obtain ⟨n,t,rfl⟩:=hl v List.mem_cons_self
      obtain ⟨ns,hn⟩:=ih fun u hu=>hl u (List.mem_cons_of_mem _ hu)
      exact ⟨n::ns,.cons n t hn⟩
    obtain ⟨ns,hns⟩:=hI its fun v hv=>by
     obtain ⟨m,hm,rfl⟩:=List.mem_iff_getElem.mp hv
     obtain ⟨n,t,_,e⟩:=at_ (m:=m) (by lia)
     rw[List.getD_eq_getElem?_getD,List.getElem?_eq_getElem hm] at e
     exact ⟨n,t,e⟩
    rw[ksk_kind (keys:=its.toArray) (by simpa using hns) (by simpa using h2)]
    exact wpAny_pure hq
   ·obtain ⟨n1,t1,f1,g1⟩:=at_ hi
    obtain ⟨n2,t2,f2,g2⟩:=at_ hj
    rw[g1,g2]
    rw[f1,f2] at hc
    refine kat_lt_int ?_
    have e:qbB (qbT (.int n1)) (qbT (.int n2))=decide (n1<n2):=by
     show (if Ky.i n1=Ky.i n2 then false else decide (n1<n2))=_
     by_cases c:n1=n2
     ·subst c; rw[if_pos rfl]; exact (decide_eq_false (Int.lt_irrefl _)).symm
     ·rw[if_neg (fun z=>c (by cases z; rfl))]
    rw[←e]; exact hc
  have hStrs:s0=[1]→wpAny (model X.prog X.w) X.A (call (.builtin "sorted") [.ref a]) (EP X pins σ Q) X.xe s:=fun e0=>by
   have at_: ∀{m:Nat},m<ts.length→∃n t,ts.getD m .non= .str n∧its.getD m Value.none= .str n t:=fun {m} hm=>by
    obtain ⟨a1,a2,a3⟩:=elem hm
    obtain ⟨n,en⟩:=qjj (e0▸sh _ a3)
    rw[en] at a1
    rw[qaD a1] at a2
    obtain ⟨t,et⟩:=a2
    exact ⟨n,t,en,et⟩
   refine main oneType' (fun s' k h2 Q' E' hq=> ?_) (fun s' k i j hi hj C hc=> ?_)
   ·have hv': ∀v∈its,∃x t,v= .str x t:=fun v hv=>by
     obtain ⟨m,hm,rfl⟩:=List.mem_iff_getElem.mp hv
     obtain ⟨n,t,_,e⟩:=at_ (m:=m) (by lia)
     rw[List.getD_eq_getElem?_getD,List.getElem?_eq_getElem hm] at e
     exact ⟨n,t,e⟩
    exact qj9 its h2 hv' hq
   ·obtain ⟨n1,t1,f1,g1⟩:=at_ hi
    obtain ⟨n2,t2,f2,g2⟩:=at_ hj
    rw[g1,g2]
    rw[f1,f2] at hc
    refine kas_lt_str ?_
    have e:qbB (qbT (.str n1)) (qbT (.str n2))=decide (n1.cps.toList<n2.cps.toList):=by
     show (if Ky.s n1=Ky.s n2 then false else RH.ltS n1 n2)=_
     by_cases c:n1=n2
     ·subst c; rw[if_pos rfl]; exact (RH.ordS.irr n1).symm
     ·rw[if_neg (fun z=>c (by cases z; rfl))]; rfl
    rw[←e]; exact hc
  have hTups: ∀x r,s0=2::x::r→(x::r).all (fun n=>n==0||n==1)=true→wpAny (model X.prog X.w) X.A (call (.builtin "sorted") [.ref a]) (EP X pins σ Q) X.xe s:=fun x r e0 ho=>by
   have at_: ∀{m:Nat},m<ts.length→∃us p its2,ts.getD m .non= .tup us∧us.map shT=x::r∧its.getD m Value.none= .ref p∧IsTup s.heap p (List.toArray its2)∧Vals ((us.map kyT).map kyV) its2∧(us.map kyT).map shK=x::r:=fun {m} hm=>by
    obtain ⟨a1,a2,a3⟩:=elem hm
    obtain ⟨us,en,es⟩:=qji (e0▸sh _ a3)
    rw[en] at a1
    obtain ⟨p,ws,ep,sq,rs⟩:=qaZ a1
    rw[ep] at a2
    have g:its.getD m Value.none= .ref p:=a2
    obtain ⟨its2,rv2,pl2,_⟩:=I.tuple (le.sqT sq)
    obtain ⟨f1,f2⟩:=qfD (qkx es ho) rs
    exact ⟨us,p,its2,en,es,g,pl2,f1▸rv2,f2▸es⟩
   refine main (tuples' true) (fun s' k h2 Q' E' hq=> ?_) (fun s' k i j hi hj C hc=> ?_)
   ·have hx:x=0∨x=1:=by
     rw[List.all_cons,Bool.and_eq_true] at ho
     have:=ho.1
     simpa using this
    have fst: ∀v∈its,∃f,(∃a o xs n,v= .ref a∧s'.heap.get? a=some o∧o.cls= .type "tuple" ∧o.data= .seq xs n∧xs[0]? =some f)∧((x=0∧∃i t,f=Value.int i t)∨(x=1∧∃i t,f=Value.str i t)):=fun v hv=>by
     obtain ⟨m,hm,rfl⟩:=List.mem_iff_getElem.mp hv
     obtain ⟨us,p,w1,f1,_,g1,i1,v1,k1⟩:=at_ (m:=m) (by lia)
     rw[List.getD_eq_getElem?_getD,List.getElem?_eq_getElem hm] at g1
     obtain ⟨o1,e1,c1,n1,d1⟩:=i1
     cases hk:us.map kyT with
     | nil=>rw[hk] at k1; cases k1
     | cons ky kr=>
      rw[hk] at v1 k1
      cases v1 with
      | cons r0 rr=>
       have ks:shK ky=x:=(List.cons.inj k1).1
       cases ky with
       | i n=>
        obtain ⟨tk,rfl⟩:=r0
        exact ⟨_,⟨p,o1,_,n1,g1,k _ _ e1,c1,d1,rfl⟩,.inl ⟨ks.symm,n,tk,rfl⟩⟩
       | s n=>
        obtain ⟨tk,rfl⟩:=r0
        exact ⟨_,⟨p,o1,_,n1,g1,k _ _ e1,c1,d1,rfl⟩,.inr ⟨ks.symm,n,tk,rfl⟩⟩
    obtain ⟨fs,k1,k2,k3⟩:=qdm its fst
    rcases hx with rfl | rfl
    ·refine PySem.W.kat_kind k1 (by lia) (T:=.type "int") (fun v hv=> ?_) (by decide) ?_
     ·rcases k3 v hv with ⟨_,i,t,rfl⟩ | ⟨z,_⟩
      ·exact PySem.W.Looks.of_pure rfl
      ·cases z
     ·exact hq
    ·refine PySem.W.kat_kind k1 (by lia) (T:=.type "str") (fun v hv=> ?_) (by decide) ?_
     ·rcases k3 v hv with ⟨z,_⟩ | ⟨_,i,t,rfl⟩
      ·cases z
      ·exact PySem.W.Looks.of_pure rfl
     ·exact hq
   ·obtain ⟨u1,p1,w1,f1,_,g1,i1,v1,k1⟩:=at_ hi
    obtain ⟨u2,p2,w2,f2,_,g2,i2,v2,k2⟩:=at_ hj
    rw[g1,g2]
    rw[f1,f2] at hc
    obtain ⟨o1,e1,_,n1,d1⟩:=i1
    obtain ⟨o2,e2,_,n2,d2⟩:=i2
    refine kat_lt (k _ _ e1) d1 (k _ _ e2) d2 ?_
    have hl:w1.length=w2.length:=by
     have h1:=v1.length
     have h2:=v2.length
     have h3:=congrArg List.length (k1.trans k2.symm)
     simp only[List.length_map] at h1 h2 h3
     lia
    rw[show decide ((List.toArray w1).size<(List.toArray w2).size)=false by simp[hl]]
    exact qq1 _ _ _ _ 0 v1 v2 (k1.trans k2.symm) hc
  rcases qc3 ok0 with e | e | ⟨x,r,e,ho⟩
  ·exact hInts e
  ·exact hStrs e
  ·exact hTups x r e ho
end
end PL
end
section
namespace PL
open PySem L2 SR SetL
section
variable {M:Md} {X:Cx} {e a b:Expr} {pos p1 p2 p3:Pos} {da db:Ro→Rs T} {dq:Ro→Rs (Bool×List T)}
theorem tQ.mono {σ:St} {H:Hp} {Q Q':VK} (f: ∀v H1,Q v H1→Q' v H1) (h:tQ M dq σ H Q):tQ M dq σ H Q':=by
 obtain ⟨H0,B0,ρ,B,ev,w⟩:=h
 exact tQ.of ev (Wnt.mono (qdc.mp w) fun q k p vs H' B' g m hq r=>f _ _ (k p vs H' B' g m hq r))
def qeq:T→Str
 | .str x=>x
 | _=> ""
def qkl:T→Bool
 | .str _=>true
 | _=>false
theorem qfC {K:PySem.W.Frag} {B:Hp}: ∀{ts:List T} {vs:List V},ts.all qkl=true→qaE K B ts vs→vs=(ts.map qeq).map V.str
 | [],_,_,r=>r.inv0
 | t::ts,_,h,r=>by
  obtain ⟨v,rr,rfl,a,b⟩:=r.inv
  rw[List.all_cons,Bool.and_eq_true] at h
  cases t with
  | str x=>rw[qaD a,qfC h.2 b]; rfl
  | _=>exact absurd h.1 Bool.false_ne_true
theorem qcr {K:PySem.W.Frag} {B:Hp}: ∀(ss:List Str),qaE K B (ss.map T.str) (ss.map V.str)
 | []=>.nil
 | s::ss=>.cons qhz (qcr ss)
def qel (ss:List Str):List Str:=qbM RH.ltS (dd ss)
def qka (q:Bool×List T):Rs (List T):=if (q.1=true∧q.2.length<64)∧q.2.all qkl=true then .ok ((qel (q.2.map qeq)).map T.str) else .no
theorem qou (hc:X.calm=true) (gs:Gl X "sorted") (ms:X.mg "sorted" =none) (gt:Gl X "set") (mt:X.mg "set" =none) (ha:DQ M X a dq) (he:starEach [a] X.env=(false,eval a X.env)::starEach [] X.env:=by rfl):
  DF M X (.Call (.Name "sorted" p1) [.Call (.Name "set" p2) [a] [] p3] [] pos) (qlm qka dq):=by
 refine PE.weak (qe1 (qpf X.prog X.w) hc gs ms gt mt ha (fun σ H Q Q' f h=>tQ.mono f h) he) fun σ H Q hq35=> ?_
 obtain ⟨H0,B0,ρ,B,ev,w⟩:=hq35
 refine tQ.of ev (Wnt.mono (Wnt.bind (qbL.mp w)) fun q w1 p vs H1 B1 g1 m1 hq r1=> ?_)
 have ev1:=ev.grow g1 m1
 unfold qka at w1
 split at w1
 ·rename_i hcc
  rw[if_pos hcc.1.1] at hq
  refine ⟨p,q.2.map qeq,rfl,SqL.of (by rw[qfC hcc.2 r1] at hq; exact hq),by rw[List.length_map]; exact hcc.1.2,fun D hD=> ?_⟩
  obtain ⟨g,m',bp⟩:=qcd (M:=M) (ws:=(qel (q.2.map qeq)).map V.str) ev1.bh ev1.bt m1 hD
  exact w1 D _ _ B1 (g1.trans g) m' (qbD g1.gx hD) bp qan (qcr _)
 ·exact w1.elim
def qfV:T→Bool
 | .int _=>true
 | _=>false
def qdt:T→Int
 | .int b=>b
 | _=>0
theorem qdU {K:PySem.W.Frag} {B:Hp}: ∀{ts:List T} {vs:List V},ts.all qfV=true→qaE K B ts vs→vs=(ts.map qdt).map V.int
 | [],_,_,r=>r.inv0
 | t::ts,_,h,r=>by
  obtain ⟨v,rr,rfl,a,b⟩:=r.inv
  rw[List.all_cons,Bool.and_eq_true] at h
  cases t with
  | int x=>rw[qaq a,qdU h.2 b]; rfl
  | _=>exact absurd h.1 Bool.false_ne_true
def qd3 (ss:List Int):List Int:=qbM (fun a b=>decide (a<b)) (dd ss)
def qim (q:Bool×List T):Rs (List T):=if (q.1=true∧q.2.length<64)∧qbH q.2=true then .ok (qdh q.2) else .no
theorem qkK (h:PE X e (tCB (fun xs H Q=> ∃(B:Hp) (a:Addr) (vs:List V) (ts:List T),xs=[.ref a]∧Le B H∧SqL X.K H a vs∧qaE X.K B ts vs∧ts.length<64∧qbH ts=true∧
  ∀(D:Addr) (ys:List V),H D=none→qaE X.K B (qdh ts) ys→Q (.ref D) (L2.upd H D (.lst ys))) (qcp (tQ M dq) qhk))) (hK:X.K=M.K:=by rfl):DF M X e (qlm qim dq):=
 qqw h (fun H B p vs q c Q le bt m hq r ec k=>by
  unfold qim at ec
  split at ec
  ·rename_i hcc
   cases ec
   unfold qhh at hq
   rw[if_pos hcc.1.1] at hq
   refine ⟨B,p,vs,q.2,rfl,le,SqL.of hq,by rw[hK]; exact r,hcc.1.2,hcc.2,fun D ys hD ry=> ?_⟩
   obtain ⟨g,m',bp⟩:=qcd (M:=M) (ws:=ys) le bt m hD
   exact k D ys _ B g m' hD bp qan (by rw[←hK]; exact ry)
  ·cases ec) (fun q c z=>by unfold qim at z; split at z<;>cases z)
def qiJ:T→Bool
 | .bl _=>true
 | _=>false
def qha:T→Bool
 | .bl b=>b
 | _=>false
theorem qeX {K:PySem.W.Frag} {B:Hp}: ∀{ts:List T} {vs:List V},ts.all qiJ=true→qaE K B ts vs→vs=(ts.map qha).map V.bl
 | [],_,_,r=>r.inv0
 | t::ts,_,h,r=>by
  obtain ⟨v,rr,rfl,a,b⟩:=r.inv
  rw[List.all_cons,Bool.and_eq_true] at h
  cases t with
  | bl x=>rw[qa8 a,qeX h.2 b]; rfl
  | _=>exact absurd h.1 Bool.false_ne_true
def qln (q:Bool×List T):Rs T:=if q.1=true∧q.2.all qiJ=true then .ok (.bl (q.2.all qha)) else .no
theorem qh4 (h:PE X e (tCB (fun xs H Q=> ∃(a:Addr) (bs:List Bool),xs=[.ref a]∧SqL X.K H a (bs.map V.bl)∧Q (.bl (bs.all id)) H) (qcp (tQ M dq) qhk))):DE M X e (dCQ qln dq):=
 qf6 h (fun H B p vs q c Q le bt m hq r ec k=>by
  unfold qln at ec
  split at ec
  ·rename_i hcc
   cases ec
   unfold qhh at hq
   rw[if_pos hcc.1] at hq
   refine ⟨p,q.2.map qha,rfl,SqL.of (by rw[←qeX hcc.2 r]; exact hq),?_⟩
   rw[List.all_map]
   exact k _ H B (.refl le bt) m qcR
  ·cases ec) (fun q c z=>by unfold qln at z; split at z<;>cases z)
def qq3:T→T→Rs T
 | .int i,.int j=>.ok (.int (if j<i then j else i))
 | _,_=>.no
def dB2 (g:T→T→Rs T) (da db:Ro→Rs T):Ro→Rs T:=fun ρ=>da ρ>>=fun x=>db ρ>>=fun y=>g x y
theorem qqz (h:PE X e (tCB (fun xs H Q=> ∃i j,xs=[.int i,.int j]∧Q (.int (if j<i then j else i)) H) (qcp (tP M da) (qcp (tP M db) qhk)))):DE M X e (dB2 qq3 da db):=by
 refine PE.weak h fun σ H Q hq128=> ?_
 obtain ⟨H0,B0,ρ,B,ev,w⟩:=hq128
 refine tP.of ev (Wnt.mono (Wnt.bind (qaJ.mp w)) fun x w1 v H1 B1 g1 m1 r1=> ?_)
 have ev1:=ev.grow g1 m1
 refine tP.of ev1 (Wnt.mono (Wnt.bind w1) fun y w2 v2 H2 B2 g2 m2 r2=> ?_)
 cases x with
 | int i=>
  cases y with
  | int j=>
   rw[qaq r1,qaq r2]
   exact ⟨i,j,rfl,w2 _ H2 B2 (g1.trans g2) m2 qbs⟩
  | _=>exact w2.elim
 | _=>exact w2.elim
def tyT:T→String
 | .non=> "NoneType" | .bl _=> "bool" | .int _=> "int" | .str _=> "str" | .tup _=> "tuple" | .lst _=> "list" | _=> ""
def qhN (N:String) (t:T):Bool:=tyT t==N||(N== "int" &&tyT t== "bool")
def qgU (N:String):T→Rs T
 | .dct _=>.no
 | .scr _=>.no
 | t=>.ok (.bl (qhN N t))
def qle (K:PySem.W.Frag) (N:String):Prop:= ∀m∈["NoneType", "bool", "int", "str", "tuple", "list"],PySem.W.kitOne K (.type m) (.type N)=some (m==N||(N== "int" &&m== "bool"))
theorem qb1 {N:String} (hk:qle X.K N):qdC X (.builtin "isinstance") (fun xs H Q=> ∃B x t c,xs=[x,.ty N]∧Le B H∧Rep X.K B t x∧qgU N t= .ok c∧∀v,Rep X.K B c v→Q v H):=by
 intro pins s σ H xs us Q I r h
 obtain ⟨B,x,t,c,rfl,le,rx,ec,q⟩:=h
 obtain ⟨u,w',rfl,ru,rw'⟩:=qnv r
 cases rw'
 have fin: ∀{m:String},tyT t=m→m∈["NoneType", "bool", "int", "str", "tuple", "list"]→qiY X.K H x (.type m)→qgU N t= .ok (.bl (qhN N t))→wpAny (model X.prog X.w) X.A (call (.builtin "isinstance") [u,.type N]) (EP X pins σ Q) X.xe s:=fun {m} e1 e2 ty e3=>by
  rw[e3] at ec
  cases ec
  refine qkk I ru ty (hk m e2) fun tk=>⟨.bl _,H,I.tok tk,rfl,q _ ?_⟩
  have:(m==N||(N== "int" &&m== "bool"))=qhN N t:=by unfold qhN; rw[e1]
  rw[this]
  exact qcR
 cases t with
 | non=>cases qbk rx; exact fin (m:= "NoneType") rfl (by simp) .non rfl
 | bl y=>cases qa8 rx; exact fin (m:= "bool") rfl (by simp) (.bl y) rfl
 | int y=>cases qaq rx; exact fin (m:= "int") rfl (by simp) (.int y) rfl
 | str y=>cases qaD rx; exact fin (m:= "str") rfl (by simp) (.str y) rfl
 | lst ts=>
  obtain ⟨p,vs,rfl,hp,_⟩:=qbl rx
  exact fin (m:= "list") rfl (by simp) (.lst (le _ _ hp)) rfl
 | tup ts=>
  obtain ⟨p,vs,rfl,hp,_⟩:=qaZ rx
  cases ru
  cases ec
  obtain ⟨its,rv,⟨o,h1,h2,_⟩,_⟩:=I.tuple (le.sqT hp)
  refine PySem.W.kia_one PySem.W.kitx_tuple I.kIn ⟨o,h1,h2⟩ (hk "tuple" (by simp)) (fun z=>nomatch z) fun tk=>⟨.bl _,H,I.tok tk,rfl,q _ ?_⟩
  exact qcR
 | dct _=>cases ec
 | scr _=>cases ec
def qg6 (N:String) (da:Ro→Rs T):Ro→Rs T:=fun ρ=>da ρ>>=qgU N
theorem qfk {N:String} (h:PE X e (tCB (fun xs H Q=> ∃B x t c,xs=[x,.ty N]∧Le B H∧Rep X.K B t x∧qgU N t= .ok c∧∀v,Rep X.K B c v→Q v H) (qcp (tP M da) (qcp (tC (.ty N)) qhk)))) (hK:X.K=M.K:=by rfl):DE M X e (qg6 N da):=by
 refine PE.weak h fun σ H Q hq180=> ?_
 obtain ⟨H0,B0,ρ,B,ev,w⟩:=hq180
 refine tP.of ev (Wnt.mono (Wnt.bind (qaJ.mp w)) fun x w1 v H1 B1 g1 m1 r1=> ?_)
 have ev1:=ev.grow g1 m1
 cases z:qgU N x with
 | no=>rw[z] at w1; exact w1.elim
 | ex c=>exfalso; cases x<;>cases z
 | ok c=>
  rw[z] at w1
  exact ⟨B1,v,x,c,rfl,ev1.bh,by rw[hK]; exact r1,z,fun v' rv'=>w1 v' H1 B1 g1 m1 (by rw[←hK]; exact rv')⟩
end
end PL
end
section
namespace PL
open PySem L2 SR SetL
section
variable {M:Md} {X:Cx} {e:Expr} {dq:Ro→Rs (Bool×List T)} {P:Addr} {lpos:Pos} {qual:Str} {i:Nat}
end
end PL
end
section
namespace PL
open PySem L2 SR SetL
def Kn (P:Program) (w:World) (K:PySem.W.Frag) (mg:Str→Option Value) (base:Heap) (G:Gam) (C:Str→Addr) (x:Str) (ps:List Str) (k:Nat) (fT:List T→Rs T):Prop:=
 ∃f fd,qbG P w K mg base CX0 k f fd ps (spP K G C fT)∧mg x=some (.ref f)∧PySem.W.keepIn K (.ref f)=true∧qfp K fd ps []
section
variable {M:Md} {X:Cx} {e a b:Expr} {es:List Expr} {pos p p1 p2 p3:Pos} {da db:Ro→Rs T} {ds:Ro→Rs (List T)} {dq:Ro→Rs (Bool×List T)} {x:Str} {k:Nat} {ps:List Str} {fT:List T→Rs T}
theorem qad (F:Kn X.prog X.w X.K X.mg X.base M.G M.C x ps k fT) (hK:X.K=M.K) (hr:qcD k X.A) (hg:Gl X x) (ha:DA M X (e::es) ds) (hdb:(x==("__debug__" :Str))=false:=by decide)
  (he:starEach (e::es) X.env=(false,eval e X.env)::starEach es X.env:=by rfl) (hpl:(backTo pos (starEach es X.env)).any (·.1)=false:=by rfl):DE M X (.Call (.Name x p) (e::es) [] pos) (qag fT ds):=by
 obtain ⟨f,fd,G,m,kk,bb⟩:=F
 rw[hK] at G
 exact qow (by rw[hK]; exact G) hr hg m kk bb qsa ha hdb he hpl
def qnn (i j:Nat) (da db:Ro→Rs T):Ro→Rs Out:=fun ρ=>da ρ>>=fun t=>db ρ>>=fun u=>.ok (.nx ((ρ.set i (.fz t)).set j (.fz u)))
def quW (i j:Nat) (da:Ro→Rs T) (ds:Ro→Rs (List T)):Ro→Rs Out:=fun ρ=>da ρ>>=fun t=>ds ρ>>=fun u=>.ok (.nx ((ρ.set i (.fz t)).set j (.ow u)))
theorem ql0 {i j:Nat} {D:qmQ} {σ:St} {H:Hp} (h:tS M (qnn i j da db) D σ H):qte i j (qcp (tP M da) (qcp (tP M db) qhk)) D σ H:=by
 obtain ⟨H0,B0,ρ,B,ev,w⟩:=h
 refine tP.of ev (Wnt.mono (Wnt.bind w) fun t w1 v H1 B1 g1 m1 r1=> ?_)
 have ev1:=ev.grow g1 m1
 refine tP.of ev1 (Wnt.mono (Wnt.bind w1) fun u w2 v2 H2 B2 g2 m2 r2=> ?_)
 have ev2:=ev1.grow g2 m2
 exact ⟨v,v2,rfl,w2 _ H2 B2 ((ev2.set (i:=i) (r1.mono g2.bb)).set r2) (g1.bb.trans g2.bb)⟩
def quV (dg:T→Ro→Rs Ro) (da:Ro→Rs T):Ro→Rs Out:=fun ρ=>da ρ>>=fun t=>dg t ρ>>=fun ρ'=>.ok (.nx ρ')
def qoT:T→Rs T
 | .str z=>if z.length≤1000 then .ok (.int z.length) else .no
 | .tup ts=>.ok (.int ts.length)
 | .lst ts=>.ok (.int ts.length)
 | _=>.no
def qqF (da:Ro→Rs T):Ro→Rs T:=fun ρ=>da ρ>>=qoT
theorem qkN (hg:Gl X "len") (hm:X.mg "len" =none) (h:DE M X a da) (hK:X.K=M.K:=by rfl) (he:starEach [a] X.env=(false,eval a X.env)::starEach [] X.env:=by rfl):DE M X (.Call (.Name "len" p) [a] [] pos) (qqF da):=by
 have hc:qdC X (.builtin "len") (fun xs H Q=>(∃p ys,xs=[.ref p]∧(SqL X.K H p ys∨SqT X.K H p ys)∧Q (.int ys.length) H)∨∃z,xs=[.str z]∧z.length≤sizeLine∧Q (.int z.length) H):=fun pins s σ H xs us Q I r h=>h.elim (qdv pins s σ H xs us Q I r) (qgf pins s σ H xs us Q I r)
 refine PE.weak (qaO hc hg hm PySem.boot_len (qau h qaR he) (by decide) (by decide) he rfl) fun σ H Q hq51=> ?_
 obtain ⟨H0,B0,ρ,B,ev,w⟩:=hq51
 refine tP.of ev (Wnt.mono (Wnt.bind (qaJ.mp w)) fun t w1 v H1 B1 g1 m1 r1=> ?_)
 have ev1:=ev.grow g1 m1
 cases t with
 | str z=>
  rw[qaD r1]
  unfold qoT at w1
  dsimp only at w1
  split at w1
  ·rename_i hz
   exact .inr ⟨z,rfl,Nat.le_trans hz (by decide),w1 _ H1 B1 g1 m1 qbs⟩
  ·exact w1.elim
 | tup ts=>
  obtain ⟨q,vs,rfl,sq,rs⟩:=qaZ r1
  exact .inl ⟨q,vs,rfl,.inr (by rw[hK]; exact ev1.bh.sqT sq),by rw[rs.length]; exact w1 _ H1 B1 g1 m1 qbs⟩
 | lst ts=>
  obtain ⟨q,vs,rfl,sq,rs⟩:=qbl r1
  exact .inl ⟨q,vs,rfl,.inl (SqL.of (ev1.bh _ _ sq)),by rw[rs.length]; exact w1 _ H1 B1 g1 m1 qbs⟩
 | _=>exact w1.elim
end
end PL
end
section
namespace PL
open PySem L2 SR SetL
def names:List Str:=["len", "isinstance", "all", "min", "sorted", "set", "tuple", "list", "int", "bool", "str", "range", "zip", "sum", "any", "max"]
theorem hu8 {k:Nat} {A:Around} (r:qcD k A):A.units+8<cLine:=by have:=r.units; lia
def qdB (da:Ro→Rs T):Ro→Rs T:=fun ρ=>da ρ>>=qtq
theorem qdM:bootBuiltins "all" =some (.builtin "all"):=by decide+kernel
theorem qmG:bootBuiltins "min" =some (.builtin "min"):=by decide+kernel
theorem qiT:bootBuiltins "tuple" =some (.type "tuple"):=by decide+kernel
section
variable {M:Md} {X:Cx} {a:Expr} {pos:Pos} {da:Ro→Rs T}
theorem qf5 (h:DE M X a da):DE M X (.UnaryOp .USub a pos) (qdB da):=by
 refine PE.weak (qr8 qo3 h) fun σ H Q hq15=> ?_
 obtain ⟨H0,B0,ρ,B,ev,w⟩:=hq15
 refine tP.of ev (Wnt.mono (Wnt.bind (qaJ.mp w)) fun t w1 v H1 B1 g1 m1 r1=> ?_)
 cases t with
 | int i=>rw[qaq r1]; exact ⟨i,rfl,w1 _ H1 B1 g1 m1 qbs⟩
 | _=>exact w1.elim
end
end PL
namespace PL
open PySem L2 SR SetL
section
variable {M:Md} {X:Cx} {a b:Expr} {pos px py pt pt2:Pos} {kt k2:Nat} {x y:Str} {i j:Nat} {da db:Ro→Rs T} {ds:Ro→Rs (List T)}
theorem qkB (hc:X.calm=true) (hN:X.N.Nodup) (hi:X.N[i]? =some x) (hj:X.N[j]? =some y) (hij:i≠j) (hx:X.env.scope.names.lookup x=some .local) (hy:X.env.scope.names.lookup y=some .local) (ha:DE M X a da) (hb:DE M X b db)
  (hw:swappedStores [.Tuple [.Name x px,.Name y py] kt pt] (.Tuple [a,b] k2 pt2) X.env=pure (some [x,y])) (he:starEach (a::[b]) X.env=(false,eval a X.env)::starEach [b] X.env:=by rfl) (he2:starEach (b::[]) X.env=(false,eval b X.env)::starEach [] X.env:=by rfl)
  (hs:swapsWithSole [.Tuple [.Name x px,.Name y py] kt pt] (.Tuple [a,b] k2 pt2) pos.line X.env=pure false:=by rfl):
  DS M X (.Assign [.Tuple [.Name x px,.Name y py] kt pt] (.Tuple [a,b] k2 pt2) pos) (qnn i j da db):=
 PS.weak (qpG hc hN hi hj hij hx hy (qau ha (qau hb qaR he2) he) hw hs) fun D σ H h=>ql0 h
end
end PL
end
section
namespace PL
open PySem L2 SR SetL
theorem qa9 (ts:List T):qd4 (.lst ts)= .ok ts:=rfl
theorem qgP (ts:List T):qd4 (.tup ts)= .ok ts:=rfl
theorem qcq (ts:List T):qio (.lst ts)= .ok (true,ts):=rfl
theorem qpk (ts:List T):qio (.tup ts)= .ok (false,ts):=rfl
theorem qbN (i j:Int):qbi (.int i) (.int j)= .ok (.int (i+j)):=rfl
theorem qhR (i:Int):qtq (.int i)= .ok (.int (-i)):=rfl
theorem qeK (i j:Int):gSub (.int i) (.int j)= .ok (.int (i - j)):=rfl
theorem qhS (i j:Int):qll (.int i) (.int j)=if (-1000000≤i∧i≤1000000)∨(-1000000≤j∧j≤1000000) then .ok (.int (i*j)) else .no:=rfl
theorem qtt (i j:Int):quM (.int i) (.int j)=if 0<j∧j<1073741824 then .ok (.int (i / j)) else .no:=rfl
theorem qku (i j:Int):qoS (.int i) (.int j)=if 0<j then .ok (.int (i % j)) else .no:=rfl
theorem qsN (i j:Int):gLt (.int i) (.int j)= .ok (.bl (decide (i<j))):=rfl
theorem qiL (i j:Int):gLe (.int i) (.int j)= .ok (.bl (decide (i≤j))):=rfl
theorem qml (i j:Int):gGt (.int i) (.int j)= .ok (.bl (decide (j<i))):=rfl
theorem quK (i j:Int):gGe (.int i) (.int j)= .ok (.bl (decide (j≤i))):=rfl
theorem quI (i j:Bool):gIs (.bl i) (.bl j)= .ok (.bl (i==j)):=rfl
theorem qq4 (i j:Bool):qqo (.bl i) (.bl j)= .ok (.bl (i != j)):=rfl
theorem qqm (i j:Int):qq3 (.int i) (.int j)= .ok (.int (if j<i then j else i)):=rfl
theorem qmm (i j:Int):gEq (.int i) (.int j)= .ok (.bl (i==j)):=rfl
theorem quH (i j:Int):gNe (.int i) (.int j)= .ok (.bl (!(i==j))):=rfl
theorem quL (i j:Str):gEq (.str i) (.str j)= .ok (.bl (i==j)):=rfl
theorem qqn (z:Str):qoT (.str z)=if z.length≤1000 then .ok (.int z.length) else .no:=rfl
theorem qtr (ts:List T):qoT (.tup ts)= .ok (.int ts.length):=rfl
theorem qts (ts:List T):qoT (.lst ts)= .ok (.int ts.length):=rfl
section
variable {α:Type} {dg:T→Ro→Rs Ro} {dt:Ro→Rs Bool} {de:Ro→Rs T} {di:Ro→Rs (List T)} {f h:α→T} {p:α→Bool} {ρ:Ro}
theorem qdf (I:Ro→Prop): ∀(xs:List α) (ρ:Ro),(∀x∈xs,∀ρ,I ρ→∃ρ',dg (f x) ρ= .ok ρ'∧I ρ'∧dt ρ'= .ok (p x)∧(p x=true→de ρ'= .ok (h x)))→I ρ→qiR dg dt de (xs.map f) ρ= .ok ((xs.filter p).map h)
 | [],_,_,_=>rfl
 | x::xs,ρ,st,hI=>by
  obtain ⟨ρ',e1,i1,e2,e3⟩:=st x List.mem_cons_self ρ hI
  have ih:=qdf I xs ρ' (fun y hy=>st y (List.mem_cons_of_mem _ hy)) i1
  rw[List.map_cons,qiR]
  rw[e1,qae,e2,qae,List.filter_cons]
  by_cases c:p x=true
  ·rw[if_pos c,if_pos c,e3 c,qae,ih,qae]; rfl
  ·rw[if_neg c,if_neg c,ih]
theorem qbW {fr:List Nat} {xs:List α} (hi:di ρ= .ok (xs.map f)) (hs: ∀x∈xs,dt (.fz (f x)::fr.map fun i=>qej ρ[i]?)= .ok (p x)∧(p x=true→de (.fz (f x)::fr.map fun i=>qej ρ[i]?)= .ok (h x))):
  qaC 1 fr di (gN 0) dt de ρ= .ok ((xs.filter p).map h):=by
 unfold qaC
 rw[hi,qae]
 refine congrArg noX (qdf (fun ρ'=> ∃s,ρ'=s::fr.map fun i=>qej ρ[i]?) xs _ (fun x hx ρ' ⟨s,e⟩=> ?_) ⟨.no,rfl⟩)
 subst e
 exact ⟨_,rfl,⟨_,rfl⟩,(hs x hx).1,(hs x hx).2⟩
variable {a b c:α→T}
theorem qh6 {fr:List Nat} {xs:List α} (hi:di ρ= .ok (xs.map fun x=>.tup [a x,b x])) (hs: ∀x∈xs,dt (.fz (a x)::.fz (b x)::fr.map fun i=>qej ρ[i]?)= .ok (p x)∧(p x=true→de (.fz (a x)::.fz (b x)::fr.map fun i=>qej ρ[i]?)= .ok (h x))):
  qaC 2 fr di (gT 2 (gsC (gN 0) (gsC (gN 1) gsN))) dt de ρ= .ok ((xs.filter p).map h):=by
 unfold qaC
 rw[hi,qae]
 refine congrArg noX (qdf (f:=fun x=>.tup [a x,b x]) (fun ρ'=> ∃s s',ρ'=s::s'::fr.map fun i=>qej ρ[i]?) xs _ (fun x hx ρ' ⟨s,s',e⟩=> ?_) ⟨.no,.no,rfl⟩)
 subst e
 exact ⟨_,rfl,⟨_,_,rfl⟩,(hs x hx).1,(hs x hx).2⟩
theorem qqH {fr:List Nat} {xs:List α} (hi:di ρ= .ok (xs.map fun x=>.tup [a x,b x,c x])) (hs: ∀x∈xs,dt (.fz (a x)::.fz (b x)::.fz (c x)::fr.map fun i=>qej ρ[i]?)= .ok (p x)∧(p x=true→de (.fz (a x)::.fz (b x)::.fz (c x)::fr.map fun i=>qej ρ[i]?)= .ok (h x))):
  qaC 3 fr di (gT 3 (gsC (gN 0) (gsC (gN 1) (gsC (gN 2) gsN)))) dt de ρ= .ok ((xs.filter p).map h):=by
 unfold qaC
 rw[hi,qae]
 refine congrArg noX (qdf (f:=fun x=>.tup [a x,b x,c x]) (fun ρ'=> ∃s s' s'',ρ'=s::s'::s''::fr.map fun i=>qej ρ[i]?) xs _ (fun x hx ρ' ⟨s,s',s'',e⟩=> ?_) ⟨.no,.no,.no,rfl⟩)
 subst e
 exact ⟨_,rfl,⟨_,_,_,rfl⟩,(hs x hx).1,(hs x hx).2⟩
theorem qay {xs:List α}:xs.filter (fun _=>true)=xs:=by simp
theorem qch {db:Ro→Rs Out} (I:List α→Ro→Prop) (whole:List α): ∀(xs done:List α) (ρ:Ro),done++xs=whole→(∀(dn:List α) (x:α) (qbY:List α) ρ,dn++x::qbY=whole→I dn ρ→∃ρ1 ρ2,dg (f x) ρ= .ok ρ1∧(db ρ1= .ok (.nx ρ2)∨db ρ1= .ok (.ct ρ2))∧I (dn++[x]) ρ2)→I done ρ→∃ρ',qol dg db (xs.map f) ρ= .ok (.nx ρ')∧I whole ρ'
 | [],done,ρ,hw,_,hI=>⟨ρ,rfl,by rw[List.append_nil] at hw; rw[←hw]; exact hI⟩
 | x::xs,done,ρ,hw,st,hI=>by
  obtain ⟨ρ1,ρ2,e1,e2,i2⟩:=st done x xs ρ hw hI
  obtain ⟨ρ',e3,i3⟩:=qch I whole xs (done++[x]) ρ2 (by rw[←hw]; simp) st i2
  refine ⟨ρ',?_,i3⟩
  rw[List.map_cons,qol,e1,qae]
  rcases e2 with e2 | e2<;>(rw[e2,qae]; exact e3)
end
abbrev Row:=Int×Str×Int
def qbO (r:Row):T:=.tup [.int r.1,.str r.2.1,.int r.2.2]
def qao (rs:List Row):T:=.lst (rs.map qbO)
def qem (x:Str):Prop:=(1≤x.length∧x.length≤2)∧∀c∈x.cps.toList,97≤c∧c≤122
def qip (r:Row):Prop:=(0≤r.1∧r.1≤99)∧qem r.2.1∧ -99≤r.2.2∧r.2.2≤99
end PL
end
section
namespace PL
open PySem L2
section
variable {prog:Program} {w:World} {A:Around} {E:Value→Shared→Prop} {s:Shared}
end
section
variable {M:Md} {X:Cx} {es:List Expr} {pos:Pos} {dr:List T→Ro→Rs Ro}
def gL (n:Nat) (dr:List T→Ro→Rs Ro):T→Ro→Rs Ro:=fun t ρ=>match t with | .lst ts=>if ts.length=n then dr ts ρ else .no | _=>.no
end
end PL
namespace PL
open PySem L2
theorem qgO (K:PySem.W.Frag): ∀N∈["int", "bool", "str", "tuple"],qle K N:=by
 intro N hN m hm
 simp only[List.mem_cons,List.not_mem_nil,or_false] at hN hm
 rcases hN with rfl | rfl | rfl | rfl<;>rcases hm with rfl | rfl | rfl | rfl | rfl | rfl<;>rfl
end PL
end
section
namespace St
open PySem PySem.W PySem.Calls PyProof.Rows
def qcE (KV:Heap→Nat→Value→Prop) (h:Heap) (ks:List Value) (n:Nat):Prop:=ks.length=n∧∀i v,ks[i]? =some v→KV h i v
section
variable {prog:Program} {w:World} {A:Around} {E:Value→Shared→Prop} {s:Shared} {D kS:Addr} {vs:List Value} {kz:List Int} {P:PySem.Fin→Shared→Prop} {h0:Heap} {KV:Heap→Nat→Value→Prop}
theorem qsR {κ:SortKind} {keys:Array Value} {e e1:Nat} (hk:s.heap.get? kS=some (seqObj "list" keys e)) (hD:s.heap.get? D=some (seqObj "list" #[] e1)) (hkD:kS≠D) (hki:qcE KV s.heap keys.toList vs.length) (hlen:kz.length=vs.length) (h64:vs.length<64)
  (kp:Kp h0 s.heap) (hD0:h0.get? D=none) (hk0:h0.get? kS=none)
  (kind: ∀(s':Shared) (ks:List Value),Kp h0 s'.heap→qcE KV s'.heap ks vs.length→2≤vs.length→∀(Q:SortKind→Shared→Prop) (E:Value→Shared→Prop),Q κ s'→wpAny (model prog w) A (keyKind' ks.toArray) Q E s')
  (cmp: ∀(s':Shared) (ks:List Value),Kp h0 s'.heap→qcE KV s'.heap ks vs.length→∀i j,i<vs.length→j<vs.length→∀C:Bool→Shared→Prop,C (decide (kz.getD i 0<kz.getD j 0)) s'→wpAny (model prog w) A (keyLt' κ (ks.getD i Value.none) (ks.getD j Value.none)) C (fun _ _=>False) s')
  (h: ∀h' tk c (p:Array Nat),Kp h0 h'→qcn kz vs.length p→h'.get? D=some (seqObj "list" (List.toArray (p.toList.map fun i=>vs.getD i Value.none)) c)→P (.done (.ret .none)) { s with heap:=h',toks:=tk }):
  wpAny (model prog w) A (ksk_end D false vs.toArray e1 (.ref kS) keys) P E s:=by
 have hsz:keys.size=vs.length:=by
  have h1:=hki.1
  rw[Array.length_toList] at h1
  exact h1
 unfold ksk_end
 simp only[Bool.false_eq_true,if_false]
 by_cases h2:vs.toArray.size<2
 ·rw[if_pos h2,if_pos h2]
  refine wpAny_bind (wpAny_pure ?_)
  rw[StateT.run_pure]
  refine wpAny_bind (wpAny_pure ?_)
  rw[List.size_toArray] at h2
  refine qmS (kz:=kz) (p:=List.toArray (List.range vs.length)) hk hD hkD h64 (by lia) kp hD0 hk0 ⟨⟨by simp,fun i hi=> ?_,fun i q1 q2=>by lia⟩,fun i j hij hj=>by lia⟩ ?_ rfl fun h' tk c k hh=>h h' tk c _ k ⟨⟨by simp,fun i hi=> ?_,fun i q1 q2=>by lia⟩,fun i j hij hj=>by lia⟩ hh
  ·unfold g
   rw[Array.getD_eq_getD_getElem?]
   simp[hi]
  ·show (keys.zip vs.toArray).map (·.2)=_
   apply Array.toList_inj.mp
   rw[Array.toList_map,ksk_zip,List.toList_toArray,List.toList_toArray]
   have:keys.toList.length=vs.length:=by rw[Array.length_toList]; exact hsz
   rw[show (keys.toList.zip vs).map (fun x:Value×Value=>x.2)=vs from List.map_snd_zip (by lia)]
   apply List.ext_getElem
   ·simp
   ·intro i h3 h4
    simp[List.getElem?_eq_getElem h3]
  ·unfold g
   rw[Array.getD_eq_getD_getElem?]
   simp[hi]
 ·rw[if_neg h2,if_neg h2]
  rw[List.size_toArray] at h2
  have hk2:(List.toArray keys.toList)=keys:=by simp
  have kk:=kind s keys.toList kp hki (by lia)
  rw[hk2] at kk
  refine wpAny_bind (kk _ _ ?_)
  have run:=kat_run (prog:=prog) (w:=w) (A:=A) (E:=E) (s:=s) (κ:=κ) (ks:=keys.toList) (vs:=vs) (Q:=fun st s'=>s'=s∧∃p,qcn kz vs.length p∧(arrOf st).map (·.2)=List.toArray (p.toList.map fun i=>vs.getD i Value.none)∧failedOf st=none)
   (G:=fun p s'=>s'=s∧qcn kz vs.length p) (by rw[Array.length_toList]; exact hsz) (by lia) h64 (fun p st' s' a1 a2 a3 a4=>⟨a4.1,p,a4.2,kat_snds (by rw[Array.length_toList]; exact hsz) a2,a3⟩)
   (qgT (ask:=qcV fun i=>kz.getD i 0) (N:=vs.length) (fun i j C hi hj hc=>by
    exact cmp s keys.toList kp hki i j hi hj C hc) (fun p hp=>⟨rfl,hp⟩) (qjd (by lia)))
  rw[hk2] at run
  refine wpAny_bind (wpAny_mono run (fun r s' hr=> ?_) fun _ _ x=>x)
  obtain ⟨rfl,p,ho,har,hf⟩:=hr
  exact qmS (p:=p) hk hD hkD h64 (by lia) kp hD0 hk0 ho har hf fun h' tk c k hh=>h h' tk c p k ho hh
theorem qpv {κ:SortKind} {f:Value} {e1:Nat} (hk:s.heap.get? kS=some (seqObj "list" #[] 0)) (hD:s.heap.get? D=some (seqObj "list" #[] e1)) (hkD:kS≠D) (hlen:kz.length=vs.length) (h64:vs.length<64)
  (kp:Kp h0 s.heap) (hD0:h0.get? D=none) (hk0:h0.get? kS=none)
  (qei: ∀(i:Nat) (v:Value),vs[i]? =some v→∀s':Shared,Kp h0 s'.heap→s'.gens=s.gens→s'.os=s.os→
   wpAny (model prog w) A (call f [v]) (fun r s''=> ∃h' tk,KV h' i r∧s''={ s' with heap:=h',toks:=tk }∧Kp s'.heap h') (fun _ _=>False) s')
  (stb: ∀(h h':Heap) i v,(∀b o,h.get? b=some o→o.cls≠.type "list" →h'.get? b=some o)→KV h i v→KV h' i v)
  (kind: ∀(s':Shared) (ks:List Value),Kp h0 s'.heap→qcE KV s'.heap ks vs.length→2≤vs.length→∀(Q:SortKind→Shared→Prop) (E:Value→Shared→Prop),Q κ s'→wpAny (model prog w) A (keyKind' ks.toArray) Q E s')
  (cmp: ∀(s':Shared) (ks:List Value),Kp h0 s'.heap→qcE KV s'.heap ks vs.length→∀i j,i<vs.length→j<vs.length→∀C:Bool→Shared→Prop,C (decide (kz.getD i 0<kz.getD j 0)) s'→wpAny (model prog w) A (keyLt' κ (ks.getD i Value.none) (ks.getD j Value.none)) C (fun _ _=>False) s')
  (h: ∀h' tk c (p:Array Nat),Kp h0 h'→qcn kz vs.length p→h'.get? D=some (seqObj "list" (List.toArray (p.toList.map fun i=>vs.getD i Value.none)) c)→P (.done (.ret .none)) { s with heap:=h',toks:=tk }):
  wpAny (model prog w) A (ksk_rest D f false vs.toArray e1 (.ref kS)) P E s:=by
 unfold ksk_rest
 refine wpAny_bind (wpAny_rule ?_)
 first
  | rw[List.forIn_toArray]
  | (rw[←Array.forIn_toList]; simp only[List.toList_toArray])
 refine wpAny_bind (ksk_fold (fun i s'=> ∃h' tk kA e,s'={ s with heap:=h',toks:=tk }∧Kp h0 h'∧h'.get? kS=some (seqObj "list" kA e)∧h'.get? D=some (seqObj "list" #[] e1)∧qcE KV h' kA.toList i) vs 0 s
  ⟨s.heap,s.toks, #[],0,rfl,kp,hk,hD,rfl,fun i v z=>by simp at z⟩ ?step ?done)
 case step=>
  rintro j x s' hx ⟨h',tk,kA,e,rfl,kp',hk',hD',hki⟩
  simp only[Nat.zero_add] at hki⊢
  have hj:j<vs.length:=(List.getElem?_eq_some_iff.mp hx).1
  have hz:kA.size≤vs.length:=by
   have h1:=hki.1
   rw[Array.length_toList] at h1
   lia
  refine wpAny_bind (wpAny_attempt (wpAny_mono (qei j x hx { s with heap:=h',toks:=tk } kp' rfl rfl) (fun v s'' he=> ?_) fun _ _ hF=>hF.elim))
  obtain ⟨h2,tk2,hv2,rfl,kp2⟩:=he
  have hk2:=kp2 _ _ hk'
  have hD2:=kp2 _ _ hD'
  have s1:=Heap.SameBut.update h2 kS (Obj.mapSeq (·.push v))
  have ea:(kA.push v).toList=kA.toList++[v]:=by simp
  refine wpAny_bind (listUpdate_at hk2 rfl ?_ (by rw[sizeLine_eq]; lia) (Nat.le_trans (Nat.le_of_eq (Array.size_push ..)) (by rw[sizeLine_eq]; lia)))
  refine wpAny_pure ⟨rfl,_,_,kA.push v,_,rfl,fun b o q=> ?_,get?_update_seq hk2 (·.push v),(s1.2 D hkD.symm).trans hD2,?_⟩
  rotate_left
  ·rw[ea]
   refine ⟨by simp[hki.1],fun i u hu=> ?_⟩
   have st2: ∀b o,h2.get? b=some o→o.cls≠.type "list" →(h2.update kS (Obj.mapSeq (·.push v))).get? b=some o:=fun b o q nl=>(s1.2 b (fun z=>by rw[z,hk2] at q; cases q; exact nl rfl)).trans q
   by_cases hi:i<kA.toList.length
   ·rw[List.getElem?_append_left hi] at hu
    exact stb _ _ i u st2 (stb _ _ i u (fun b o q _=>kp2 b o q) (hki.2 i u hu))
   ·rw[List.getElem?_append_right (by lia)] at hu
    have hi2:i=j:=by
     have:=(List.getElem?_eq_some_iff.mp hu).1
     have h1:=hki.1
     rw[List.length_singleton] at this
     lia
    subst hi2
    rw[hki.1,Nat.sub_self] at hu
    cases hu
    exact stb _ _ i v st2 hv2
  have nk:b≠kS:=fun z=>by rw[z,hk0] at q; cases q
  exact (s1.2 b nk).trans (kp2 _ _ (kp' b o q))
 case done=>
  rintro s' ⟨h',tk,kA,e,rfl,kp',hk',hD',hki⟩
  rw[Nat.zero_add] at hki
  refine wpAny_bind (listItems_at hk' rfl ?_)
  exact qsR hk' hD' hkD hki hlen h64 kp' hD0 hk0 kind cmp fun h3 tk3 c p a1 a2 a3=>h h3 tk3 c p a1 a2 a3
end
section
variable {prog:Program} {w:World} {A:Around} {E:Value→Shared→Prop} {s:Shared} {l:Addr} {vs:List Value} {kz:List Int} {Q:Value→Shared→Prop} {KV:Heap→Nat→Value→Prop}
theorem sorted_g {κ:SortKind} {f:Value} {q:Addr} (hf:f= .ref q) (hl:s.heap.IsList l vs.toArray) (hlen:kz.length=vs.length) (h64:vs.length<64)
  (qei: ∀(i:Nat) (v:Value),vs[i]? =some v→∀s':Shared,Kp s.heap s'.heap→s'.gens=s.gens→s'.os=s.os→
   wpAny (model prog w) A.in1.in1 (call f [v]) (fun r s''=> ∃h' tk,KV h' i r∧s''={ s' with heap:=h',toks:=tk }∧Kp s'.heap h') (fun _ _=>False) s')
  (stb: ∀(h h':Heap) i v,(∀b o,h.get? b=some o→o.cls≠.type "list" →h'.get? b=some o)→KV h i v→KV h' i v)
  (kind: ∀(s':Shared) (ks:List Value),Kp s.heap s'.heap→qcE KV s'.heap ks vs.length→2≤vs.length→∀(Q:SortKind→Shared→Prop) (E:Value→Shared→Prop),Q κ s'→wpAny (model prog w) A.in1.in1 (keyKind' ks.toArray) Q E s')
  (cmp: ∀(s':Shared) (ks:List Value),Kp s.heap s'.heap→qcE KV s'.heap ks vs.length→∀i j,i<vs.length→j<vs.length→∀C:Bool→Shared→Prop,C (decide (kz.getD i 0<kz.getD j 0)) s'→wpAny (model prog w) A.in1.in1 (keyLt' κ (ks.getD i Value.none) (ks.getD j Value.none)) C (fun _ _=>False) s')
  (h: ∀D h' tk c (p:Array Nat),s.heap.objs.size≤D→Kp s.heap h'→qcn kz vs.length p→h'.get? D=some (seqObj "list" (List.toArray (p.toList.map fun i=>vs.getD i Value.none)) c)→Q (.ref D) { s with heap:=h',toks:=tk }):
  wpAny (model prog w) A (call (.builtin "sorted") [.ref l] [(Str.ofString "key",f)]) Q E s:=by
 subst hf
 refine call_function_entry_kw kind_sorted plain_sorted entry_sorted (ksk_s1 _ _) ?_
 unfold Builtin.«sorted»
 refine wpAny_bind (m:=checkCount "sorted" 1 1 _) (wpAny_pure ?_)
 refine wpAny_bind (collect_list hl ?_ (by rw[sizeLine_eq]; lia))
 refine wpAny_bind (wpAny_newList ?_ (by rw[sizeLine_eq]; lia))
 have hsz:((s.heap.push (seqObj "list" #[] 0)).update s.heap.objs.size (Obj.mapSeq (· ++vs.toArray))).objs.size=s.heap.objs.size+1:=by
  rw[Heap.size_update,size_push']
 generalize hH1:(s.heap.push (seqObj "list" #[] 0)).update s.heap.objs.size (Obj.mapSeq (· ++vs.toArray))=H1 at hsz⊢
 have kp1:Kp s.heap H1:=fun b o q=>by
  have hlt:b<s.heap.objs.size:=Heap.lt_size q
  rw[←hH1,Heap.get?_update_ne _ _ _ _ (Nat.ne_of_lt hlt),Heap.get?_push_ne _ _ _ (Nat.ne_of_lt hlt)]
  exact q
 have kp2:Kp s.heap (H1.push (seqObj "list" vs.toArray 0)):=fun b o q=>Heap.get?_push_of_some _ (kp1 b o q)
 have hoD:(H1.push (seqObj "list" vs.toArray 0)).get? H1.objs.size=some (seqObj "list" vs.toArray 0):=Heap.get?_push_size _ rfl
 refine wpAny_bind (wpAny_holding (wpAny_call_entry_kw slot_list_sort ⟨_,hoD,rfl⟩ entry_list_sort ?body (ksk_l1 _ _)))
 case body=>
  show wpAny (model prog w) A.in1.in1 (Builtin.«list.sort» ⟨[.ref H1.objs.size],[(Str.ofString "key",.ref q)]⟩) _ _ _
  rw[ksk_t1]
  unfold ksk_tree
  have s1:=Heap.SameBut.update (H1.push (seqObj "list" vs.toArray 0)) H1.objs.size (Obj.mapSeq fun _=>(#[]:Array Value))
  obtain ⟨e1,ho1⟩: ∃e1,((H1.push (seqObj "list" vs.toArray 0)).update H1.objs.size (Obj.mapSeq fun _=>(#[]:Array Value))).get? H1.objs.size=some (seqObj "list" #[] e1):=⟨_,get?_update_seq hoD fun _=> #[]⟩
  refine wpAny_bind (listItems_at hoD rfl ?_)
  refine wpAny_bind (listUpdate_at hoD rfl ?_ (by rw[List.size_toArray,sizeLine_eq]; lia) (Nat.zero_le _))
  refine wpAny_bind (seqEpoch_at ho1 rfl ?_)
  generalize hH2:(H1.push (seqObj "list" vs.toArray 0)).update H1.objs.size (Obj.mapSeq fun _=>(#[]:Array Value))=H2 at ho1 s1⊢
  have sz2:H2.objs.size=H1.objs.size+1:=by rw[←hH2,Heap.size_update,size_push']
  have kp3:Kp s.heap H2:=fun b o z=>(s1.2 b (by rw[hsz]; exact Nat.ne_of_lt (Nat.lt_succ_of_lt (Heap.lt_size z)))).trans (kp2 b o z)
  refine wpAny_bind (wpAny_newTuple ?_ (by show vs.length≤_; rw[sizeLine_eq]; lia))
  refine wpAny_bind (wpAny_newList ?_ (Nat.zero_le _))
  refine wpAny_holding ?_
  have sz3:(H2.push (seqObj "tuple" vs.toArray 0)).objs.size=H2.objs.size+1:=size_push' _ _
  refine qpv (h0:=s.heap) (kz:=kz) (kS:=(H2.push (seqObj "tuple" vs.toArray 0)).objs.size) (s:={ s with heap:=(H2.push (seqObj "tuple" vs.toArray 0)).push (seqObj "list" #[] 0) }) (Heap.get?_push_size _ rfl)
   (Heap.get?_push_of_some _ (Heap.get?_push_of_some _ ho1)) (by rw[sz3,sz2]; exact Nat.ne_of_gt (Nat.lt_succ_of_lt (Nat.lt_succ_self _))) hlen h64 (fun b o z=>Heap.get?_push_of_some _ (Heap.get?_push_of_some _ (kp3 b o z)))
   (get_none (by rw[hsz]; exact Nat.le_succ _)) (get_none (by rw[sz3,sz2,hsz]; exact Nat.le_succ_of_le (Nat.le_succ_of_le (Nat.le_succ _)))) qei stb kind cmp fun h' tk c p a1 a2 a3=>⟨_,rfl,?_⟩
  exact wpAny_pure ⟨_,rfl,h _ h' tk c p (by rw[hsz]; exact Nat.le_succ _) a1 a2 a3⟩
end
end St
end
section
namespace L2
open PySem PySem.Spec PyProof.Rows
structure qid (x:Str) (v:Value) (env:Env) (h:Heap):Prop where
 kind:env.scope.kind= .function
 loc:env.kindOf x=some .local
 ns: ∃m,h.Ns env.locals m∧m x=some v
theorem qid.load {M:Model} {A:Around} {E:Value→Shared→Prop} {s:Shared} {env:Env} {x:Str} {v:Value} {p:Pos} {Q:Value→Shared→Prop} (L:qid x v env s.heap) (hdb:(x==("__debug__" :Str))=false) (h:Q v s):wpAny M A (eval (.Name x p) env) Q E s:=by
 obtain ⟨m,h1,h2⟩:=L.ns
 exact wpAny_Name (wpAny_loadName_local L.kind L.loc h1 h2 h) hdb
theorem qia {prog:Program} {w:World} {A:Around} {E:Value→Shared→Prop} {s:Shared} {f c':Addr} {qual x:Str} {params:Arguments} {scope:Scope} {pm ctv v:Value} {body:Expr} {R:Heap→Value→Prop}
  (hf:s.heap.get? f=some (PySem.W.kla_obj "<lambda>" qual params body scope [] pm c' ctv)) (hcd:s.heap.CodeRec (.ref c') qual) (hlim:s.heap.NoLimit) (hroom:A.depth<recursionLimit)
  (hk:scope.kind= .function) (hco:scope.isCoroutine=false) (hgen:scope.isGenerator=false) (hx:scope.names.lookup x=some .local) (hcell: ∀y∈scope.names,y.2≠.cell)
  (hb: ∀v,bindArgs (PySem.W.kla_fn "<lambda>" qual params body scope [] pm (.ref c') ctv) ⟨[v],[]⟩=pure [(x,v)])
  (hbody: ∀(A':Around) (env:Env) (s1:Shared),qid x v env s1.heap→St.Kp s.heap s1.heap→wpAny (model prog w) A' (eval body env) (fun r s''=> ∃h' tk',R h' r∧s''={ s1 with heap:=h',toks:=tk' }∧St.Kp s1.heap h') (fun _ _=>False) s1):
  wpAny (model prog w) A (call (.ref f) [v]) (fun r s''=> ∃h' tk',R h' r∧s''={ s with heap:=h',toks:=tk' }∧St.Kp s.heap h') E s:=by
 refine wpAny_call (PySem.W.kla_callFunE hroom hf rfl hco hgen rfl hcd ?_)
 rw[hb]
 refine wpAny_pure (wpAny_newFunctionEnv hcell (by intro y hy; obtain rfl:y=(x,v):=List.mem_singleton.mp hy; exact hx) (fun h1 hn1 hs1=> ?_) hk)
 have kp:St.Kp s.heap h1:=fun b o e=>(hs1.2 b (Nat.ne_of_lt (Heap.lt_size e))).trans (Heap.get?_push_of_some _ e)
 refine ⟨hlim.keeps kp,PySem.W.kla_codeExpr (wpAny_mono (hbody _ _ _ ⟨hk,hx,_,hn1,by simp[List.lookup_cons]⟩ kp) (fun r s'' h=> ?_) fun _ _ hF=>hF.elim)⟩
 obtain ⟨h',tk',hr,rfl,kp'⟩:=h
 exact ⟨h',tk',hr,rfl,fun b o e=>kp' b o (kp b o e)⟩
section
variable {prog:Program} {w:World} {A:Around} {E:Value→Shared→Prop} {s:Shared} {env:Env} {x:Str} {t:Addr} {its:List Value} {v:Value} {i j:Nat} {p1 p2 p3:Pos} {Q:Value→Shared→Prop}
theorem qe8 (L:qid x (.ref t) env s.heap) (hdb:(x==("__debug__" :Str))=false) (ht:IsTup s.heap t its.toArray) (hi:its[i]? =some v) (hz:its.length≤sizeLine) (h: ∀tk,Q v { s with toks:=tk }):
  wpAny (model prog w) A (eval (.Subscript (.Name x p1) (.Constant (.int (i:Int)) j p2) p3) env) Q E s:=by
 refine Subscript_ (L.load hdb ?_)
 refine wpAny_Constant_int ?_
 have hl:i<its.length:=(List.getElem?_eq_some_iff.mp hi).1
 have hn:=qc4
 refine subscriptTail_builtinR (x:=v) (T:= "tuple") ht.typeIs slot_tuple_getitem.lookup ?_ (by with_unfolding_all rfl)
 exact getItem_tuple (j:=i) ht (by lia) (by lia) (by rw[List.size_toArray]; exact seqIndex_of (by lia) (by lia)) (by simpa using hi) ⟨rfl,h _⟩
theorem qma {a b:Expr} {k:Nat} {pos:Pos} (ha:wpAny (model prog w) A (eval a env) (fun v1 s1=>wpAny (model prog w) A (eval b env) (fun v2 s2=>Q (.ref s2.heap.objs.size) { s2 with heap:=s2.heap.push { cls:=Value.type "tuple",data:=Data.seq #[v1,v2] } }) E s1) E s)
  (hs:starEach [a,b] env=[(false,eval a env),(false,eval b env)]):wpAny (model prog w) A (eval (.Tuple [a,b] k pos) env) Q E s:=by
 refine wpAny_Tuple_spliced ?_
 rw[hs]
 refine Calls.spliced_cons (wpAny_mono ha (fun v1 s1 h1=> ?_) fun _ _ h=>h)
 refine Calls.spliced_cons (wpAny_mono h1 (fun v2 s2 h2=> ?_) fun _ _ h=>h)
 exact Calls.spliced_nil ⟨by show 2≤_; rw[sizeLine_eq]; decide,h2⟩
end
end L2
end
section
namespace PL
open PySem L2 SR SetL
section
open PySem.W PyProof.Rows
variable {prog:Program} {w:World} {A:Around} {E:Value→Shared→Prop} {s:Shared}
def qeP (h:Heap) (kl:List Ky) (v:Value):Prop:= ∃p its,v= .ref p∧IsTup h p (List.toArray its)∧Vals (kl.map kyV) its
theorem qfR {Q:SortKind→Shared→Prop} (its:List Value) {x:Nat} {r:List Nat} (hx:x=0∨x=1) (h2:2≤its.length) (hk: ∀v∈its,∃kl,qeP s.heap kl v∧kl.map shK=x::r) (hq:Q (tuples' true) s):wpAny (model prog w) A (keyKind' its.toArray) Q E s:=by
 have fst: ∀v∈its,∃f,(∃a o xs n,v= .ref a∧s.heap.get? a=some o∧o.cls= .type "tuple" ∧o.data= .seq xs n∧xs[0]? =some f)∧((x=0∧∃i t,f=Value.int i t)∨(x=1∧∃i t,f=Value.str i t)):=fun v hv=>by
  obtain ⟨kl,⟨p,w1,g1,i1,v1⟩,k1⟩:=hk v hv
  obtain ⟨o1,e1,c1,n1,d1⟩:=i1
  cases kl with
  | nil=>cases k1
  | cons ky kr=>
   cases v1 with
   | cons r0 rr=>
    have ks:shK ky=x:=(List.cons.inj k1).1
    cases ky with
    | i n=>
     obtain ⟨tk,rfl⟩:=r0
     exact ⟨_,⟨p,o1,_,n1,g1,e1,c1,d1,rfl⟩,.inl ⟨ks.symm,n,tk,rfl⟩⟩
    | s n=>
     obtain ⟨tk,rfl⟩:=r0
     exact ⟨_,⟨p,o1,_,n1,g1,e1,c1,d1,rfl⟩,.inr ⟨ks.symm,n,tk,rfl⟩⟩
 obtain ⟨fs,k1,k2,k3⟩:=qdm its fst
 rcases hx with rfl | rfl
 ·refine PySem.W.kat_kind k1 (by lia) (T:=.type "int") (fun v hv=> ?_) (by decide) ?_
  ·rcases k3 v hv with ⟨_,i,t,rfl⟩ | ⟨z,_⟩
   ·exact PySem.W.Looks.of_pure rfl
   ·cases z
  ·exact hq
 ·refine PySem.W.kat_kind k1 (by lia) (T:=.type "str") (fun v hv=> ?_) (by decide) ?_
  ·rcases k3 v hv with ⟨z,_⟩ | ⟨_,i,t,rfl⟩
   ·cases z
   ·exact PySem.W.Looks.of_pure rfl
  ·exact hq
theorem qj0 {C:Bool→Shared→Prop} {a b:List Ky} {u v:Value} (h1:qeP s.heap a u) (h2:qeP s.heap b v) (hs:a.map shK=b.map shK) (hc:C (qbB a b) s):wpAny (model prog w) A (keyLt' (tuples' true) u v) C (fun _ _=>False) s:=by
 obtain ⟨p1,w1,rfl,i1,v1⟩:=h1
 obtain ⟨p2,w2,rfl,i2,v2⟩:=h2
 obtain ⟨o1,e1,_,n1,d1⟩:=i1
 obtain ⟨o2,e2,_,n2,d2⟩:=i2
 refine kat_lt e1 d1 e2 d2 ?_
 have hl:w1.length=w2.length:=by
  have h1:=v1.length
  have h2:=v2.length
  have h3:=congrArg List.length hs
  simp only[List.length_map] at h1 h2 h3
  lia
 rw[show decide ((List.toArray w1).size<(List.toArray w2).size)=false by simp[hl]]
 exact qq1 _ _ _ _ 0 v1 v2 hs hc
end
def qct (i j:Nat):T→List T
 | .tup us=>(match us[i]?,us[j]? with | some a,some b=>[a,b] | _,_=>[])
 | _=>[]
def qdJ (i j:Nat) (t:T):List Ky:=(qct i j t).map kyT
def qcP (i j:Nat) (q:Bool×List T):Rs (List T):=if (q.1=true∧q.2.length<64)∧qbH (q.2.map fun t=>.tup (qct i j t))=true then .ok (qcY (qdJ i j) q.2) else .no
theorem qjJ {i j:Nat} {t:T} (h:qct i j t≠[]): ∃us a b,t= .tup us∧us[i]? =some a∧us[j]? =some b∧qct i j t=[a,b]:=by
 cases t with
 | tup us=>
  have h':(match us[i]?,us[j]? with | some a,some b=>[a,b] | _,_=>([]:List T))≠[]:=h
  cases e1:us[i]? with
  | none=>rw[e1] at h'; exact absurd rfl h'
  | some a=>
   cases e2:us[j]? with
   | none=>rw[e1,e2] at h'; exact absurd rfl h'
   | some b=>
    refine ⟨us,a,b,rfl,e1,e2,?_⟩
    show (match us[i]?,us[j]? with | some a,some b=>[a,b] | _,_=>([]:List T))=_
    rw[e1,e2]
 | _=>exact absurd rfl h
theorem qjf {i j:Nat} {ts:List T} (h:qbH (ts.map fun t=>.tup (qct i j t))=true) (hn:ts≠[]): ∃x y,(x=0∨x=1)∧∀t∈ts,∃us a b,t= .tup us∧us[i]? =some a∧us[j]? =some b∧qct i j t=[a,b]∧qcz a=true∧qcz b=true∧(qdJ i j t).map shK=[x,y]:=by
 cases ts with
 | nil=>exact absurd rfl hn
 | cons t0 tr=>
  obtain ⟨s0,ok0,sh⟩:=qb3 h (t:=.tup (qct i j t0)) (by simp)
  have sh': ∀t∈t0::tr,2::(qct i j t).map shT=s0:=fun t ht=>sh (.tup (qct i j t)) (List.mem_map.mpr ⟨t,ht,rfl⟩)
  have e0:=sh' t0 List.mem_cons_self
  rcases qc3 ok0 with e | e | ⟨x,r,e,ho⟩
  ·rw[e] at e0; cases e0
  ·rw[e] at e0; cases e0
  ·have hne: ∀t∈t0::tr,(qct i j t).map shT=x::r:=fun t ht=>by
    have:=sh' t ht
    rw[e] at this
    exact (List.cons.inj this).2
   have all: ∀t∈t0::tr,∃us a b,t= .tup us∧us[i]? =some a∧us[j]? =some b∧qct i j t=[a,b]∧qcz a=true∧qcz b=true∧(qdJ i j t).map shK=x::r:=fun t ht=>by
    obtain ⟨us,a,b,f1,f2,f3,f4⟩:=qjJ (i:=i) (j:=j) (t:=t) (fun z=>by have:=hne t ht; rw[z] at this; cases this)
    have fl:=qkx (hne t ht) ho
    rw[f4,List.all_cons,List.all_cons,Bool.and_eq_true,Bool.and_eq_true] at fl
    refine ⟨us,a,b,f1,f2,f3,f4,fl.1,fl.2.1,?_⟩
    rw[←hne t ht]
    unfold qdJ
    rw[f4]
    have g: ∀c:T,qcz c=true→shK (kyT c)=shT c:=fun c hc=>by
     cases c with
     | int _=>rfl
     | str _=>rfl
     | non=>cases (show false=true from hc)
     | bl _=>cases (show false=true from hc)
     | tup _=>cases (show false=true from hc)
     | lst _=>cases (show false=true from hc)
     | dct _=>cases (show false=true from hc)
     | scr _=>cases (show false=true from hc)
    show [shK (kyT a),shK (kyT b)]=[shT a,shT b]
    rw[g a fl.1,g b fl.2.1]
   obtain ⟨us,a,b,_,_,_,f4,_,_,f7⟩:=all t0 List.mem_cons_self
   have er: ∃y,r=[y]:=by
    unfold qdJ at f7
    rw[f4] at f7
    exact ⟨_,(List.cons.inj f7).2.symm⟩
   obtain ⟨y,rfl⟩:=er
   refine ⟨x,y,?_,all⟩
   rw[List.all_cons,Bool.and_eq_true] at ho
   simpa using ho.1
section
variable {M:Md} {X:Cx} {e:Expr} {dq:Ro→Rs (Bool×List T)} {x:Str} {P c:Addr} {params:Arguments} {scope:Scope} {p1 p2 p3 p4 p5 p6 tp lpos kpos p pos:Pos} {i j j1 j2 kk:Nat} {qual:Str}
open PySem.Spec PyProof.Rows in
theorem qkL (he:DQ M X e dq) (hg:Gl X "sorted") (hm:X.mg "sorted" =none) (hv:bootBuiltins "sorted" =some (.builtin "sorted"))
  (hcode:X.env.code= .ref c) (C:PySem.W.CodeHd X.base c P) (hb: ∃bm ob,X.mg "__builtins__" =some (.ref bm)∧bm≠builtinsNs∧X.base.get? bm=some ob∧ob.cls= .type "module" ∧ob.dict=some builtinsNs∧ob.data= .plain)
  (hfree: ∀x∈scope.names,x.2≠.free) (hd:defaultsOf params X.env=([],[])) (hq:X.env.qual++("<lambda>" :Str)=qual)
  (hk:scope.kind= .function) (hco:scope.isCoroutine=false) (hgen:scope.isGenerator=false) (hx:scope.names.lookup x=some .local) (hcell: ∀y∈scope.names,y.2≠.cell) (hdb:(x==("__debug__" :Str))=false)
  (hbd: ∀(pm cv ctv v:Value),bindArgs (PySem.W.kla_fn "<lambda>" qual params (.Tuple [.Subscript (.Name x p1) (.Constant (.int (i:Int)) j1 p2) p3,.Subscript (.Name x p4) (.Constant (.int (j:Int)) j2 p5) p6] kk tp) scope [] pm cv ctv) ⟨[v],[]⟩=pure [(x,v)]) (hr:qcD 4 X.A)
  (hT: ∀H,M.G.P H→Tab P lpos qual H) (hT': ∀H H2,M.G.P H→qiZ P H H2→Tab P lpos qual H2→M.G.P H2) (hK:X.K=M.K:=by rfl)
  (hs0:starEach [e] X.env=(false,eval e X.env)::starEach [] X.env:=by rfl) (hs1:backTo pos (starEach [e] X.env)=(false,eval e X.env)::backTo pos (starEach [] X.env):=by rfl) (hs2:(backTo pos (starEach [e] X.env)).any (·.1)=false:=by rfl):
  DF M X (.Call (.Name "sorted" p) [e] [⟨some "key",.Lambda params (.Tuple [.Subscript (.Name x p1) (.Constant (.int (i:Int)) j1 p2) p3,.Subscript (.Name x p4) (.Constant (.int (j:Int)) j2 p5) p6] kk tp) scope lpos,kpos⟩] pos) (qlm (qcP i j) dq):=by
 intro pins s σ H Q I ⟨H0,B0,ρ,B,ev,w⟩
 refine wpAny_Call_Name_kw (qcw I hg hm hv ?_)
 refine PyProof.Rows.callWith_kw ?_ hs1 hs2 rfl rfl
 have hpa:PA X [e] (fun σ H Q=>tQ M dq σ H fun x H1=>Q [x] H1):=fun pos pins s σ H Q I h=>(qau he qaR hs0) pos pins s σ H Q I h
 have hR:tQ M dq σ H fun x H1=> ∃a vs q B1,x= .ref a∧qa4 H B H1 B1∧M.G.P H1∧(if q.1=true then H1 a=some (.lst vs) else SqT M.K B1 a vs)∧qaE M.K B1 q.2 vs∧
   Wnt M H0 (fun a=> ∀p vs H' B',qa4 H B H' B'→M.G.P H'→H p=none→B' p=none→H' p=some (.lst vs)→qaE M.K B' a vs→Q (.ref p) H') (qcP i j q):=
  tQ.of ev (Wnt.mono (Wnt.bind (qbL.mp w)) fun q w1 p vs H1 B1 g1 m1 hq r1=>⟨p,vs,q,B1,rfl,g1,m1,hq,r1,w1⟩)
 refine thn (hpa pos pins s σ H (fun vs H1=>match vs with
  | [x]=> ∃a vs q B1,x= .ref a∧qa4 H B H1 B1∧M.G.P H1∧(if q.1=true then H1 a=some (.lst vs) else SqT M.K B1 a vs)∧qaE M.K B1 q.2 vs∧
   Wnt M H0 (fun a=> ∀p vs H' B',qa4 H B H' B'→M.G.P H'→H p=none→B' p=none→H' p=some (.lst vs)→qaE M.K B' a vs→Q (.ref p) H') (qcP i j q)
  | _=>False) I hR) fun us s1 ⟨vs,H1,I1,r1,q1⟩=> ?_
 match vs,r1,q1 with
 | [_],r1,q1=>
  obtain ⟨a,vs,q,B1,rfl,g1,m1,hql,rq,w1⟩:=q1
  obtain ⟨u,rfl,ru⟩:=qek r1
  cases ru
  have ev1:=ev.grow g1 m1
  unfold qcP at w1
  split at w1
  case isFalse=>exact w1.elim
  rename_i hcc
  rw[if_pos hcc.1.1] at hql
  have hS:SqL X.K H1 a vs:=SqL.of hql
  have hT1:=hT _ m1
  show wpAny _ _ (evalAll [(do let v ←eval (.Lambda params (.Tuple [.Subscript (.Name x p1) (.Constant (.int (i:Int)) j1 p2) p3,.Subscript (.Name x p4) (.Constant (.int (j:Int)) j2 p5) p6] kk tp) scope lpos) X.env; standAt pos; pure v)]) _ _ s1
  obtain ⟨ps,hP,_⟩:=id hT1
  refine wpAny_evalAll_cons (wpAny_bind (qhI I1 hcode C hb hfree hd hq hT1 fun f c' ctv H2 s2 I2 hT2 same _ kp hf0 hfn hfo hrec=>wpAny_bind (wpAny_standAt (wpAny_pure (wpAny_evalAll_nil ?_)))))
  show wpAny _ _ (call (.builtin "sorted") [.ref a] [(Str.ofString "key",.ref f)]) _ _ s2
  have hS2:=same.seqL hP hS
  obtain ⟨its,rv,pl,hz⟩:=I2.list hS2
  have hlen:=rv.length
  have l2:=rq.length
  have notP: ∀b o,B1 b=some o→b≠P:=fun b o eb z=>by
   subst z
   have:=ev1.bh _ _ eb
   rw[hP] at this; cases this
   exact ev1.bt _ _ eb
  have le2:Le B1 H2:=fun b o eb=>same b o (ev1.bh _ _ eb) (notP b o eb)
  have elem: ∀{m:Nat},m<q.2.length→Rep X.K B1 (q.2.getD m .non) (vs.getD m .non)∧RelV (vs.getD m .non) (its.getD m Value.none)∧q.2.getD m .non∈q.2:=fun {m} hm=>⟨by rw[hK]; exact rq.getD m hm,qcW rv m,by
   rw[List.getD_eq_getElem?_getD,List.getElem?_eq_getElem hm]; exact List.getElem_mem hm⟩
  have key1: ∀{m:Nat},m<q.2.length→((q.2.map (qdJ i j)).map (qbr qbB (q.2.map (qdJ i j)))).getD m 0=qbr qbB (q.2.map (qdJ i j)) (qdJ i j (q.2.getD m .non)):=fun {m} hm=>by
   rw[List.getD_eq_getElem?_getD,List.getElem?_map,List.getElem?_map,List.getElem?_eq_getElem hm,List.getD_eq_getElem?_getD,List.getElem?_eq_getElem hm]
   rfl
  have kxy: ∃x y,q.2=[]∨(x=0∨x=1)∧∀t∈q.2,∃us a b,t= .tup us∧us[i]? =some a∧us[j]? =some b∧qct i j t=[a,b]∧qcz a=true∧qcz b=true∧(qdJ i j t).map shK=[x,y]:=by
   by_cases z:q.2=[]
   ·exact ⟨0,0,.inl z⟩
   ·obtain ⟨x,y,h⟩:=qjf hcc.2 z
    exact ⟨x,y,.inr h⟩
  obtain ⟨x0,y0,hxy⟩:=kxy
  have ne_of_lt: ∀{m:Nat},m<q.2.length→(x0=0∨x0=1)∧∃us a b,q.2.getD m .non= .tup us∧us[i]? =some a∧us[j]? =some b∧qct i j (q.2.getD m .non)=[a,b]∧qcz a=true∧qcz b=true∧(qdJ i j (q.2.getD m .non)).map shK=[x0,y0]:=fun {m} hm=>by
   rcases hxy with z | ⟨h1,h2⟩
   ·rw[z] at hm; cases hm
   ·exact ⟨h1,h2 _ (elem hm).2.2⟩
  refine St.sorted_g (κ:=tuples' true) (KV:=fun h m v=>qeP h (qdJ i j (q.2.getD m .non)) v) (kz:=(q.2.map (qdJ i j)).map (qbr qbB (q.2.map (qdJ i j)))) (q:=f) rfl pl.isList (by simp; lia) (by lia) (fun m v hv s' kp' hg' ho'=> ?_) (fun h h' m v st hv=> ?_) (fun s' ks kp' hks h2 Q' E' hq'=> ?_) (fun s' ks kp' hks m1 m2 hm1 hm2 C' hc'=> ?_) fun D h' tk cc pp hD0 kp' ho hD=> ?_
  ·have hm:m<q.2.length:=by
    have:=(List.getElem?_eq_some_iff.mp hv).1
    lia
   obtain ⟨_,us,ka,kb,e1,e2,e3,e4,e5,e6,_⟩:=ne_of_lt hm
   obtain ⟨rp,rl,_⟩:=elem hm
   have ev':its.getD m Value.none=v:=by rw[List.getD_eq_getElem?_getD,hv]; rfl
   rw[ev'] at rl
   rw[e1] at rp
   obtain ⟨t,ws,et,sq,rs⟩:=qaZ rp
   rw[et] at rl
   cases rl
   obtain ⟨its2,rv2,pl2,hz2⟩:=I2.tuple (le2.sqT sq)
   obtain ⟨va,fa1,fa2⟩:=rs.get e2
   obtain ⟨vb,fb1,fb2⟩:=rs.get e3
   obtain ⟨ua,ga1,ga2⟩:=rv2.get fa1
   obtain ⟨ub,gb1,gb2⟩:=rv2.get fb1
   have pl3:IsTup s'.heap t its2.toArray:=by
    obtain ⟨o,e,r⟩:=pl2
    exact ⟨o,kp' _ _ e,r⟩
   have zz:its2.length≤sizeLine:=by rw[←rv2.length]; exact hz2
   refine qia (R:=fun h v=>qeP h (qdJ i j (q.2.getD m .non)) v) (kp' _ _ hfo) (hrec.keeps kp') (I2.nolimit.keeps kp') hr.in1.in1.depth hk hco hgen hx hcell (fun v=>hbd _ _ _ v) fun A' env s3 L kp3=> ?_
   have pl4:IsTup s3.heap t its2.toArray:=by
    obtain ⟨o,e,r⟩:=pl3
    exact ⟨o,kp3 _ _ e,r⟩
   refine qma (qe8 L hdb pl4 ga1 zz fun tk1=>qe8 (s:={ s3 with toks:=tk1 }) L hdb pl4 gb1 zz fun tk2=> ?_) rfl
   refine ⟨_,tk2,⟨_,[ua,ub],rfl,⟨_,Heap.get?_push_size _ rfl,rfl,_,rfl⟩,?_⟩,rfl,fun b o e=>Heap.get?_push_of_some _ e⟩
   have ek:(qdJ i j (q.2.getD m .non)).map kyV=[va,vb]:=by
    unfold qdJ
    rw[e4]
    show [kyV (kyT ka),kyV (kyT kb)]=_
    rw[←(qdG e5 fa2).1,←(qdG e6 fb2).1]
   rw[ek]
   exact .cons ga2 (.cons gb2 .nil)
  ·obtain ⟨p,its3,e1,⟨o,e2,e3,e4⟩,e5⟩:=hv
   exact ⟨p,its3,e1,⟨o,st _ _ e2 (by rw[e3]; decide),e3,e4⟩,e5⟩
  ·have hz:0<q.2.length:=by lia
   refine qfR ks (ne_of_lt hz).1 (by rw[hks.1]; exact h2) (r:=[y0]) (fun v hv=> ?_) hq'
   obtain ⟨m,hm,rfl⟩:=List.mem_iff_getElem.mp hv
   have hm':m<q.2.length:=by have:=hks.1; lia
   exact ⟨_,hks.2 m _ (List.getElem?_eq_getElem hm),(ne_of_lt hm').2.choose_spec.choose_spec.choose_spec.2.2.2.2.2.2⟩
  ·have h1:m1<q.2.length:=by lia
   have h2:m2<q.2.length:=by lia
   have g1:=(ne_of_lt h1).2.choose_spec.choose_spec.choose_spec.2.2.2.2.2.2
   have g2:=(ne_of_lt h2).2.choose_spec.choose_spec.choose_spec.2.2.2.2.2.2
   rw[key1 h1,key1 h2,qcc qjN (List.mem_map.mpr ⟨_,(elem h1).2.2,rfl⟩) (List.mem_map.mpr ⟨_,(elem h2).2.2,rfl⟩)] at hc'
   have l1:=hks.1
   have a1:=hks.2 m1 _ (List.getElem?_eq_getElem (by lia))
   have a2:=hks.2 m2 _ (List.getElem?_eq_getElem (by lia))
   rw[List.getD_eq_getElem?_getD,List.getD_eq_getElem?_getD,List.getElem?_eq_getElem (by lia:m1<ks.length),List.getElem?_eq_getElem (by lia:m2<ks.length)]
   exact qj0 a1 a2 (g1.trans g2.symm) hc'
  ·have fD:H2 D=none:=I2.hok.fresh hD0
   have I3:Inv X pins σ (L2.upd H2 D (.lst (pp.toList.map fun j=>vs.getD j .non))) { s2 with heap:=h',toks:=tk }:=by
    refine I2.laid kp' hD0 ⟨?_,_,cc,vals_pick rv pp.toList,hD⟩
    rw[List.length_map,Array.length_toList,ho.1.sz,sizeLine_eq]
    lia
   obtain ⟨ps2,hP2,_⟩:=id hT2
   have nD:H1 D=none:=by
    cases z:H1 D with
    | none=>rfl
    | some o=>
     by_cases zP:D=P
     ·rw[zP,hP2] at fD; cases fD
     ·rw[same D o z zP] at fD; cases fD
   have g2:qa4 H1 B1 H2 B1:=⟨⟨fun b o eb ne=>same b o eb (fun z=>by subst z; rw[hP] at eb; cases eb; exact ne ps rfl),fun b nb=>by
     by_cases z:b=P
     ·subst z; rw[hP2]; intro w; cases w
     ·cases eb:H1 b with
      | none=>exact absurd eb nb
      | some o=>rw[same b o eb z]; intro w; cases w⟩,.refl _,le2,ev1.bt,fun _ _=>rfl⟩
   have m2:=hT' _ _ m1 same hT2
   obtain ⟨g,m',bp⟩:=qcd (M:=M) (ws:=pp.toList.map fun j=>vs.getD j .non) g2.bh ev1.bt m2 fD
   refine ⟨.ref D,_,I3,rfl,w1 D _ _ B1 ((g1.trans g2).trans g) m' (qbD g1.gx nD) bp qan ?_⟩
   have ep:=qc2 ho
   have ee:qcY (qdJ i j) q.2=pp.toList.map fun j=>q.2.getD j .non:=by
    unfold qcY
    rw[ep,srt_congr (k':=fun m=>qbr qbB (q.2.map (qdJ i j)) (qdJ i j (q.2.getD m .non))),qbg (k:=fun t=>qbr qbB (q.2.map (qdJ i j)) (qdJ i j t)) (f:=fun j=>q.2.getD j .non) (fun b=>rfl),show its.length=q.2.length by lia,Mir.map_range_getD]
    intro b hb
    have hb':b<q.2.length:=by have:=List.mem_range.mp hb; lia
    exact key1 hb'
   rw[ee]
   have go: ∀l:List Nat,(∀j∈l,j<q.2.length)→qaE M.K B1 (l.map fun j=>q.2.getD j .non) (l.map fun j=>vs.getD j .non):=fun l=>by
    induction l with
    | nil=>exact fun _=>.nil
    | cons j l ih=>exact fun hl=>.cons (rq.getD j (hl j List.mem_cons_self)) (ih fun i hi=>hl i (List.mem_cons_of_mem _ hi))
   exact go _ fun j hj=>by have:=(Mir.order_mem ho j).mp hj; lia
end
end PL
end
section
namespace PL
open PySem L2 SR SetL
theorem qk3:bootBuiltins "sum" =some (.builtin "sum"):=by decide+kernel
theorem qf0 (ns:List Int): ∀a:Int,PySem.W.Num.foldFrom PySem.W.Num.add (.int a) (ns.map PySem.W.WData.int)=some (.int (a+ns.sum)):=by
 induction ns with
 | nil=>intro a; simp[PySem.W.Num.foldFrom]
 | cons n ns ih=>
  intro a
  simp only[List.map_cons,PySem.W.Num.foldFrom,List.sum_cons]
  have e:PySem.W.Num.add (.int a) (.int n)=some (.int (a+n)):=rfl
  rw[e]
  show PySem.W.Num.foldFrom _ _ _=_
  rw[ih,Int.add_assoc]
theorem qfu (ns:List Int): ∀a:Int,PySem.W.Num.sumInts a (ns.map PySem.W.WData.int)=some (.int (a+ns.sum)):=by
 induction ns with
 | nil=>intro a; simp[PySem.W.Num.sumInts]
 | cons n ns ih=>
  intro a
  simp only[List.map_cons,PySem.W.Num.sumInts,List.sum_cons]
  rw[ih,qf0,Int.add_assoc]
  split<;>rfl
section
variable {X:Cx}
open PySem.Spec PyProof.Rows in
theorem qk1 (hc:X.calm=true):qdC X (.builtin "sum") (fun xs H Q=> ∃(a:Addr) (ns:List Int),xs=[.ref a]∧SqL X.K H a (ns.map V.int)∧Q (.int ns.sum) H):=by
 intro pins s σ H xs us Q I r h
 obtain ⟨a,ns,rfl,hS,q⟩:=h
 obtain ⟨u,rfl,ru⟩:=qek r
 cases ru
 obtain ⟨its,rv,pl,hz⟩:=I.list hS
 have hl:=rv.length
 rw[List.length_map] at hl
 have hlt:a<s.heap.objs.size:=Heap.lt_size pl.isList.choose_spec.1
 have hh:X.A.in1.handled=none:=I.ok.hd hc
 refine PySem.Flt.call_sum_walkF (xs:=ns.map PySem.W.WData.int) (qfu ns 0) (wpAny_pyIter_list pl.isList ?_)
 have W:=(Walks.list (prog:=X.prog) (w:=X.w) hh s.heap.objs.size a (Nat.ne_of_lt hlt) its.toArray).toS
 have en:its.toArray.size=(ns.map PySem.W.WData.int).length:=by rw[List.size_toArray,List.length_map]; lia
 rw[en] at W
 refine ⟨s.heap.objs.size,_,_,_,_,_,rfl,W,⟨⟨_,Heap.get?_push_size _ rfl,rfl,rfl⟩,pl.isList.at fun o e=>Heap.get?_push_of_some _ e⟩,fun b hb=> ?_,fun i v hv=> ?_,fun s' v hv mv=> ?_⟩
 ·have hb':b=s.heap.objs.size∨b=a:=by simpa using hb
  rcases hb' with rfl | rfl
  ·show s.heap.objs.size<(Heap.push _ _).objs.size
   rw[size_push']; exact Nat.lt_succ_self _
  ·show b<(Heap.push _ _).objs.size
   rw[size_push']; exact Nat.lt_succ_of_lt hlt
 ·have hv':its[i]? =some v:=by simpa using hv
  have hi:=(List.getElem?_eq_some_iff.mp hv').1
  have hi':i<ns.length:=by lia
  obtain ⟨u,e1,e2⟩:=rv.get (i:=i) (x:=V.int ns[i]) (by rw[List.getElem?_map,List.getElem?_eq_getElem hi']; rfl)
  rw[hv'] at e1; cases e1
  obtain ⟨tk,rfl⟩:=e2
  exact ⟨.int ns[i],by rw[List.getElem?_map,List.getElem?_eq_getElem hi']; rfl,.int _ _⟩
 ·rw[Int.zero_add] at hv
  cases hv with
  | int n t=>
   obtain ⟨m1,m2,m3,m4,m5⟩:=mv
   have es:s'={ s with heap:=s'.heap,toks:=s'.toks }:=by
    cases s'
    simp only at m2 m3 m4
    subst m2 m3 m4
    rfl
   rw[es]
   refine ⟨.int ns.sum,H,?_,⟨t,rfl⟩,q⟩
   refine I.kept (t':=s'.toks) fun b o eo=>m1 b o ?_ (Heap.get?_push_of_some _ eo)
   intro z
   have:b=s.heap.objs.size:=by simpa using z
   exact Nat.ne_of_lt (Heap.lt_size eo) this
end
def qoN (q:Bool×List T):Rs T:=if q.1=true∧q.2.all qfV=true then .ok (.int (q.2.map qdt).sum) else .no
section
variable {M:Md} {X:Cx} {e a:Expr} {pos p1 p2 p3:Pos} {dq:Ro→Rs (Bool×List T)}
theorem qqx (h:PE X e (tCB (fun xs H Q=> ∃(a:Addr) (ns:List Int),xs=[.ref a]∧SqL X.K H a (ns.map V.int)∧Q (.int ns.sum) H) (qcp (tQ M dq) qhk))):DE M X e (dCQ qoN dq):=
 qf6 h (fun H B p vs q c Q le bt m hq r ec k=>by
  unfold qoN at ec
  split at ec
  ·rename_i hcc
   cases ec
   unfold qhh at hq
   rw[if_pos hcc.1] at hq
   exact ⟨p,q.2.map qdt,rfl,SqL.of (by rw[←qdU hcc.2 r]; exact hq),k _ H B (.refl le bt) m qbs⟩
  ·cases ec) (fun q c z=>by unfold qoN at z; split at z<;>cases z)
end
section
variable {M:Md} {X:Cx} {a b c:Expr} {pos px py pz pt pt2:Pos} {kt k2:Nat} {x y z:Str} {i j k:Nat} {da db dc:Ro→Rs T} {ds:Ro→Rs (List T)} {ta:TA}
end
end PL
end
section
namespace St
open PySem PySem.W PySem.Calls PyProof.Rows
section
variable {prog:Program} {w:World} {A:Around} {s:Shared} {h0:Heap} {l q I S:Addr} {vs:List Value} {kf:Nat→Int} {d:Value} {R:Result→Shared→Prop}
def BestAt (kf:Nat→Int) (n i:Nat):Prop:=i<n∧∀j,j<n→kf j≤kf i∧(j<i→kf j<kf i)
theorem ql6 (hh:A.in1.handled=none) (hl:h0.IsList l vs.toArray) (hz:vs.length≤1000) (hI0:h0.get? I=none) (hS0:h0.get? S=none) (hIS:S≠I)
  (qei: ∀(i:Nat) (v:Value),vs[i]? =some v→∀s':Shared,Kp h0 s'.heap→wpAny (model prog w) A.in1 (call (.ref q) [v]) (fun r s''=> ∃h' tk t,r= .int (kf i) t∧s''={ s' with heap:=h',toks:=tk }∧Kp s'.heap h') (fun _ _=>False) s')
  (fin: ∀h' tk v,Kp h0 h'→(vs=[]→v=d)→(vs≠[]→∃i,vs[i]? =some v∧BestAt kf vs.length i)→R (.ok (.ret v)) { s with heap:=h',toks:=tk }):
  ∀(r j:Nat) (h:Heap) (tk:Nat) (bs:Array Value) (c:Nat),vs.length - j=r→j≤vs.length→Kp h0 h→h.IsListIter I l j→h.get? S=some (seqObj "list" bs c)→(j=0→bs= #[])→(0<j→∃i vb tb,bs= #[vb,.int (kf i) tb]∧vs[i]? =some vb∧BestAt kf j i)→
   codeAny (model prog w) A (.builtin "max.loop" ⟨[.ref I,.ref q,.ref S],[("default",d)]⟩) R { s with heap:=h,toks:=tk }:=by
 have nlI:l≠I:=fun z=>by
  obtain ⟨o,e,_⟩:=hl
  rw[z,hI0] at e; cases e
 have W:=Walks.list (prog:=prog) (w:=w) (A:=A.in1) hh I l nlI vs.toArray
 have lat: ∀h:Heap,Kp h0 h→h.IsList l vs.toArray:=fun h k=>hl.at fun o e=>k _ _ e
 intro r
 induction r with
 | zero=>
  intro j h tk bs c hr hj kp hI hS h1 h2
  have hj':j=vs.toArray.size:=by rw[List.size_toArray]; lia
  refine codeAny_builtin PySem.F.entry_max_loop ?_
  rw[Around.under_plainId PySem.F.plain_max_loop _]
  unfold Builtin.«max.loop»
  change wpAny (model prog w) A.in1 (do
   let __do_lift ←seqItems? (Value.ref S)
   _) _ _ _
  refine wpAny_bind (wpAny_seqItems hS rfl ?_)
  dsimp only
  refine wpAny_bind (wpAny_tryCatch (W.done _ _ _ (by rw[←hj']; exact ⟨hI,lat h kp⟩) fun h' tk' k2=> ?_))
  have nS:S∉[I]:=by simpa using hIS
  have hS':=k2 S _ nS hS
  have kp':Kp h0 h':=fun b o e=>k2 b o (fun z=>by rw[List.mem_singleton.mp z,hI0] at e; cases e) (kp b o e)
  by_cases c0:vs=[]
  ·have j0:j=0:=by rw[c0] at hj; simpa using hj
   have b0:=h1 j0
   subst b0
   show wpAny _ _ (do rule _; ret d) _ _ _
   refine wpAny_bind (wpAny_rule (wpAny_pure ?_))
   exact fin h' tk' d kp' (fun _=>rfl) fun z=>absurd c0 z
  ·have j1:0<j:=by
    have:=List.length_pos_iff.mpr c0
    lia
   obtain ⟨i,vb,tb,e1,e2,e3⟩:=h2 j1
   subst e1
   show wpAny _ _ (do updateSeq S fun _=> #[]; letGo [Value.int (kf i) tb] [vb]; ret vb) _ _ _
   refine wpAny_bind (wpAny_updateSeq hS' rfl ?_ (by show 2≤_; rw[sizeLine_eq]; decide) (Nat.zero_le _))
   refine wpAny_bind (wpAny_letGo (wpAny_pure ?_))
   refine fin _ tk' vb (fun b o e=> ?_) (fun z=>absurd z c0) fun _=>⟨i,e2,by rw[show vs.length=j by lia]; exact e3⟩
   rw[Heap.get?_update_other _ _ (fun z=>by rw[←z,hS0] at e; cases e)]
   exact kp' b o e
 | succ r ih=>
  intro j h tk bs c hr hj kp hI hS h1 h2
  have hlt:j<vs.length:=by lia
  have hj':j<vs.toArray.size:=by rw[List.size_toArray]; exact hlt
  refine codeAny_builtin PySem.F.entry_max_loop ?_
  rw[Around.under_plainId PySem.F.plain_max_loop _]
  unfold Builtin.«max.loop»
  change wpAny (model prog w) A.in1 (do
   let __do_lift ←seqItems? (Value.ref S)
   _) _ _ _
  refine wpAny_bind (wpAny_seqItems hS rfl ?_)
  dsimp only
  refine wpAny_bind (wpAny_tryCatch (W.item j _ _ _ hj' ⟨hI,lat h kp⟩ fun v h' tk' hv st k2=> ?_))
  have nS:S∉[I]:=by simpa using hIS
  have hS':=k2 S _ nS hS
  have kp':Kp h0 h':=fun b o e=>k2 b o (fun z=>by rw[List.mem_singleton.mp z,hI0] at e; cases e) (kp b o e)
  have hv':vs[j]? =some v:=by simpa using hv
  dsimp only
  refine wpAny_bind (wpAny_tryCatch (wpAny_holding (wpAny_mono (qei j v hv' { s with heap:=h',toks:=tk' } kp') (fun val s2 hs2=> ?_) fun _ _ hF=>hF.elim)))
  obtain ⟨h3,tk3,t3,rfl,rfl,k3⟩:=hs2
  have kp3:Kp h0 h3:=fun b o e=>k3 b o (kp' b o e)
  have hS3:=k3 _ _ hS'
  have hI3:h3.IsListIter I l (j+1):=by
   obtain ⟨o,e,x⟩:=st.1
   exact ⟨o,k3 _ _ e,x⟩
  have go: ∀(bs':Array Value) (c':Nat) (h4:Heap) (tk4:Nat),Kp h0 h4→h4.IsListIter I l (j+1)→h4.get? S=some (seqObj "list" bs' c')→(∃i vb tb,bs'= #[vb,.int (kf i) tb]∧vs[i]? =some vb∧BestAt kf (j+1) i)→
    codeAny (model prog w) A (.builtin "max.loop" ⟨[.ref I,.ref q,.ref S],[("default",d)]⟩) R { s with heap:=h4,toks:=tk4 }:=fun bs' c' h4 tk4 a1 a2 a3 a4=>
   ih (j+1) h4 tk4 bs' c' (by lia) hlt a1 a2 a3 (fun z=>by lia) fun _=>a4
  have upd: ∀bs0 c0,h3.get? S=some (seqObj "list" bs0 c0)→Kp h0 (h3.update S (Obj.mapSeq fun _=> #[v,Value.int (kf j) t3]))∧(h3.update S (Obj.mapSeq fun _=> #[v,Value.int (kf j) t3])).IsListIter I l (j+1)∧∃c1,(h3.update S (Obj.mapSeq fun _=> #[v,Value.int (kf j) t3])).get? S=some (seqObj "list" #[v,Value.int (kf j) t3] c1):=fun bs0 c0 e0=>by
   refine ⟨fun b o e=> ?_,?_,⟨_,get?_update_seq e0 fun _=> #[v,Value.int (kf j) t3]⟩⟩
   ·rw[Heap.get?_update_other _ _ (fun z=>by rw[←z,hS0] at e; cases e)]
    exact kp3 b o e
   ·obtain ⟨o,e,x⟩:=hI3
    exact ⟨o,by rw[Heap.get?_update_other _ _ hIS]; exact e,x⟩
  have ss: ∀bs0:Array Value,(bs0= #[]∨∃a b,bs0= #[a,b])→bs0.size≤sizeLine:=fun bs0 hb=>by
   rcases hb with rfl | ⟨a,b,rfl⟩
   ·exact Nat.zero_le _
   ·show 2≤_; rw[sizeLine_eq]; decide
  by_cases j0:j=0
  ·have b0:=h1 j0
   subst b0
   show wpAny _ _ (do updateSeq S fun _=> #[v,Value.int (kf j) t3]; again _) _ _ _
   obtain ⟨u1,u2,c1,u3⟩:=upd _ _ hS3
   refine wpAny_bind (wpAny_updateSeq hS3 rfl ?_ (Nat.zero_le _) (by show 2≤_; rw[sizeLine_eq]; decide))
   refine wpAny_pure ⟨plainId_quiet PySem.F.plain_max_loop _,go _ _ _ _ u1 u2 u3 ⟨j,v,t3,rfl,hv',by lia,fun j' hj'=> ?_⟩⟩
   have:j'=j:=by lia
   subst this
   exact ⟨Int.le_refl _,fun z=>absurd z (Nat.lt_irrefl _)⟩
  ·obtain ⟨i,vb,tb,e1,e2,e3⟩:=h2 (by lia)
   subst e1
   show wpAny _ _ (do
    let better ←tryCatch (holding [v,Value.int (kf j) t3] do
     let answer ←compareOp CmpOp.Gt (Value.int (kf j) t3) (Value.int (kf i) tb)
     let yes ←holding [answer] (truthy answer)
     letGo [answer]
     pure yes) _
    if better=true then do
      updateSeq S fun x=> #[v,Value.int (kf j) t3]
      letGo _ _
      again _
     else do
      letGo _ _
      again _) _ _ _
   refine wpAny_bind (wpAny_tryCatch (wpAny_holding (wpAny_bind (gt_int (wpAny_bind (wpAny_holding (wpAny_truthy_bool (wpAny_bind (wpAny_letGo (wpAny_pure ?_))))))))))
   by_cases cg:kf i<kf j
   ·rw[decide_eq_true cg,if_pos rfl]
    obtain ⟨u1,u2,c1,u3⟩:=upd _ _ hS3
    refine wpAny_bind (wpAny_updateSeq hS3 rfl ?_ (by show 2≤_; rw[sizeLine_eq]; decide) (by show 2≤_; rw[sizeLine_eq]; decide))
    refine wpAny_bind (wpAny_letGo ?_)
    refine wpAny_pure ⟨plainId_quiet PySem.F.plain_max_loop _,go _ _ _ _ u1 u2 u3 ⟨j,v,t3,rfl,hv',by lia,fun j' hj'=> ?_⟩⟩
    by_cases z:j'=j
    ·subst z; exact ⟨Int.le_refl _,fun z=>absurd z (Nat.lt_irrefl _)⟩
    ·have:=(e3.2 j' (by lia)).1
     exact ⟨by lia,fun _=>by lia⟩
   ·rw[decide_eq_false cg,if_neg (by decide)]
    refine wpAny_bind (wpAny_letGo ?_)
    refine wpAny_pure ⟨plainId_quiet PySem.F.plain_max_loop _,go _ _ _ _ kp3 hI3 hS3 ⟨i,vb,tb,rfl,e2,by have:=e3.1; lia,fun j' hj'=> ?_⟩⟩
    by_cases z:j'=j
    ·subst z; exact ⟨by lia,fun q=>by have:=e3.1; lia⟩
    ·exact e3.2 j' (by lia)
end
end St
end
section
namespace St
open PySem PySem.W PySem.Calls PyProof.Rows
theorem qmK (a v u:Value):argsOk "max" { pos:=[a],kw:=[(Str.ofString "key",v),(Str.ofString "default",u)] }:=by
 unfold argsOk; kernel_rfl
theorem qmH (v u:Value):Builtin.Builtins.bindParams "max" ["key", "default"] 0 { pos:=[],kw:=[(Str.ofString "key",v),(Str.ofString "default",u)] }=pure [some v,some u]:=rfl
theorem qkZ (a v u:Value):checkBuiltinCall "max" { pos:=[a],kw:=[(Str.ofString "key",v),(Str.ofString "default",u)] }=pure ():=by
 unfold checkBuiltinCall
 rw[PySem.F.kind_max]
 exact qmK a v u
section
variable {prog:Program} {w:World} {A:Around} {E:Value→Shared→Prop} {s:Shared} {l q:Addr} {vs:List Value} {kf:Nat→Int} {d:Value} {Q:Value→Shared→Prop}
theorem max_s (hh:A.in1.handled=none) (hl:s.heap.IsList l vs.toArray) (hz:vs.length≤1000)
  (qei: ∀(i:Nat) (v:Value),vs[i]? =some v→∀s':Shared,Kp s.heap s'.heap→wpAny (model prog w) A.in1 (call (.ref q) [v]) (fun r s''=> ∃h' tk t,r= .int (kf i) t∧s''={ s' with heap:=h',toks:=tk }∧Kp s'.heap h') (fun _ _=>False) s')
  (fin: ∀h' tk v,Kp s.heap h'→(vs=[]→v=d)→(vs≠[]→∃i,vs[i]? =some v∧BestAt kf vs.length i)→Q v { s with heap:=h',toks:=tk }):
  wpAny (model prog w) A (call (.builtin "max") [.ref l] [(Str.ofString "key",.ref q),(Str.ofString "default",d)]) Q E s:=by
 refine wpAny_call (codeAny_call_builtin PySem.F.plain_max PySem.F.entry_max ?_)
 rw[qkZ]
 refine wpAny_pure ?_
 unfold Builtin.max
 change wpAny (model prog w) A.in1 (do
  let x ←Builtin.Builtins.bindParams "max" ["key", "default"] 0 { pos:=[],kw:=[(Str.ofString "key",Value.ref q),(Str.ofString "default",d)] }
  _) _ _ _
 rw[qmH]
 refine wpAny_bind (wpAny_pure ?_)
 show wpAny _ _ (do
  let items ←pure (Value.ref l)
  let it ←pyIter items
  let L ←newList []
  again (Code.builtin "max.loop" { pos:=[it,Value.ref q,L],kw:=[(Str.ofString "default",d)] })) _ _ _
 refine wpAny_bind (wpAny_pure ?_)
 refine wpAny_bind (wpAny_pyIter_list hl ?_)
 refine wpAny_bind (wpAny_newList ?_ (Nat.zero_le _))
 have kp1:Kp s.heap (s.heap.push { cls:=.type "list_iterator",data:=.fields #[.ref l,.int ((0:Nat):Int) 0] }):=fun b o e=>Heap.get?_push_of_some _ e
 have sz:=size_push' s.heap { cls:=.type "list_iterator",data:=.fields #[.ref l,.int ((0:Nat):Int) 0] }
 refine wpAny_pure ⟨plainId_quiet PySem.F.plain_max_loop _,?_⟩
 refine ql6 (h0:=s.heap) (kf:=kf) (vs:=vs) hh hl hz (get_none (Nat.le_refl _)) (get_none ?_) ?_ qei (fun h' tk v a b c=>fin h' tk v a b c) (vs.length) 0 _ _ #[] 0 (by lia) (Nat.zero_le _) ?_ ?_ ?_ (fun _=>rfl) (fun z=>absurd z (Nat.lt_irrefl _))
 ·show s.heap.objs.size≤(Heap.push _ _).objs.size
  rw[size_push']; exact Nat.le_succ _
 ·show (Heap.push _ _).objs.size≠_
  rw[size_push']; exact Nat.succ_ne_self _
 ·exact fun b o e=>Heap.get?_push_of_some _ (Heap.get?_push_of_some _ e)
 ·exact ⟨_,Heap.get?_push_of_some _ (Heap.get?_push_size _ rfl),rfl,rfl⟩
 ·exact Heap.get?_push_size _ rfl
end
end St
end
section
namespace PL
open PySem L2 SR SetL
def qmy (i j:Nat):T→Option (Int×Int)
 | .tup us=>(match us[i]?,us[j]? with | some (.int a),some (.int b)=>some (a,b) | _,_=>none)
 | _=>none
def qaA (i j:Nat) (t:T):Int:=match qmy i j t with | some (a,b)=>a - b | none=>0
def qci (k:T→Int):T→List T→T
 | b,[]=>b
 | b,x::xs=>qci k (if k b<k x then x else b) xs
def qbQ (k:T→Int):List T→T
 | []=>.non
 | t::ts=>qci k t ts
def qoa (i j:Nat) (q:Bool×List T):Rs T:=if (q.1=true∧q.2.length≤1000)∧q.2.all (fun t=>(qmy i j t).isSome)=true then .ok (qbQ (qaA i j) q.2) else .no
theorem qkG {i j:Nat} {t:T} (h:(qmy i j t).isSome=true): ∃us a b,t= .tup us∧us[i]? =some (.int a)∧us[j]? =some (.int b)∧qaA i j t=a - b:=by
 cases t with
 | tup us=>
  have h':(match us[i]?,us[j]? with | some (T.int a),some (T.int b)=>some (a,b) | _,_=>none).isSome=true:=h
  split at h'
  ·rename_i a b e1 e2
   refine ⟨us,a,b,rfl,e1,e2,?_⟩
   unfold qaA qmy
   simp only[e1,e2]
  ·cases h'
 | _=>cases (show false=true from h)
theorem qk5 (k:T→Int) (ts:List T): ∀(pre:List T) (b:T) (m:Nat),St.BestAt (fun i=>k (pre.getD i .non)) pre.length m→pre.getD m .non=b→∃m',St.BestAt (fun i=>k ((pre++ts).getD i .non)) (pre++ts).length m'∧(pre++ts).getD m' .non=qci k b ts:=by
 induction ts with
 | nil=>intro pre b m h e; rw[List.append_nil]; exact ⟨m,h,e⟩
 | cons x xs ih=>
  intro pre b m h e
  have e1:pre++x::xs=(pre++[x])++xs:=by simp
  rw[e1]
  have old: ∀i,i<pre.length→(pre++[x]).getD i .non=pre.getD i .non:=fun i hi=>by
   rw[List.getD_eq_getElem?_getD,List.getD_eq_getElem?_getD,List.getElem?_append_left hi]
  have new:(pre++[x]).getD pre.length .non=x:=by
   rw[List.getD_eq_getElem?_getD,List.getElem?_append_right (Nat.le_refl _)]; simp
  by_cases c:k b<k x
  ·refine ih (pre++[x]) _ pre.length ⟨by simp,fun j hj=> ?_⟩ (by rw[new,if_pos c])
   show k _≤k _∧(_→k _<k _)
   rw[new]
   by_cases z:j=pre.length
   ·subst z; rw[new]; exact ⟨Int.le_refl _,fun q=>absurd q (Nat.lt_irrefl _)⟩
   ·have hj':j<pre.length:=by rw[List.length_append] at hj; simp at hj; lia
    rw[old j hj']
    have:k (pre.getD j .non)≤k (pre.getD m .non):=(h.2 j hj').1
    rw[e] at this
    exact ⟨by lia,fun _=>by lia⟩
  ·refine ih (pre++[x]) _ m ⟨by have:=h.1; simp; lia,fun j hj=> ?_⟩ (by rw[old m h.1,e,if_neg c])
   show k _≤k _∧(_→k _<k _)
   rw[old m h.1]
   by_cases z:j=pre.length
   ·subst z; rw[new,e]; exact ⟨by lia,fun q=>by have:=h.1; lia⟩
   ·have hj':j<pre.length:=by rw[List.length_append] at hj; simp at hj; lia
    rw[old j hj']
    exact h.2 j hj'
theorem qmI {kf:Nat→Int} {n a b:Nat} (h1:St.BestAt kf n a) (h2:St.BestAt kf n b):a=b:=by
 rcases Nat.lt_trichotomy a b with h | h | h
 ·have x:=(h2.2 a h1.1).2 h
  have y:=(h1.2 b h2.1).1
  lia
 ·exact h
 ·have x:=(h1.2 b h2.1).2 h
  have y:=(h2.2 a h1.1).1
  lia
theorem qoB {k:T→Int} {ts:List T} {m:Nat} (h:St.BestAt (fun i=>k (ts.getD i .non)) ts.length m):qbQ k ts=ts.getD m .non:=by
 cases ts with
 | nil=>exact absurd h.1 (Nat.not_lt_zero _)
 | cons t ts=>
  obtain ⟨m',b1,b2⟩:=qk5 k ts [t] t 0 ⟨by simp,fun j hj=>by
   have:j=0:=by simpa using hj
   subst this; exact ⟨Int.le_refl _,fun q=>absurd q (Nat.lt_irrefl _)⟩⟩ rfl
  have e:=qmI h b1
  subst e
  exact b2.symm
section
variable {M:Md} {X:Cx} {e:Expr} {dq:Ro→Rs (Bool×List T)} {x:Str} {P c:Addr} {params:Arguments} {scope:Scope} {p1 p2 p3 p4 p5 p6 bp dp lpos kpos kpos2 p pos:Pos} {i j j1 j2 j3:Nat} {qual:Str}
open PySem.Spec PyProof.Rows in
theorem qov (he:DQ M X e dq) (hg:Gl X "max") (hm:X.mg "max" =none) (hv:bootBuiltins "max" =some (.builtin "max")) (hcalm:X.calm=true)
  (hcode:X.env.code= .ref c) (C:PySem.W.CodeHd X.base c P) (hb: ∃bm ob,X.mg "__builtins__" =some (.ref bm)∧bm≠builtinsNs∧X.base.get? bm=some ob∧ob.cls= .type "module" ∧ob.dict=some builtinsNs∧ob.data= .plain)
  (hfree: ∀x∈scope.names,x.2≠.free) (hd:defaultsOf params X.env=([],[])) (hq:X.env.qual++("<lambda>" :Str)=qual)
  (hk:scope.kind= .function) (hco:scope.isCoroutine=false) (hgen:scope.isGenerator=false) (hx:scope.names.lookup x=some .local) (hcell: ∀y∈scope.names,y.2≠.cell) (hdb:(x==("__debug__" :Str))=false)
  (hbd: ∀(pm cv ctv v:Value),bindArgs (PySem.W.kla_fn "<lambda>" qual params (.BinOp (.Subscript (.Name x p1) (.Constant (.int (i:Int)) j1 p2) p3) .Sub (.Subscript (.Name x p4) (.Constant (.int (j:Int)) j2 p5) p6) bp) scope [] pm cv ctv) ⟨[v],[]⟩=pure [(x,v)]) (hr:qcD 4 X.A)
  (hT: ∀H,M.G.P H→Tab P lpos qual H) (hT': ∀H H2,M.G.P H→qiZ P H H2→Tab P lpos qual H2→M.G.P H2) (hK:X.K=M.K:=by rfl)
  (hs0:starEach [e] X.env=(false,eval e X.env)::starEach [] X.env:=by rfl) (hs1:backTo pos (starEach [e] X.env)=(false,eval e X.env)::backTo pos (starEach [] X.env):=by rfl) (hs2:(backTo pos (starEach [e] X.env)).any (·.1)=false:=by rfl):
  DE M X (.Call (.Name "max" p) [e] [⟨some "key",.Lambda params (.BinOp (.Subscript (.Name x p1) (.Constant (.int (i:Int)) j1 p2) p3) .Sub (.Subscript (.Name x p4) (.Constant (.int (j:Int)) j2 p5) p6) bp) scope lpos,kpos⟩,⟨some "default",.Constant .none j3 dp,kpos2⟩] pos) (dCQ (qoa i j) dq):=by
 intro pins s σ H Q I ⟨H0,B0,ρ,B,ev,w⟩
 refine wpAny_Call_Name_kw (qcw I hg hm hv ?_)
 refine PyProof.Rows.callWith_kw ?_ hs1 hs2 rfl rfl
 have hpa:PA X [e] (fun σ H Q=>tQ M dq σ H fun x H1=>Q [x] H1):=fun pos pins s σ H Q I h=>(qau he qaR hs0) pos pins s σ H Q I h
 have hR:tQ M dq σ H fun x H1=> ∃a vs q B1,x= .ref a∧qa4 H B H1 B1∧M.G.P H1∧(if q.1=true then H1 a=some (.lst vs) else SqT M.K B1 a vs)∧qaE M.K B1 q.2 vs∧
   Wnt M H0 (fun a=> ∀v H' B',qa4 H B H' B'→M.G.P H'→Rep M.K B' a v→Q v H') (qoa i j q):=
  tQ.of ev (Wnt.mono (Wnt.bind (qaJ.mp w)) fun q w1 p vs H1 B1 g1 m1 hq r1=>⟨p,vs,q,B1,rfl,g1,m1,hq,r1,w1⟩)
 refine thn (hpa pos pins s σ H (fun vs H1=>match vs with
  | [x]=> ∃a vs q B1,x= .ref a∧qa4 H B H1 B1∧M.G.P H1∧(if q.1=true then H1 a=some (.lst vs) else SqT M.K B1 a vs)∧qaE M.K B1 q.2 vs∧
   Wnt M H0 (fun a=> ∀v H' B',qa4 H B H' B'→M.G.P H'→Rep M.K B' a v→Q v H') (qoa i j q)
  | _=>False) I hR) fun us s1 ⟨vs,H1,I1,r1,q1⟩=> ?_
 match vs,r1,q1 with
 | [_],r1,q1=>
  obtain ⟨a,vs,q,B1,rfl,g1,m1,hql,rq,w1⟩:=q1
  obtain ⟨u,rfl,ru⟩:=qek r1
  cases ru
  have ev1:=ev.grow g1 m1
  unfold qoa at w1
  split at w1
  case isFalse=>exact w1.elim
  rename_i hcc
  rw[if_pos hcc.1.1] at hql
  have hS:SqL X.K H1 a vs:=SqL.of hql
  have hT1:=hT _ m1
  show wpAny _ _ (evalAll [(do let v ←eval (.Lambda params (.BinOp (.Subscript (.Name x p1) (.Constant (.int (i:Int)) j1 p2) p3) .Sub (.Subscript (.Name x p4) (.Constant (.int (j:Int)) j2 p5) p6) bp) scope lpos) X.env; standAt pos; pure v),(do let v ←eval (.Constant .none j3 dp) X.env; standAt pos; pure v)]) _ _ s1
  obtain ⟨ps,hP,_⟩:=id hT1
  refine wpAny_evalAll_cons (wpAny_bind (qhI I1 hcode C hb hfree hd hq hT1 fun f c' ctv H2 s2 I2 hT2 same _ kp hf0 hfn hfo hrec=>wpAny_bind (wpAny_standAt (wpAny_pure (wpAny_evalAll_cons (wpAny_bind (wpAny_Constant_none (wpAny_bind (wpAny_standAt (wpAny_pure (wpAny_evalAll_nil ?_)))))))))))
  show wpAny _ _ (call (.builtin "max") [.ref a] [(Str.ofString "key",.ref f),(Str.ofString "default",Value.none)]) _ _ s2
  have hS2:=same.seqL hP hS
  obtain ⟨its,rv,pl,hz⟩:=I2.list hS2
  have hlen:=rv.length
  have l2:=rq.length
  have notP: ∀b o,B1 b=some o→b≠P:=fun b o eb z=>by
   subst z
   have:=ev1.bh _ _ eb
   rw[hP] at this; cases this
   exact ev1.bt _ _ eb
  have le2:Le B1 H2:=fun b o eb=>same b o (ev1.bh _ _ eb) (notP b o eb)
  have elem: ∀{m:Nat},m<q.2.length→Rep X.K B1 (q.2.getD m .non) (vs.getD m .non)∧RelV (vs.getD m .non) (its.getD m Value.none)∧q.2.getD m .non∈q.2:=fun {m} hm=>⟨by rw[hK]; exact rq.getD m hm,qcW rv m,by
   rw[List.getD_eq_getElem?_getD,List.getElem?_eq_getElem hm]; exact List.getElem_mem hm⟩
  have hh:X.A.in1.handled=none:=I2.ok.hd hcalm
  refine St.max_s (kf:=fun m=>qaA i j (q.2.getD m .non)) hh pl.isList (by lia) (fun m v hv s' kp'=> ?_) fun h' tk v kp' e0 e1=> ?_
  ·have hm:m<q.2.length:=by
    have:=(List.getElem?_eq_some_iff.mp hv).1
    lia
   obtain ⟨rp,rl,hmem⟩:=elem hm
   obtain ⟨us,ka,kb,e1,e2,e3,e4⟩:=qkG (List.all_eq_true.mp hcc.2 _ hmem)
   have ev':its.getD m Value.none=v:=by rw[List.getD_eq_getElem?_getD,hv]; rfl
   rw[ev'] at rl
   rw[e1] at rp
   obtain ⟨t,ws,et,sq,rs⟩:=qaZ rp
   rw[et] at rl
   cases rl
   obtain ⟨its2,rv2,pl2,hz2⟩:=I2.tuple (le2.sqT sq)
   obtain ⟨va,fa1,fa2⟩:=rs.get e2
   obtain ⟨vb,fb1,fb2⟩:=rs.get e3
   obtain ⟨ua,ga1,ga2⟩:=rv2.get fa1
   obtain ⟨ub,gb1,gb2⟩:=rv2.get fb1
   have pl3:IsTup s'.heap t its2.toArray:=by
    obtain ⟨o,e,r⟩:=pl2
    exact ⟨o,kp' _ _ e,r⟩
   have zz:its2.length≤sizeLine:=by rw[←rv2.length]; exact hz2
   unfold Rep at fa2 fb2
   subst fa2 fb2
   obtain ⟨ta,rfl⟩:=ga2
   obtain ⟨tb,rfl⟩:=gb2
   refine wpAny_mono (qia (R:=fun h v=> ∃t,v=Value.int (qaA i j (q.2.getD m .non)) t) (kp' _ _ hfo) (hrec.keeps kp') (I2.nolimit.keeps kp') hr.in1.in1.depth hk hco hgen hx hcell (fun v=>hbd _ _ _ v) fun A' env s3 L kp3=> ?_) (fun r s'' ⟨h',tk',⟨t,hr1⟩,hs,hk'⟩=>⟨h',tk',t,hr1,hs,hk'⟩) fun _ _ hF=>hF
   have pl4:IsTup s3.heap t its2.toArray:=by
    obtain ⟨o,e,r⟩:=pl3
    exact ⟨o,kp3 _ _ e,r⟩
   refine wpAny_BinOp (qe8 L hdb pl4 ga1 zz fun tk1=>qe8 (s:={ s3 with toks:=tk1 }) L hdb pl4 gb1 zz fun tk2=>sub_int ?_)
   rw[e4]
   exact ⟨_,_,⟨_,rfl⟩,rfl,fun b o e=>e⟩
  ·have g2:qa4 H1 B1 H2 B1:=by
    obtain ⟨ps2,hP2,_⟩:=id hT2
    exact ⟨⟨fun b o eb ne=>same b o eb (fun z=>by subst z; rw[hP] at eb; cases eb; exact ne ps rfl),fun b nb=>by
     by_cases z:b=P
     ·subst z; rw[hP2]; intro w; cases w
     ·cases eb:H1 b with
      | none=>exact absurd eb nb
      | some o=>rw[same b o eb z]; intro w; cases w⟩,.refl _,le2,ev1.bt,fun _ _=>rfl⟩
   have m2:=hT' _ _ m1 same hT2
   have I3:Inv X pins σ H2 { s2 with heap:=h',toks:=tk }:=I2.kept (t':=tk) fun b o eo=>kp' b o eo
   by_cases z:q.2=[]
   ·have q0:q.2.length=0:=by rw[z]; rfl
    have iz:its=[]:=List.eq_nil_of_length_eq_zero (by lia)
    rw[e0 iz]
    refine ⟨.non,H2,I3,rfl,w1 .non _ B1 (g1.trans g2) m2 ?_⟩
    rw[z]
    show Rep _ _ T.non _
    unfold Rep
    rfl
   ·have iz:its≠[]:=fun y=>by
     rw[y] at hlen
     have hlen:vs.length=0:=hlen
     exact z (List.eq_nil_of_length_eq_zero (by lia))
    obtain ⟨m,f1,f2⟩:=e1 iz
    have hm:m<q.2.length:=by have:=f2.1; lia
    have f3:St.BestAt (fun m=>qaA i j (q.2.getD m .non)) q.2.length m:=by
     rw[show q.2.length=its.length by lia]; exact f2
    rw[qoB f3] at w1
    obtain ⟨rp,rl,hmem⟩:=elem hm
    have ev':its.getD m Value.none=v:=by rw[List.getD_eq_getElem?_getD,f1]; rfl
    rw[ev'] at rl
    exact ⟨vs.getD m .non,H2,I3,rl,w1 _ _ B1 (g1.trans g2) m2 (by rw[←hK]; exact rp)⟩
end
end PL
end
section
namespace L2
open PySem PySem.Spec PyProof.Rows
def qgl (Ts:List Addr) (H:Hp):Prop:=(∀T∈Ts,H T=some (.tbl #[]))∧∀b,b∉Ts→H b=none∨∃o xs,H b=some (.frz o (.lst xs))
theorem qiC {P:Program} {w:World} {K:PySem.W.Frag} {mg mb:Str→Option Value} {CX:CXT} {k:Nat} {fa a:Addr} {cts:List (Addr×Addr)} {fd:FuncData} {x:Str} {sp:Sp} {s₁:Shared} {vs:List Value} {ns:List Int}
  (KX:K.In s₁.heap) (hns:s₁.heap.Ns mainGlobals mg) (hb:s₁.heap.Ns builtinsNs mb) (hbb: ∀x:Str,x≠ "__name__" →mb x=bootBuiltins x) (hlim:s₁.heap.NoLimit) (hg:s₁.gens= #[])
  (ha:s₁.heap.get? a=some { cls:=.type "list",data:=.seq vs.toArray }) (hi:IntsAre vs ns) (hl:ns.length≤sizeLine) (hr:qcD k callerA)
  (hC: ∀p∈cts,PySem.W.CodeHd s₁.heap p.1 p.2) (hT: ∀T∈cts.map (·.2),s₁.heap.get? T=some (PySem.W.tabObj #[])) (hKT: ∀T∈cts.map (·.2),K.lookup T=none) (hbm:qgm mg s₁.heap)
  (F: ∀base:Heap,K.In base→base.Ns mainGlobals mg→(∀p∈cts,PySem.W.CodeHd base p.1 p.2)→qgm mg base→qbG P w K mg base CX k fa fd [x] sp) (hbind: ∀(s:Shared) (u:Value),BindsTo s fd ⟨[u],[]⟩ [(x,u)])
  (hsp: ∀H:Hp,qgl (cts.map (·.2)) H→SqL K H a (ns.map V.int)→sp [.ref a] H (fun v _=>v= .bl true) fun _ _ _=>False)
  (hCX: ∀H e s',CX [] H s₁ (fun _ _ _=>False) e s'→False):
  codeAny (model P w) callerA (.call (.ref fa) ⟨[.ref a],[]⟩) (fun r s'=>r= .ok (.ret (.bool true))∧OldK s₁.heap s'.heap∧s'.os=s₁.os∧AllBare s'.gens) s₁:=by
 have rv:=qdO hi
 have lenV:=hi.length
 have core: ∀H:Hp,qgl (cts.map (·.2)) H→SqL K H a (ns.map V.int)→HOk P w H s₁.heap→(∀b,H b≠none→b=a∨b∈cts.map (·.2))→(H a≠none→K.lookup a=none)→
   codeAny (model P w) callerA (.call (.ref fa) ⟨[.ref a],[]⟩) (fun r s'=>r= .ok (.ret (.bool true))∧OldK s₁.heap s'.heap∧s'.os=s₁.os∧AllBare s'.gens) s₁:=by
  intro H hO hS hok hA hK
  have base_of: ∀{b:Addr} {o:Obj},s₁.heap.get? b=some o→H b=none→(qgn s₁.heap H).get? b=some o:=fun e n=>qhO e n
  have other: ∀{b:Addr} {o:Obj},s₁.heap.get? b=some o→(∀xs n,o.data≠.seq xs n)→(o.cls≠.none)→H b=none:=fun {b o} e d d2=>by
   cases q:H b with
   | none=>rfl
   | some u=>
    rcases hA b (by rw[q]; simp) with z | z
    ·subst z
     rw[ha] at e; cases e
     exact absurd rfl (d _ _)
    ·rw[hT b z] at e; cases e
     exact absurd rfl d2
  have noA: ∀{b:Addr} {o:Obj} {es:Array DictEntry} {ep:Nat},s₁.heap.get? b=some o→o.data= .dict es ep→H b=none:=fun {b o es ep} e d=>by
   cases q:H b with
   | none=>rfl
   | some u=>
    rcases hA b (by rw[q]; simp) with z | z
    ·subst z
     rw[ha] at e; cases e
     have d':Data.seq vs.toArray _=Data.dict es ep:=d
     cases d'
    ·rw[hT b z] at e; cases e
     have d':Data.fields _=Data.dict es ep:=d
     cases d'
  have nsK: ∀{b:Addr} {m:Str→Option Value},s₁.heap.Ns b m→(qgn s₁.heap H).Ns b m:=fun {b m} ⟨o,es,ep,e,d,r⟩=>⟨o,es,ep,base_of e (noA e d),d,r⟩
  have hKb:K.In (qgn s₁.heap H):=fun b o e=>base_of (KX b o e) (by
   cases q:H b with
   | none=>rfl
   | some u=>
    rcases hA b (by rw[q]; simp) with z | z
    ·subst z
     rw[hK (by rw[q]; simp)] at e; cases e
    ·rw[hKT b z] at e; cases e)
  have hM:Mod K mg (qgn s₁.heap H):=⟨hKb,nsK hns,⟨mb,nsK hb,hbb⟩,let ⟨mc,h1,h2⟩:=hlim; ⟨mc,nsK h1,h2⟩⟩
  have hCb: ∀p∈cts,PySem.W.CodeHd (qgn s₁.heap H) p.1 p.2:=fun p hp=>by
   obtain ⟨o,vs',file,tf,flags,tg,inF,text,tt,e1,e2,e3,r⟩:=hC p hp
   exact ⟨o,vs',file,tf,flags,tg,inF,text,tt,base_of e1 (other e1 (fun xs n z=>by rw[e3] at z; cases z) (fun z=>by rw[e2] at z; cases z)),e2,e3,r⟩
  have hBb:qgm mg (qgn s₁.heap H):=by
   obtain ⟨bm,ob,b1,b2,b3,b4,b5,b6⟩:=hbm
   exact ⟨bm,ob,b1,b2,base_of b3 (other b3 (fun xs n z=>by rw[b6] at z; cases z) (fun z=>by rw[b4] at z; cases z)),b4,b5,b6⟩
  have e0:qlf P w K mg (qgn s₁.heap H) callerA [] s₁ H:=⟨rfl,hM,fun b o e=>qjS e,Nat.le_of_eq (qfX _ _),trivial,fun b hb=>absurd (show b∈([]:List Addr) from hb) (by simp),hok,.of_eq hg⟩
  refine codeAny_mono ((F _ hKb (nsK hns) hCb hBb).run callerA [] s₁ H ⟨[.ref a],[]⟩ [.ref a] [.ref a] _ _ hr e0 (hbind s₁ (.ref a)) (.cons rfl .nil) (hsp H hO hS)) fun r s' h=> ?_
  cases r with
  | error e=>exact (hCX H e s' h).elim
  | ok fl=>
   cases fl with
   | next=>exact False.elim h
   | brk=>exact False.elim h
   | cont=>exact False.elim h
   | ret u=>
    obtain ⟨v,H',os,bare,un,hok',r',q⟩:=h
    have q':v= .bl true:=q
    subst q'
    obtain rfl:u=Value.bool true:=r'
    have old: ∀b o,b∉cts.map (·.2)→s₁.heap.get? b=some o→s'.heap.get? b=some o:=fun b o hbT e=>by
     cases q:H b with
     | none=>exact un.keep b o e q (by intro z; exact absurd (show b∈([]:List Addr) from z) (by simp)) (by simp)
     | some u=>
      rcases hO.2 b hbT with z | ⟨ob,xs,z⟩
      ·rw[q] at z; cases z
      ·have z2:=un.frzs b ob _ z
       obtain ⟨e1,_⟩:=hok b _ z
       obtain ⟨e2,_⟩:=hok' b _ z2
       rw[e] at e1; cases e1
       exact e2
    have tb: ∀T∈cts.map (·.2),∃more,s'.heap.get? T=some (PySem.W.tabObj (#[]++more)):=fun T hTm=>by
     obtain ⟨more,hT'⟩:=un.tbls T _ (hO.1 T hTm)
     exact ⟨more,hok' T _ hT'⟩
    refine ⟨rfl,⟨fun b o e=> ?_,fun b o e=> ?_⟩,os,bare⟩
    ·by_cases z:b∈cts.map (·.2)
     ·obtain ⟨more,hT2⟩:=tb b z
      rw[hT b z] at e; cases e
      obtain ⟨p,hp,rfl⟩:=List.mem_map.mp z
      exact .inr (.inl ⟨((hC p hp).tab (hT _ z)).isCodeTable,rfl, #[],more,rfl,hT2⟩)
     ·exact .inl (old b o z e)
    ·by_cases z:b∈cts.map (·.2)
     ·obtain ⟨more,hT2⟩:=tb b z
      exact ⟨_,hT2⟩
     ·exact ⟨o,old b o z e⟩
 have aT:a∉cts.map (·.2):=fun z=>by rw[hT a z] at ha; cases ha
 cases hk:K.lookup a with
 | some o=>
  have e:=KX a o hk
  rw[ha] at e
  cases e
  refine core (fun b=>if b∈cts.map (·.2) then some (.tbl #[]) else none) ⟨fun T hTm=>if_pos hTm,fun b hb=>.inl (if_neg hb)⟩ (.inr ⟨_,vs.toArray,_,hk,rfl,rfl,rfl,by rw[List.size_toArray,lenV]; exact hl,by simpa using rv⟩) (fun b u z=> ?_) (fun b z=> ?_) fun z=>absurd (if_neg aT) z
  ·by_cases hb:b∈cts.map (·.2)
   ·have z':=(if_pos hb).symm.trans z
    cases z'
    exact hT b hb
   ·have z':=(if_neg hb).symm.trans z
    cases z'
  ·by_cases hb:b∈cts.map (·.2)
   ·exact .inr hb
   ·exact absurd (if_neg hb) z
 | none=>
  refine core (fun b=>if b∈cts.map (·.2) then some (.tbl #[]) else if b=a then some (.frz { cls:=.type "list",data:=.seq vs.toArray } (.lst (ns.map V.int))) else none) ⟨fun T hTm=>if_pos hTm,fun b hbT=> ?_⟩ (.inl (.inr ⟨{ cls:=.type "list",data:=.seq vs.toArray },(if_neg aT).trans (if_pos rfl)⟩)) (fun b u z=> ?_) (fun b z=> ?_) fun _=>hk
  ·by_cases hb:b=a
   ·exact .inr ⟨_,_,(if_neg hbT).trans (if_pos hb)⟩
   ·exact .inl ((if_neg hbT).trans (if_neg hb))
  ·by_cases hbT:b∈cts.map (·.2)
   ·have z':=(if_pos hbT).symm.trans z
    cases z'
    exact hT b hbT
   ·by_cases hb:b=a
    ·have z':=((if_neg hbT).trans (if_pos hb)).symm.trans z
     cases z'
     subst hb
     exact ⟨ha,by rw[List.length_map]; exact hl,vs,_,rv,ha⟩
    ·have z':=((if_neg hbT).trans (if_neg hb)).symm.trans z
     cases z'
  ·by_cases hbT:b∈cts.map (·.2)
   ·exact .inr hbT
   ·by_cases hb:b=a
    ·exact .inl hb
    ·exact absurd ((if_neg hbT).trans (if_neg hb)) z
theorem walk_ofTs {l:PySem.W.OpenLaw} {n k:Nat} {q:Program} {loose:List Str} {XP:(Str→Option Value)→Heap→Prop} {YP:World→Heap→Prop} {d:DefRec} {K:Params→PySem.W.Frag} {CX:World→CXT} {sp:World→List (Addr×Addr)→Sp} {x:Str} {ys:List Str}
  (hn:l.most=some n) (hn2:n≤sizeLine) (hdf:d.params.defaults=[]) (hr:qcD k callerA)
  (hY: ∀(w:World) (h:Heap),YP w h→(K w.params).In h) (hrec: ∀y∈ys,∃dx,(recsOf q).find? (fun e=>e.name==y)=some dx)
  (F: ∀(w:World) (mg:Str→Option Value) (fa:Addr) (h:Heap),(K w.params).In h→h.Ns mainGlobals mg→mg d.name=some (.ref fa)→
   ∃(fd:FuncData) (cts:List (Addr×Addr)),ys.map (PySem.W.tabIn (K w.params))=cts.map some∧(∀T∈cts.map (·.2),(K w.params).lookup T=none)∧(∀(s:Shared) (u:Value),BindsTo s fd ⟨[u],[]⟩ [(x,u)])∧
    (∀base:Heap,(K w.params).In base→base.Ns mainGlobals mg→(∀p∈cts,PySem.W.CodeHd base p.1 p.2)→qgm mg base→qbG l.prog w (K w.params) mg base (CX w) k fa fd [x] (sp w cts)))
  (hsp: ∀(w:World) (cts:List (Addr×Addr)) (H:Hp) (a:Addr) (ns:List Int),ns.length≤n→qgl (cts.map (·.2)) H→SqL (K w.params) H a (ns.map V.int)→sp w cts [.ref a] H (fun v _=>v= .bl true) fun _ _ _=>False)
  (hCX: ∀(w:World) (H:Hp) (s:Shared) (e:Value) (s':Shared),CX w [] H s (fun _ _ _=>False) e s'→False):
  PySem.W.WalkO q loose XP YP l.row.toRowW d [] (fun f vs=>PySem.call f vs):=by
 refine Att.attach_call hn hdf fun w s₀ s₁ mg mb fa o pm cd doc a vs ns G Y ho hd hcd hmg hobj hints hlen hg=> ?_
 have KX:=hY w _ Y
 obtain ⟨fd,cts,ht,hkt,hb,hF⟩:=F w mg fa _ KX G.T.g hmg
 have each: ∀p∈cts,PySem.W.CodeHd s₁.heap p.1 p.2∧s₁.heap.get? p.2=some (PySem.W.tabObj #[]):=fun p hp=>by
  have hm:some p∈ys.map (PySem.W.tabIn (K w.params)):=by rw[ht]; exact List.mem_map.mpr ⟨p,hp,rfl⟩
  obtain ⟨y,hy,ey⟩:=List.mem_map.mp hm
  obtain ⟨dx,hdx⟩:=hrec y hy
  exact PySem.W.tab_of G.T KX hdx ey
 have hC:=fun p hp=>(each p hp).1
 have hT: ∀T∈cts.map (·.2),s₁.heap.get? T=some (PySem.W.tabObj #[]):=fun T hTm=>by
  obtain ⟨p,hp,rfl⟩:=List.mem_map.mp hTm
  exact (each p hp).2
 exact qiC KX G.T.g G.T.b G.T.builtins G.T.nolimit hg hobj hints (Nat.le_trans hlen hn2) hr hC hT hkt G.T.bmain hF hb (fun H hO hS=>hsp w cts H a ns hlen hO hS) fun H e s'=>hCX w H s₁ e s'
end L2
end
section
namespace PL
open PySem L2 SR SetL
theorem qtn {α:Type}: ∀{us:List α},us.length=1→∃a,us=[a]
 | [a],_=>⟨a,rfl⟩
theorem qsI {α:Type}: ∀{us:List α},us.length=2→∃a b,us=[a,b]
 | [a,b],_=>⟨a,b,rfl⟩
theorem qsH {α:Type}: ∀{us:List α},us.length=3→∃a b c,us=[a,b,c]
 | [a,b,c],_=>⟨a,b,c,rfl⟩
theorem hu1 {k:Nat} {A:Around} (r:qcD k A):A.units+1<cLine:=by have:=r.units; lia
theorem qeg:bootBuiltins "max" =some (.builtin "max"):=by decide+kernel
def qep (l:List (Addr×Pos×Str)):Gam where
 P:=fun H=> ∀p∈l,Tab p.1 p.2.1 p.2.2 H
 st:=fun H H' k h p hp=>by
  obtain ⟨ps,h1,h2,h3⟩:=h p hp
  refine ⟨ps,k _ _ h1 (fun _ z=>by cases z) (fun _ z=>by cases z) (fun _ z=>by cases z) (fun _ _ _ z=>by cases z),h2,h3.imp_right fun ⟨c,a,b⟩=>⟨c,a,k _ _ b (fun _ z=>by cases z) (fun _ z=>by cases z) (fun _ z=>by cases z) (fun _ _ _ z=>by cases z)⟩⟩
theorem qhQ {l:List (Addr×Pos×Str)} {P:Addr} {lpos:Pos} {qual:Str} (h:(P,lpos,qual)∈l): ∀H,(qep l).P H→Tab P lpos qual H:=fun H g=>g _ h
theorem qfN {β:Type}: ∀{l:List (Addr×β)},(l.map (·.1)).Nodup→∀{a b:Addr×β},a∈l→b∈l→a.1=b.1→a=b
 | [],_,_,_,h,_,_=>by cases h
 | x::l,nd,a,b,ha,hb,e=>by
  rw[List.map_cons,List.nodup_cons] at nd
  rcases List.mem_cons.mp ha with rfl | ha'
  ·rcases List.mem_cons.mp hb with rfl | hb'
   ·rfl
   ·exact absurd (by rw[e]; exact List.mem_map.mpr ⟨b,hb',rfl⟩) nd.1
  ·rcases List.mem_cons.mp hb with rfl | hb'
   ·exact absurd (by rw[←e]; exact List.mem_map.mpr ⟨a,ha',rfl⟩) nd.1
   ·exact qfN nd.2 ha' hb' e
theorem qeJ {l:List (Addr×Pos×Str)} {P:Addr} {lpos:Pos} {qual:Str} (h:(P,lpos,qual)∈l) (nd:(l.map (·.1)).Nodup): ∀H H2,(qep l).P H→qiZ P H H2→Tab P lpos qual H2→(qep l).P H2:=fun H H2 g same t p hp=>by
 by_cases e:p.1=P
 ·have:=qfN nd hp h e
  subst this
  exact t
 ·obtain ⟨ps,h1,h2,h3⟩:=g p hp
  obtain ⟨qs,k1,_⟩:=g _ h
  refine ⟨ps,same _ _ h1 e,h2,h3.imp_right fun ⟨c,a,b⟩=>⟨c,a,same _ _ b fun z=> ?_⟩⟩
  subst z
  rw[k1] at b
  cases b
theorem qrh {Ts:List Addr} {lq:List (Pos×Str)} {H:Hp} (h:qgl Ts H):(qep (Ts.zip lq)).P H:=fun p hp=>⟨#[],h.1 _ (List.of_mem_zip hp).1,trivial,.inl rfl⟩
end PL
end
section
namespace PL
open PySem L2 SR SetL
theorem qk4:bootBuiltins "any" =some (.builtin "any"):=by decide+kernel
theorem qjA (bs:List Bool):(List.range bs.length).any (fun i=>bs.getD i false)=bs.any id:=by
 rw[Bool.eq_iff_iff,List.any_eq_true,List.any_eq_true]
 constructor
 ·intro hq12
  obtain ⟨i,hi,h⟩:=hq12
  have hi':=List.mem_range.mp hi
  refine ⟨bs[i],List.getElem_mem hi',?_⟩
  simpa [List.getD_eq_getElem?_getD,hi'] using h
 ·intro hq16
  obtain ⟨b,hb,h⟩:=hq16
  obtain ⟨i,hi,rfl⟩:=List.mem_iff_getElem.mp hb
  exact ⟨i,List.mem_range.mpr hi,by simpa [List.getD_eq_getElem?_getD,hi] using h⟩
section
variable {X:Cx}
theorem qmF (hc:X.calm=true):qdC X (.builtin "any") (fun xs H Q=> ∃(a:Addr) (bs:List Bool),xs=[.ref a]∧SqL X.K H a (bs.map V.bl)∧Q (.bl (bs.any id)) H):=by
 intro pins s σ H xs us Q I r h
 obtain ⟨a,bs,rfl,hS,q⟩:=h
 obtain ⟨u,rfl,ru⟩:=qek r
 cases ru
 obtain ⟨its,rv,pl,hz⟩:=I.list hS
 have e:=qeQ rv
 have hlt:a<s.heap.objs.size:=Heap.lt_size pl.isList.choose_spec.1
 have hh:X.A.in1.handled=none:=I.ok.hd hc
 refine call_any_walk (wpAny_pyIter_list pl.isList ?_)
 refine ⟨s.heap.objs.size,_,_,its.toArray.size,_,_,fun i=>bs.getD i false,rfl,Walks.list hh s.heap.objs.size a (Nat.ne_of_lt hlt) its.toArray,⟨⟨_,Heap.get?_push_size _ rfl,rfl,rfl⟩,pl.isList.at fun o e=>Heap.get?_push_of_some _ e⟩,fun i v s' Q' E' hv hq=> ?_,fun h' tk k=> ?_⟩
 ·rw[e] at hv
  have hv':(bs.map Value.bool)[i]? =some v:=by simpa using hv
  rw[List.getElem?_map] at hv'
  cases z:bs[i]? with
  | none=>rw[z] at hv'; cases hv'
  | some b=>
   rw[z] at hv'
   cases hv'
   have eb:bs.getD i false=b:=by simp[List.getD_eq_getElem?_getD,z]
   have hq':Q' (bs.getD i false) s':=hq
   rw[eb] at hq'
   exact wpAny_truthy_bool hq'
 ·have en:its.toArray.size=bs.length:=by rw[e]; simp
  rw[en,qjA]
  refine ⟨.bl (bs.any id),H,?_,rfl,q⟩
  refine I.kept (t':=tk) fun b o eo=>k b o ?_ (Heap.get?_push_of_some _ eo)
  intro z
  have:b=s.heap.objs.size:=by simpa using z
  exact Nat.ne_of_lt (Heap.lt_size eo) this
def qix:List Int→Int
 | []=>0
 | x::xs=>xs.foldl (fun a b=>if a<b then b else a) x
theorem qiM (ns:List Int): ∀k,k<ns.length→ns.getD (argBest (fun i j=>decide (ns.getD i 0>ns.getD j 0)) k) 0=((ns.take (k+1)).drop 1).foldl (fun a b=>if a<b then b else a) (ns.getD 0 0):=by
 intro k
 induction k with
 | zero=>
  intro h
  have:(ns.take 1).drop 1=[]:=by cases ns<;>simp
  rw[this]
  rfl
 | succ k ih=>
  intro h
  have ih:=ih (by lia)
  have et:(ns.take (k+1+1)).drop 1=(ns.take (k+1)).drop 1++[ns.getD (k+1) 0]:=by
   rw[List.take_succ,List.getElem?_eq_getElem h,List.drop_append_of_le_length (by rw[List.length_take]; lia)]
   simp[List.getD_eq_getElem?_getD,h]
  rw[et,List.foldl_append,←ih]
  show ns.getD (if decide (ns.getD (k+1) 0>ns.getD (argBest _ k) 0)=true then k+1 else argBest _ k) 0=(if _<_ then _ else _)
  by_cases c:ns.getD (k+1) 0>ns.getD (argBest (fun i j=>decide (ns.getD i 0>ns.getD j 0)) k) 0
  ·rw[if_pos (decide_eq_true c),if_pos c]
  ·rw[if_neg (by rw[decide_eq_false c]; decide),if_neg c]
theorem qge (hc:X.calm=true):qdC X (.builtin "max") (fun xs H Q=> ∃(a:Addr) (ns:List Int),xs=[.ref a]∧SqL X.K H a (ns.map V.int)∧ns≠[]∧Q (.int (qix ns)) H):=by
 intro pins s σ H xs us Q I r h
 obtain ⟨a,ns,rfl,hS,hne,q⟩:=h
 obtain ⟨u,rfl,ru⟩:=qek r
 cases ru
 obtain ⟨its,rv,pl,hz⟩:=I.list hS
 have hl:=rv.length
 rw[List.length_map] at hl
 have n0:0<ns.length:=List.length_pos_iff.mpr hne
 have hlt:a<s.heap.objs.size:=Heap.lt_size pl.isList.choose_spec.1
 have hh:X.A.in1.handled=none:=I.ok.hd hc
 have shape: ∀{i:Nat} {v:Value},its.toArray[i]? =some v→∃t,v= .int (ns.getD i 0) t:=fun {i v} hv=>by
  have hv':its[i]? =some v:=by simpa using hv
  have hi:=(List.getElem?_eq_some_iff.mp hv').1
  obtain ⟨u,e1,e2⟩:=rv.get (i:=i) (x:=V.int (ns.getD i 0)) (by rw[List.getElem?_map,List.getElem?_eq_getElem (by lia)]; simp[List.getD_eq_getElem?_getD,show i<ns.length by lia])
  rw[hv'] at e1; cases e1
  exact e2
 refine call_max_walk (wpAny_pyIter_list pl.isList ?_)
 refine ⟨s.heap.objs.size,_,_,its.toArray.size,_,_,fun i j=>decide (ns.getD i 0>ns.getD j 0),rfl,Walks.list hh s.heap.objs.size a (Nat.ne_of_lt hlt) its.toArray,⟨⟨_,Heap.get?_push_size _ rfl,rfl,rfl⟩,pl.isList.at fun o e=>Heap.get?_push_of_some _ e⟩,fun b hb=> ?_,by rw[List.size_toArray]; lia,fun i j vi vj s' Q' E' hi hj hq=> ?_,fun v h' tk hv k=> ?_⟩
 ·have hb':b=s.heap.objs.size∨b=a:=by simpa using hb
  rcases hb' with rfl | rfl
  ·show s.heap.objs.size<(Heap.push _ _).objs.size
   rw[PyProof.Rows.size_push']; exact Nat.lt_succ_self _
  ·show b<(Heap.push _ _).objs.size
   rw[PyProof.Rows.size_push']; exact Nat.lt_succ_of_lt hlt
 ·obtain ⟨t,rfl⟩:=shape hi
  obtain ⟨t',rfl⟩:=shape hj
  exact PySem.P.gt_int hq
 ·obtain ⟨t,rfl⟩:=shape hv
  have e:ns.getD (argBest (fun i j=>decide (ns.getD i 0>ns.getD j 0)) (its.toArray.size - 1)) 0=qix ns:=by
   rw[qiM ns _ (by rw[List.size_toArray]; lia)]
   have:its.toArray.size - 1+1=ns.length:=by rw[List.size_toArray]; lia
   rw[this,List.take_length]
   cases ns with
   | nil=>exact absurd rfl hne
   | cons x xs=>rfl
  refine ⟨.int (qix ns),H,?_,⟨t,by rw[e]⟩,q⟩
  refine I.kept (t':=tk) fun b o eo=>k b o ?_ (Heap.get?_push_of_some _ eo)
  intro z
  have:b=s.heap.objs.size:=by simpa using z
  exact Nat.ne_of_lt (Heap.lt_size eo) this
end
section
variable {M:Md} {X:Cx} {e a:Expr} {pos p2:Pos} {da:Ro→Rs T} {dq:Ro→Rs (Bool×List T)} {lo hi:Option Expr} {dl dh:Ro→Rs (Option Int)}
def qoY (q:Bool×List T):Rs T:=if q.1=true∧q.2.all qiJ=true then .ok (.bl (q.2.any qha)) else .no
theorem qqB (h:PE X e (tCB (fun xs H Q=> ∃(a:Addr) (bs:List Bool),xs=[.ref a]∧SqL X.K H a (bs.map V.bl)∧Q (.bl (bs.any id)) H) (qcp (tQ M dq) qhk))):DE M X e (dCQ qoY dq):=
 qf6 h (fun H B p vs q c Q le bt m hq r ec k=>by
  unfold qoY at ec
  split at ec
  ·rename_i hcc
   cases ec
   unfold qhh at hq
   rw[if_pos hcc.1] at hq
   refine ⟨p,q.2.map qha,rfl,SqL.of (by rw[←qeX hcc.2 r]; exact hq),?_⟩
   rw[List.any_map]
   exact k _ H B (.refl le bt) m qcR
  ·cases ec) (fun q c z=>by unfold qoY at z; split at z<;>cases z)
def qgJ (q:Bool×List T):Rs T:=if (q.1=true∧q.2≠[])∧q.2.all qfV=true then .ok (.int (qix (q.2.map qdt))) else .no
theorem qkM (h:PE X e (tCB (fun xs H Q=> ∃(a:Addr) (ns:List Int),xs=[.ref a]∧SqL X.K H a (ns.map V.int)∧ns≠[]∧Q (.int (qix ns)) H) (qcp (tQ M dq) qhk))):DE M X e (dCQ qgJ dq):=
 qf6 h (fun H B p vs q c Q le bt m hq r ec k=>by
  unfold qgJ at ec
  split at ec
  ·rename_i hcc
   cases ec
   unfold qhh at hq
   rw[if_pos hcc.1.1] at hq
   exact ⟨p,q.2.map qdt,rfl,SqL.of (by rw[←qdU hcc.2 r]; exact hq),fun z=>hcc.1.2 (List.map_eq_nil_iff.mp z),k _ H B (.refl le bt) m qbs⟩
  ·cases ec) (fun q c z=>by unfold qgJ at z; split at z<;>cases z)
def slT (ts:List T) (l h:Option Int):Rs T:=if HT.sIx ts.length 0 l=0∧HT.sIx ts.length ts.length h=ts.length then .no else .ok (.tup (qoW ts l h))
def qoU (da:Ro→Rs T) (dl dh:Ro→Rs (Option Int)):Ro→Rs T:=fun ρ=>da ρ>>=fun t=>dl ρ>>=fun l=>dh ρ>>=fun h=>match t with | .tup ts=>slT ts l h | _=>.no
theorem qni (ha:DE M X a da) (hl:DO M X lo dl) (hh:DO M X hi dh) (hK:X.K=M.K:=by rfl):DE M X (.Subscript a (.Slice lo hi none p2) pos) (qoU da dl dh):=by
 refine PE.weak (qhv qph ha hl hh) fun σ H Q hq146=> ?_
 obtain ⟨H0,B0,ρ,B,ev,w⟩:=hq146
 refine tP.of ev (Wnt.mono (Wnt.bind (qaJ.mp w)) fun t w1 v H1 B1 g1 m1 r1=> ?_)
 have ev1:=ev.grow g1 m1
 refine ⟨H0,B0,ρ,B1,ev1,Wnt.mono (Wnt.bind w1) fun l w2 H2 B2 g2 m2=> ?_⟩
 have ev2:=ev1.grow g2 m2
 refine ⟨H0,B0,ρ,B2,ev2,Wnt.mono (Wnt.bind w2) fun h w3 H3 B3 g3 m3=> ?_⟩
 have ev3:=ev2.grow g3 m3
 cases t with
 | tup ts=>
  obtain ⟨p,vs,rfl,sq,rs⟩:=qaZ r1
  have w3:Wnt M H0 _ (slT ts l h):=w3
  unfold slT at w3
  split at w3
  ·exact w3.elim
  ·rename_i hcc
   have ln:=rs.length
   have sq3:SqT X.K H3 p vs:=by rw[hK]; exact ev3.bh.sqT ((g3.bb).sqT ((g2.bb).sqT sq))
   refine ⟨p,vs,rfl,sq3,by rw[ln]; exact hcc,fun d hd=> ?_⟩
   have g:=qa4.new (o:=HO.tup (qkU vs l h)) ev3.bh ev3.bt hd (by intro ps z; cases z)
   have gg:=(g1.trans g2).trans g3
   refine w3 _ _ _ (gg.trans g) (M.G.st H3 _ (fun a o e _ _ _ _=>by rw[qaj (qap e hd)]; exact e) m3) ?_
   unfold Rep
   exact ⟨d,qkU vs l h,rfl,SqT.of qan,(qhp ((rs.mono g2.bb).mono g3.bb) l h).mono g.bb⟩
 | _=>exact w3.elim
end
end PL
end
section
namespace PL
open PySem L2
section
variable {M:Md} {H0 B0 H B H' B':Hp} {ρ:Ro} {σ:St}
theorem Ev.getOd (v:Ev M H0 B0 ρ σ H B) {i:Nat} {kvs:List (Key×T)} (e:ρ[i]? =some (.od kvs)): ∃p us,σ[i]? =some (some (.ref p))∧H0 p=none∧B p=none∧H p=some (.dK us)∧qbA M.K B kvs us:=by
 obtain ⟨p,vs,e1,r⟩:=v.sl i _ e
 refine ⟨p,vs,?_,r⟩
 cases q:σ[i]? with
 | none=>rw[q] at e1; cases e1
 | some o=>rw[q] at e1; cases o with
  | none=>cases e1
  | some y=>cases e1; rfl
theorem Ev.setOd (v:Ev M H0 B0 ρ σ H B) {i:Nat} {ts:List (Key×T)} {p:Addr} {vs:List (Key×V)} (h0:H0 p=none) (hb:B p=none) (hp:H p=some (.dK vs)) (r:qbA M.K B ts vs)
  (ap: ∀(j:Nat) (s:Sl),j≠i→ρ[j]? =some s→s.own=true→σ[j]?.join≠some (.ref p)):Ev M H0 B0 (ρ.set i (.od ts)) (σ.set i (some (.ref p))) H B:=by
 by_cases hi:i<ρ.length
 case neg=>
  rw[List.set_eq_of_length_le (by lia),List.set_eq_of_length_le (by rw[←v.len]; lia)]
  exact v
 have hi':i<σ.length:=by rw[←v.len]; exact hi
 refine ⟨v.gr,v.gm,by simp[v.len],fun j s e=> ?_,fun j k sj sk p' hjk ej ek oj ok a=> ?_⟩
 ·rw[qcf hi']
  rw[List.getElem?_set] at e
  by_cases q:i=j
  ·subst q
   rw[if_pos rfl,if_pos hi] at e
   cases e
   rw[if_pos rfl]
   exact ⟨p,vs,rfl,h0,hb,hp,r⟩
  ·rw[if_neg q] at e⊢
   exact v.sl j s e
 ·rw[List.getElem?_set] at ej ek
  rw[qcf hi'] at a⊢
  by_cases q:i=j
  ·subst q
   rw[if_neg hjk] at ek
   rw[if_pos rfl] at a
   rw[if_neg hjk]
   cases a
   exact ap k sk (fun z=>hjk z.symm) ek ok
  ·rw[if_neg q] at ej a
   by_cases q2:i=k
   ·subst q2
    rw[if_pos rfl]
    intro z
    cases z
    exact ap j sj hjk ej oj a
   ·rw[if_neg q2] at ek⊢
    exact v.ap j k sj sk p' hjk ej ek oj ok a
theorem Ev.newOd {p:Addr} {vs:List (Key×V)} {ts:List (Key×T)} (i:Nat) (ev:Ev M H0 B0 ρ σ H B) (g:qa4 H B H' B') (m:M.G.P H') (hp:H p=none) (hb:B' p=none) (hl:H' p=some (.dK vs)) (r:qbA M.K B' ts vs):
  Ev M H0 B0 (ρ.set i (.od ts)) (σ.set i (some (.ref p))) H' B':=by
 refine (ev.grow g m).setOd (qbD ev.gr.gx hp) hb hl r fun j s hj e o z=> ?_
 have q:=ev.sl j s e
 cases s with
 | no=>cases o
 | fz t=>cases o
 | ow ts'=>
  obtain ⟨p',vs',a1,a2,a3,a4,a5⟩:=q
  rw[a1] at z; cases z
  rw[a4] at hp; cases hp
 | od ts'=>
  obtain ⟨p',vs',a1,a2,a3,a4,a5⟩:=q
  rw[a1] at z; cases z
  rw[a4] at hp; cases hp
theorem Ev.putOd (v:Ev M H0 B0 ρ σ H B) {i:Nat} {ts us:List (Key×T)} {p:Addr} {ws:List (Key×V)} (e:ρ[i]? =some (.od ts)) (es:σ[i]? =some (some (.ref p))) (r:qbA M.K B us ws):Ev M H0 B0 (ρ.set i (.od us)) σ (upd H p (.dK ws)) B:=by
 obtain ⟨q,vs,e1,h0,hb,hp,_⟩:=v.getOd e
 rw[es] at e1; cases e1
 have hi:i<ρ.length:=(List.getElem?_eq_some_iff.mp e).1
 have neB: ∀a o,B a=some o→a≠p:=fun a o z w=>by rw[w,hb] at z; cases z
 refine ⟨⟨⟨fun a o z n=> ?_,fun a z w=> ?_⟩,v.gr.bb,fun a o z=> ?_,v.gr.bt,v.gr.nw⟩,M.G.st H _ (fun a o z n1 n2 n3 n4=> ?_) v.gm,by simp[v.len],fun j s ej=> ?_,fun j k sj sk p' hjk ej ek oj ok a=> ?_⟩
 ·rw[qaj (qap z h0)]; exact v.gr.gx.hh a o z n
 ·by_cases q:a=p
  ·subst q; exact z h0
  ·rw[qaj q] at w; exact v.gr.gx.dm a z w
 ·rw[qaj (neB a o z)]; exact v.gr.bh a o z
 ·rw[qaj (ql5 z hp (n2 _))]; exact z
 ·rw[List.getElem?_set] at ej
  by_cases q:i=j
  ·subst q
   rw[if_pos rfl,if_pos hi] at ej
   cases ej
   exact ⟨p,ws,by rw[es]; rfl,h0,hb,qan,r⟩
  ·rw[if_neg q] at ej
   have o:=v.sl j s ej
   cases s with
   | no=>trivial
   | fz t=>exact o
   | ow ts'=>
    obtain ⟨p',vs',a1,a2,a3,a4,a5⟩:=o
    have ne:p'≠p:=fun z=>by
     subst z
     exact v.ap i j _ _ p' q e ej rfl rfl (by rw[es]; rfl) a1
    exact ⟨p',vs',a1,a2,a3,by rw[qaj ne]; exact a4,a5⟩
   | od ts'=>
    obtain ⟨p',vs',a1,a2,a3,a4,a5⟩:=o
    have ne:p'≠p:=fun z=>by
     subst z
     exact v.ap i j _ _ p' q e ej rfl rfl (by rw[es]; rfl) a1
    exact ⟨p',vs',a1,a2,a3,by rw[qaj ne]; exact a4,a5⟩
 ·have own_at: ∀(l:Nat) (sl:Sl),(ρ.set i (.od us))[l]? =some sl→sl.own=true→∃sl',ρ[l]? =some sl'∧sl'.own=true:=fun l sl el ol=>by
   rw[List.getElem?_set] at el
   by_cases q:i=l
   ·subst q; exact ⟨_,e,rfl⟩
   ·rw[if_neg q] at el; exact ⟨sl,el,ol⟩
  obtain ⟨sj',ej',oj'⟩:=own_at j sj ej oj
  obtain ⟨sk',ek',ok'⟩:=own_at k sk ek ok
  exact v.ap j k sj' sk' p' hjk ej' ek' oj' ok' a
theorem Ev.freezeD (v:Ev M H0 B0 ρ σ H B) {i:Nat} {ts:List (Key×T)} (e:ρ[i]? =some (.od ts)): ∃B',Le B B'∧Ev M H0 B0 (ρ.set i (.fz (.dct ts))) σ H B':=by
 obtain ⟨p,vs,es,h0,hb,hp,r⟩:=v.getOd e
 have hi:i<ρ.length:=(List.getElem?_eq_some_iff.mp e).1
 have le:Le B (upd B p (.dK vs)):=fun a o z=>by rw[qaj (qap z hb)]; exact z
 refine ⟨upd B p (.dK vs),le,⟨v.gr.gx,v.gr.bb.trans le,fun a o z=> ?_,fun a ps z=> ?_,fun a z=> ?_⟩,v.gm,by simp[v.len],fun j s ej=> ?_,fun j k sj sk p' hjk ej ek oj ok a=> ?_⟩
 ·by_cases q:a=p
  ·subst q; rw[qan] at z; cases z; exact hp
  ·rw[qaj q] at z; exact v.gr.bh a o z
 ·by_cases q:a=p
  ·subst q; rw[qan] at z; cases z
  ·rw[qaj q] at z; exact v.gr.bt a ps z
 ·rw[qaj (fun q=>z (by rw[q]; exact h0))]; exact v.gr.nw a z
 ·rw[List.getElem?_set] at ej
  by_cases q:i=j
  ·subst q
   rw[if_pos rfl,if_pos hi] at ej
   cases ej
   refine ⟨.ref p,by rw[es]; rfl,?_⟩
   unfold Rep
   exact ⟨p,vs,rfl,qan,r.mono le⟩
  ·rw[if_neg q] at ej
   have o:=v.sl j s ej
   cases s with
   | no=>trivial
   | fz t=>obtain ⟨x,a1,a2⟩:=o; exact ⟨x,a1,a2.mono le⟩
   | ow ts'=>
    obtain ⟨p',vs',a1,a2,a3,a4,a5⟩:=o
    have ne:p'≠p:=fun z=>by
     subst z
     exact v.ap i j _ _ p' q e ej rfl rfl (by rw[es]; rfl) a1
    exact ⟨p',vs',a1,a2,by rw[qaj ne]; exact a3,a4,a5.mono le⟩
   | od ts'=>
    obtain ⟨p',vs',a1,a2,a3,a4,a5⟩:=o
    have ne:p'≠p:=fun z=>by
     subst z
     exact v.ap i j _ _ p' q e ej rfl rfl (by rw[es]; rfl) a1
    exact ⟨p',vs',a1,a2,by rw[qaj ne]; exact a3,a4,a5.mono le⟩
 ·rw[List.getElem?_set] at ej ek
  by_cases q:i=j
  ·subst q; rw[if_pos rfl,if_pos hi] at ej; cases ej; cases oj
  ·by_cases q2:i=k
   ·subst q2; rw[if_pos rfl,if_pos hi] at ek; cases ek; cases ok
   ·rw[if_neg q] at ej
    rw[if_neg q2] at ek
    exact v.ap j k sj sk p' hjk ej ek oj ok a
end
def qfS:T→Option Key
 | .int i=>some (.inl i)
 | .str x=>some (.inr x)
 | _=>none
def qbn:Key→T
 | .inl i=>.int i
 | .inr x=>.str x
def qpD (kvs:List (Key×T)) (k:Key) (t:T):List (Key×T):=if (kvs.any fun kv=>decide (kv.1=k))=true then kvs.map (fun kv=>if kv.1=k then (kv.1,t) else kv) else kvs++[(k,t)]
def qlh (kvs:List (Key×T)) (k:Key):Option T:=(kvs.find? fun kv=>decide (kv.1=k)).map (·.2)
section
variable {K:PySem.W.Frag} {B:Hp}
theorem qbA.nil:qbA K B [] []:=by unfold qbA; rfl
theorem qbA.cons {k:Key} {t:T} {v:V} {ts:List (Key×T)} {vs:List (Key×V)} (h:Rep K B t v) (r:qbA K B ts vs):qbA K B ((k,t)::ts) ((k,v)::vs):=by unfold qbA; exact ⟨v,vs,rfl,h,r⟩
theorem qbA.inv {k:Key} {t:T} {ts:List (Key×T)} {vs:List (Key×V)} (h:qbA K B ((k,t)::ts) vs): ∃v r,vs=(k,v)::r∧Rep K B t v∧qbA K B ts r:=by unfold qbA at h; exact h
theorem qbA.inv0 {vs:List (Key×V)} (h:qbA K B [] vs):vs=[]:=by unfold qbA at h; exact h
theorem qbA.length: ∀{ts:List (Key×T)} {vs:List (Key×V)},qbA K B ts vs→vs.length=ts.length
 | [],_,h=>by rw[h.inv0]; rfl
 | (_,_)::_,_,h=>by
  obtain ⟨v,r,rfl,_,h'⟩:=h.inv
  simp[qbA.length h']
theorem qbA.any (k:Key): ∀{ts:List (Key×T)} {vs:List (Key×V)},qbA K B ts vs→(vs.any fun kv=>decide (kv.1=k))=ts.any fun kv=>decide (kv.1=k)
 | [],_,h=>by rw[h.inv0]; rfl
 | (_,_)::_,_,h=>by
  obtain ⟨v,r,rfl,_,h'⟩:=h.inv
  rw[List.any_cons,List.any_cons,qbA.any k h']
theorem qbA.repl (k:Key) {t:T} {v:V} (h:Rep K B t v): ∀{ts:List (Key×T)} {vs:List (Key×V)},qbA K B ts vs→qbA K B (ts.map fun kv=>if kv.1=k then (kv.1,t) else kv) (vs.map fun kv=>if kv.1=k then (kv.1,v) else kv)
 | [],_,r=>by rw[r.inv0]; exact .nil
 | (j,u)::_,_,r=>by
  obtain ⟨x,rr,rfl,a,b⟩:=r.inv
  rw[List.map_cons,List.map_cons]
  by_cases c:j=k
  ·rw[if_pos c,if_pos c]; exact .cons h (qbA.repl k h b)
  ·rw[if_neg c,if_neg c]; exact .cons a (qbA.repl k h b)
theorem qbA.snoc {k:Key} {t:T} {v:V} (h:Rep K B t v): ∀{ts:List (Key×T)} {vs:List (Key×V)},qbA K B ts vs→qbA K B (ts++[(k,t)]) (vs++[(k,v)])
 | [],_,r=>by rw[r.inv0]; exact .cons h .nil
 | (_,_)::_,_,r=>by
  obtain ⟨x,rr,rfl,a,b⟩:=r.inv
  exact .cons a (qbA.snoc h b)
theorem qbA.put {k:Key} {t:T} {v:V} {ts:List (Key×T)} {vs:List (Key×V)} (r:qbA K B ts vs) (h:Rep K B t v):qbA K B (qpD ts k t) (qex vs k v):=by
 unfold qpD qex
 rw[r.any k]
 split
 ·exact r.repl k h
 ·exact r.snoc h
theorem qbA.val (k:Key): ∀{ts:List (Key×T)} {vs:List (Key×V)},qbA K B ts vs→(∀t,qlh ts k=some t→∃v,qdx vs k=some v∧Rep K B t v)∧(qlh ts k=none→qdx vs k=none)
 | [],_,r=>by rw[r.inv0]; exact ⟨(fun t z=>by cases z),(fun _=>rfl)⟩
 | (j,u)::_,_,r=>by
  obtain ⟨x,rr,rfl,a,b⟩:=r.inv
  obtain ⟨h1,h2⟩:=qbA.val k b
  unfold qlh qdx at*
  rw[List.find?_cons,List.find?_cons]
  by_cases c:j=k
  ·simp[c]
   exact a
  ·simp only[c,decide_false]
   exact ⟨h1,h2⟩
end
end PL
end
section
namespace St
open PySem PySem.W PySem.Calls PyProof.Rows
section
variable {prog:Program} {w:World} {A:Around} {E:Value→Shared→Prop} {s:Shared} {v:Value} {Q:Value→Shared→Prop}
theorem sorted_c (hcol:wpAny (model prog w) A.in1 (collect v) (fun vs s1=> ∃(h1:Heap) (t1:Nat) (κ:SortKind) (kz:List Int),s1={ s with heap:=h1,toks:=t1 }∧Kp s.heap h1∧kz.length=vs.length∧vs.length<64∧
   (∀s':Shared,Kp h1 s'.heap→2≤vs.length→∀(Q:SortKind→Shared→Prop) (E:Value→Shared→Prop),Q κ s'→wpAny (model prog w) A.in1.in1 (keyKind' vs.toArray) Q E s')∧
   (∀s':Shared,Kp h1 s'.heap→∀i j,i<vs.length→j<vs.length→∀C:Bool→Shared→Prop,C (decide (kz.getD i 0<kz.getD j 0)) s'→wpAny (model prog w) A.in1.in1 (keyLt' κ (vs.getD i Value.none) (vs.getD j Value.none)) C (fun _ _=>False) s')∧
   ∀D h' tk c (p:Array Nat),h1.objs.size≤D→Kp h1 h'→qcn kz vs.length p→h'.get? D=some (seqObj "list" (List.toArray (p.toList.map fun i=>vs.getD i Value.none)) c)→Q (.ref D) { s with heap:=h',toks:=tk }) E s):
  wpAny (model prog w) A (call (.builtin "sorted") [v]) Q E s:=by
 refine Calls.call_function_entry kind_sorted plain_sorted entry_sorted (args_sorted1 _) ?_
 unfold Builtin.«sorted»
 refine wpAny_bind (m:=checkCount "sorted" 1 1 _) (wpAny_pure ?_)
 refine wpAny_bind (wpAny_mono hcol (fun vs s1 h=> ?_) fun _ _ x=>x)
 obtain ⟨H1,t1,κ,kz,rfl,kp1,hlen,h64,kind,cmp,h⟩:=h
 refine wpAny_bind (wpAny_newList ?_ (by rw[sizeLine_eq]; lia))
 have kp2:Kp H1 (H1.push (seqObj "list" vs.toArray 0)):=fun b o q=>Heap.get?_push_of_some _ q
 have hoD:(H1.push (seqObj "list" vs.toArray 0)).get? H1.objs.size=some (seqObj "list" vs.toArray 0):=Heap.get?_push_size _ rfl
 refine wpAny_bind (wpAny_holding (wpAny_call_entry slot_list_sort ⟨_,hoD,rfl⟩ entry_list_sort ?body (args_list_sort _)))
 case body=>
  refine lsort_p (h0:=H1) (kz:=kz) (κ:=κ) (s:={ s with heap:=H1.push (seqObj "list" vs.toArray 0),toks:=t1 }) hoD hlen h64 kp2 (get_none (Nat.le_refl _)) (fun s' k h2 Q hq=>kind s' k h2 Q _ hq) cmp fun h' tk c p a1 a2 a3=>⟨_,rfl,?_⟩
  exact wpAny_pure ⟨_,rfl,h _ h' tk c p (Nat.le_refl _) a1 a2 a3⟩
end
end St
end
section
namespace L2
open PySem PySem.Spec PyProof.Rows
def ovl (F ex:Hp):Hp:=fun b=>match ex b with | some o=>some o | none=>F b
theorem qdI {F ex:Hp} {b:Addr} {o:HO} (h:ex b=some o):ovl F ex b=some o:=by unfold ovl; rw[h]
theorem qbI {F ex:Hp} {b:Addr} (h:ex b=none):ovl F ex b=F b:=by unfold ovl; rw[h]
theorem Inv.laidF {X:Cx} {pins:List (Addr×Obj)} {σ:St} {H ex:Hp} {s:Shared} {h':Heap} {t':Nat} (I:Inv X pins σ H s) (k: ∀b u,s.heap.get? b=some u→h'.get? b=some u) (hp: ∀b o,ex b=some o→s.heap.objs.size≤b) (new: ∀b o,ex b=some o→qbu X.prog X.w (ovl H ex) h' b o):
  Inv X pins σ (ovl H ex) { s with heap:=h',toks:=t' }:=by
 have old: ∀b,b<s.heap.objs.size→ex b=none:=fun b hb=>by
  cases e:ex b with
  | none=>rfl
  | some o=>exact absurd (hp b o e) (by exact Nat.not_le_of_lt hb)
 have oldH: ∀b o,H b=some o→ovl H ex b=some o:=fun b o e=>by rw[qbI (old b (I.hok b o e).lt)]; exact e
 refine I.step (g':=s.gens) (d':=s.drawn) (ch:=[]) (fun _ z=>nomatch z) (fun b o _ _ _ e n=>k b o e) (fun b o _ _ _ e n=>⟨o.slots,k b o e⟩) (fun b o _ e n=>by rw[qbI (old b (Heap.lt_size e))]; exact n)
  (fun b o _ e=>⟨o,k b o e⟩) (fun b xs e=>oldH b _ e) (fun b o u e=>oldH b _ e) (fun b qs e=>⟨#[],by rw[oldH b _ e]; simp⟩) (fun m hm=>hm.keeps k) (fun b u e=> ?_) I.bare
 cases z:ex b with
 | some o=>
  rw[qdI z] at e; cases e
  exact new b _ z
 | none=>
  rw[qbI z] at e
  exact (I.hok b u e).stay (fun c v _ q=>k c v q) (fun c q=>oldH c _ q) fun c xs q=>oldH c _ q
theorem qsK {P:Program} {w:World} {k:Key} {u:Value} (h:(qaL P w).is k u=true):RelV (kV k) u:=by
 cases k with
 | inl i=>
  cases u with
  | int j t=>
   have:j=i:=by simpa [qaL,keyIs,Value.isInt,Value.isStrOf] using h
   subst this; exact ⟨t,rfl⟩
  | _=>simp[qaL,keyIs,Value.isInt,Value.isStrOf] at h
 | inr x=>
  cases u with
  | str j t=>
   have:j=x:=by simpa [qaL,keyIs,Value.isInt,Value.isStrOf] using h
   subst this; exact ⟨t,rfl⟩
  | _=>simp[qaL,keyIs,Value.isInt,Value.isStrOf] at h
theorem qiG {prog:Program} {w:World} {A:Around} {E:Value→Shared→Prop} {s:Shared} {a:Addr} {o:Obj} {Q:Value→Shared→Prop} (ho:s.heap.get? a=some o) (hx:o.ExactDict) (hs:(a==sysModules)=false)
  (h:Q (.ref s.heap.objs.size) { s with heap:=s.heap.push { cls:=.type "dict_items",data:=.fields #[.ref a] } }):wpAny (model prog w) A (call (.builtin "dict.items") [.ref a]) Q E s:=by
 refine wpAny_call_entry PySem.F.slot_dict_items ⟨o,ho,hx.1⟩ PySem.F.entry_dict_items ?_ (PySem.F.args_dict_items_1 _)
 unfold Builtin.«dict.items» Builtin.Dict.noArgs
 have ty:s.TypeIs (.ref a) "dict" :=⟨o,ho,hx.1⟩
 repeat (any_goals (first | assumption | wp_step))
 rw[hx.1,if_neg (by decide)]
 refine wpAny_pure ?_
 show wpAny _ _ (Builtin.Dict.nameIsSure "items" _ false>>=fun _=>(selfOnly _ _>>=fun x=>Builtin.Dict.addrOf x)) _ _ _
 have e1:Builtin.Dict.nameIsSure "items" { pos:=[Value.ref a] } false=pure ():=rfl
 rw[e1]
 refine wpAny_bind (wpAny_pure ?_)
 refine wpAny_bind (m:=selfOnly _ _) (wpAny_pure ?_)
 refine wpAny_pure (?_)
 have e2:Builtin.Dict.showsAll a=pure ():=by unfold Builtin.Dict.showsAll; rw[if_neg (by rw[hs]; decide)]
 rw[e2]
 refine wpAny_bind (wpAny_pure ?_)
 refine wpAny_bind (wpAny_newObj_type ?_)
 exact wpAny_pure ⟨_,rfl,h⟩
theorem KV.get {us:List (Key×V)} {vs:List (Key×Value)} (r:KV us vs): ∀{j:Nat} {k:Key} {x:Value},vs[j]? =some (k,x)→∃v,us[j]? =some (k,v)∧RelV v x:=by
 induction r with
 | nil=>intro j k x e; simp at e
 | cons h t ih=>
  intro j k x e
  cases j with
  | zero=>
   rename_i p q _ _
   simp at e
   subst e
   obtain ⟨p1,p2⟩:=p
   have h1:p1=k:=h.1
   exact ⟨p2,by rw[←h1]; rfl,h.2⟩
  | succ j=>
   obtain ⟨v,e1,e2⟩:=ih (j:=j) (by simpa using e)
   exact ⟨v,by simpa using e1,e2⟩
theorem qhV {α:Type}: ∀{as:List Addr} {us:List α} {j:Nat} {a:Addr} {u:α},as.Pairwise (fun x y=>x<y)→as[j]? =some a→us[j]? =some u→(as.zip us).find? (fun q=>q.1==a)=some (a,u)
 | [],_,_,_,_,_,e,_=>by simp at e
 | _::_,[],_,_,_,_,_,e=>by simp at e
 | b::as,w::us,0,a,u,_,e1,e2=>by
  simp at e1 e2
  subst e1 e2
  simp
 | b::as,w::us,j+1,a,u,pw,e1,e2=>by
  have pw:=List.pairwise_cons.mp pw
  have e1:as[j]? =some a:=by simpa using e1
  have e2:us[j]? =some u:=by simpa using e2
  have hlt:b<a:=pw.1 a (List.mem_of_getElem? e1)
  rw[List.zip_cons_cons,List.find?_cons]
  have:(b==a)=false:=by simp; exact Nat.ne_of_lt hlt
  simp only[this]
  exact qhV pw.2 e1 e2
end L2
end
section
namespace PL
open PySem L2 SR SetL
def tD (M:Md) (d:Ro→Rs (List (Key×T))):TE:=fun σ H Q=> ∃H0 B0 ρ B,Ev M H0 B0 ρ σ H B∧Wnt M H0 (fun a=> ∀p us H' B',qa4 H B H' B'→M.G.P H'→H' p=some (.dK us)→qbA M.K B' a us→Q (.ref p) H') (d ρ)
abbrev DD (M:Md) (X:Cx) (e:Expr) (d:Ro→Rs (List (Key×T))):Prop:=PE X e (tD M d)
def dDV (i:Nat):Ro→Rs (List (Key×T)):=fun ρ=>match ρ[i]? with | some (.od kvs)=>.ok kvs | some (.fz (.dct kvs))=>.ok kvs | _=>.no
def qox:T→Rs (List (Key×T))
 | .dct kvs=>.ok kvs
 | _=>.no
def dDE (da:Ro→Rs T):Ro→Rs (List (Key×T)):=fun ρ=>da ρ>>=qox
theorem qjx {K:PySem.W.Frag} {B:Hp} {kvs:List (Key×T)} {v:V} (r:Rep K B (.dct kvs) v): ∃p us,v= .ref p∧B p=some (.dK us)∧qbA K B kvs us:=by unfold Rep at r; exact r
theorem qkb {K:PySem.W.Frag} {B:Hp} {t:T} {k:Key} {v:V} (h:qfS t=some k) (r:Rep K B t v):v=kV k:=by
 cases t with
 | int i=>cases h; exact qaq r
 | str x=>cases h; exact qaD r
 | _=>cases h
theorem qlv {K:PySem.W.Frag} {B:Hp} (k:Key):Rep K B (qbn k) (kV k):=by
 cases k with
 | inl i=>exact qbs
 | inr x=>exact qhz
section
variable {M:Md} {X:Cx} {e o k value:Expr} {pos pos' p1 apos cpos:Pos} {da dk:Ro→Rs T} {dd:Ro→Rs (List (Key×T))} {i:Nat} {x:Str} {st:Stmt} {sts:List Stmt} {d:Ro→Rs Out}
theorem qcC (h:PE X e (qli i)):DD M X e (dDV i):=by
 refine PE.weak h fun σ H Q hq28=> ?_
 obtain ⟨H0,B0,ρ,B,ev,w⟩:=hq28
 unfold dDV at w
 split at w
 ·rename_i kvs e1
  obtain ⟨p,us,e2,h0,hb,hp,r⟩:=ev.getOd e1
  exact ⟨.ref p,e2,w p us H B (.refl ev.bh ev.bt) ev.gm hp r⟩
 ·rename_i kvs e1
  obtain ⟨v,e2,r⟩:=ev.get e1
  obtain ⟨p,us,rfl,hp,rd⟩:=qjx r
  exact ⟨.ref p,e2,w p us H B (.refl ev.bh ev.bt) ev.gm (ev.bh _ _ hp) rd⟩
 ·exact w.elim
theorem qqC (h:DE M X e da):DD M X e (dDE da):=by
 refine PE.weak h fun σ H Q hq40=> ?_
 obtain ⟨H0,B0,ρ,B,ev,w⟩:=hq40
 refine tP.of ev (Wnt.mono (Wnt.bind w) fun t w1 v H1 B1 g1 m1 r1=> ?_)
 cases t with
 | dct kvs=>
  obtain ⟨p,us,rfl,hp,rd⟩:=qjx r1
  exact w1 p us H1 B1 g1 m1 (g1.bh _ _ hp) rd
 | _=>exact w1.elim
def qkT (i:Nat):Ro→Rs Out:=fun ρ=>.ok (.nx (ρ.set i (.od [])))
theorem qkC (hN:X.N.Nodup) (hi:X.N[i]? =some x) (hx:Loc X.env.scope x) (hs:swapsWith (.Dict [] [] p1) (some (.Name x pos')) pos.line X.env=pure false:=by rfl) (hf:X.fn x=true∨X.env.scope.names.lookup x=some .local:=by first | exact .inl rfl | exact .inr rfl | assumption):
  DS M X (.Assign [.Name x pos'] (.Dict [] [] p1) pos) (qkT i):=by
 refine PS.weak (qhq hN hi hx qlX hs hf) fun D σ H ⟨H0,B0,ρ,B,ev,w⟩ p hp=> ?_
 obtain ⟨g2,m2⟩:=ev.nown (o:=.dK []) hp
 have bp:B p=none:=by
  cases q:B p with
  | none=>rfl
  | some u=>rw[ev.bh _ _ q] at hp; cases hp
 exact w _ _ B (ev.newOd i g2 m2 hp bp qan .nil) (.refl _)
def qsc (ρ:Ro) (i:Nat):Rs Unit:=match ρ[i]? with | some (.od _)=>.ok () | _=>.no
def qnN (ρ:Ro) (i:Nat) (k:T) (t:T):Rs Out:=match ρ[i]?,qfS k with
 | some (.od kvs),some k=>if kvs.length≤1000 then .ok (.nx (ρ.set i (.od (qpD kvs k t)))) else .no
 | _,_=>.no
def qf7 (i:Nat) (dk da:Ro→Rs T):Ro→Rs Out:=fun ρ=>qsc ρ i>>=fun _=>da ρ>>=fun t=>dk ρ>>=fun k=>qnN ρ i k t
theorem qkE (hu:X.A.units+1<cLine) (ho:PE X o (qli i)) (hk:DE M X k dk) (hv:DE M X value da) (hs:swapsWith value (some (.Subscript o k pos')) pos.line X.env=pure false:=by rfl):
  DS M X (.Assign [.Subscript o k pos'] value pos) (qf7 i dk da):=by
 refine PS.weak (qnP hu ho hk hv hs) fun D σ H hq66=> ?_
 obtain ⟨H0,B0,ρ,B,ev,w⟩:=hq66
 unfold qf7 qsc at w
 split at w
 ·rename_i kvs0 e0
  refine tP.of ev (Wnt.mono (Wnt.bind w) fun t w1 v H1 B1 g1 m1 r1=> ?_)
  have ev1:=ev.grow g1 m1
  obtain ⟨p,us,e2,h0,hb,hp,rd⟩:=ev1.getOd e0
  refine ⟨.ref p,e2,?_⟩
  refine tP.of ev1 (Wnt.mono (Wnt.bind w1) fun kt w2 y H2 B2 g2 m2 r2=> ?_)
  have ev2:=ev1.grow g2 m2
  unfold qnN at w2
  split at w2
  ·rename_i kvs k' e3 e4
   rw[e0] at e3; cases e3
   split at w2
   ·rename_i hl
    obtain ⟨p',us',e2',h0',hb',hp',rd'⟩:=ev2.getOd e0
    rw[e2] at e2'; cases e2'
    refine ⟨p,_,rfl,by rw[qkb e4 r2]; exact qqR.k hp' (by rw[rd'.length]; exact qbh hl),w2 σ _ B2 (ev2.putOd e0 e2 (rd'.put (r1.mono g2.bb))) (g1.bb.trans g2.bb)⟩
   ·exact w2.elim
  ·exact w2.elim
 ·exact w.elim
def frzD (i:Nat) (ρ:Ro):Ro:=match ρ[i]? with | some (.od kvs)=>ρ.set i (.fz (.dct kvs)) | _=>ρ
theorem Ev.frzD {H0 B0 H B:Hp} {ρ:Ro} {σ:St} (i:Nat) (ev:Ev M H0 B0 ρ σ H B): ∃B',Le B B'∧Ev M H0 B0 (frzD i ρ) σ H B':=by
 unfold PL.frzD
 split
 ·rename_i ts e1; exact ev.freezeD e1
 ·exact ⟨B,.refl _,ev⟩
theorem qos (i:Nat) (h:DS M X st d):DS M X st (fun ρ=>d (frzD i ρ)):=by
 refine PS.weak h fun D σ H hq96=> ?_
 obtain ⟨H0,B0,ρ,B,ev,w⟩:=hq96
 obtain ⟨B',le,ev'⟩:=ev.frzD i
 exact ⟨H0,B0,_,B',ev',Wnt.mono w fun o q=>q.mono le⟩
def quA (kvs:List (Key×T)) (k:T):Rs T:=match qfS k with
 | some k=>(match qlh kvs k with | some t=>.ok t | none=>.no)
 | none=>.no
def qj4 (kvs:List (Key×T)) (k:T):Rs T:=match qfS k with
 | some k=>.ok ((qlh kvs k).getD .non)
 | none=>.no
def qb0 (dd:Ro→Rs (List (Key×T))) (dk:Ro→Rs T):Ro→Rs T:=fun ρ=>dd ρ>>=fun kvs=>dk ρ>>=fun k=>qj4 kvs k
theorem qfl (hu:X.A.units+1<cLine) (ho:DD M X o dd) (hk:DE M X k dk) (m:M1 X o "get" apos k cpos):DE M X (.Call (.Attribute o "get" apos) [k] [] cpos) (qb0 dd dk):=by
 refine PE.weak (qlY hu ho hk m) fun σ H Q hq127=> ?_
 obtain ⟨H0,B0,ρ,B,ev,w⟩:=hq127
 refine ⟨H0,B0,ρ,B,ev,Wnt.mono (Wnt.bind (qaJ.mp w)) fun kvs w1 p us H1 B1 g1 m1 hp rd=> ?_⟩
 have ev1:=ev.grow g1 m1
 refine ⟨p,rfl,.inl ⟨us,.inl hp⟩,?_⟩
 refine tP.of ev1 (Wnt.mono (Wnt.bind w1) fun kt w2 y H2 B2 g2 m2 r2=> ?_)
 unfold qj4 at w2
 split at w2
 ·rename_i k' ek
  have hp2:H2 p=some (.dK us):=g2.gx.hh _ _ hp (by intro ps z; cases z)
  refine ⟨qdx us k',by rw[qkb ek r2]; exact qqS.k hp2,?_⟩
  cases et:qlh kvs k' with
  | some t=>
   obtain ⟨v,ev',rv⟩:=(rd.val k').1 t et
   rw[ev']
   rw[et] at w2
   exact w2 v H2 B2 (g1.trans g2) m2 (rv.mono g2.bb)
  | none=>
   rw[(rd.val k').2 et]
   rw[et] at w2
   exact w2 .non H2 B2 (g1.trans g2) m2 qp2
 ·exact w2.elim
end
end PL
end
section
namespace PL
open PySem L2 SR SetL
def qbm (kv:Key×T):T:=.tup [qbn kv.1,kv.2]
def qdp (kvs:List (Key×T)):Rs (List T):=if kvs.length<64∧qbH (kvs.map qbm)=true then .ok (qdh (kvs.map qbm)) else .no
def qed (dd:Ro→Rs (List (Key×T))):Ro→Rs (List T):=fun ρ=>dd ρ>>=qdp
theorem qa4.ovl {H B ex:Hp} (h:Le B H) (t: ∀a ps,B a≠some (.tbl ps)) (hn: ∀b o,ex b=some o→H b=none) (ht: ∀b ps,ex b≠some (.tbl ps)):qa4 H B (L2.ovl H ex) (L2.ovl B ex):=by
 have old: ∀b o,H b=some o→ex b=none:=fun b o e=>by
  cases z:ex b with
  | none=>rfl
  | some u=>rw[hn b u z] at e; cases e
 refine ⟨⟨fun a o e _=>by rw[qbI (old a o e)]; exact e,fun a e z=> ?_⟩,fun a o e=>by rw[qbI (old a o (h _ _ e))]; exact e,fun a o e=> ?_,fun a ps e=> ?_,fun a e=> ?_⟩
 ·cases q:H a with
  | none=>exact e q
  | some o=>rw[qbI (old a o q),q] at z; cases z
 ·cases z:ex a with
  | some u=>rw[qdI z] at e⊢; exact e
  | none=>rw[qbI z] at e⊢; exact h _ _ e
 ·cases z:ex a with
  | some u=>rw[qdI z] at e; exact ht a ps (by rw[z]; exact e)
  | none=>rw[qbI z] at e; exact t a ps e
 ·cases q:H a with
  | none=>exact absurd q e
  | some o=>rw[qbI (old a o q)]
theorem qbA.get {K:PySem.W.Frag} {B:Hp}: ∀{ts:List (Key×T)} {us:List (Key×V)} {j:Nat} {k:Key} {v:V},qbA K B ts us→us[j]? =some (k,v)→∃t,ts[j]? =some (k,t)∧Rep K B t v
 | [],_,j,_,_,r,e=>by rw[r.inv0] at e; simp at e
 | (k0,t0)::ts,_,0,k,v,r,e=>by
  obtain ⟨x,rr,rfl,a,b⟩:=r.inv
  simp at e
  obtain ⟨rfl,rfl⟩:=e
  exact ⟨t0,rfl,a⟩
 | (k0,t0)::ts,_,j+1,k,v,r,e=>by
  obtain ⟨x,rr,rfl,a,b⟩:=r.inv
  obtain ⟨t,e1,e2⟩:=qbA.get (j:=j) b (by simpa using e)
  exact ⟨t,by simpa using e1,e2⟩
section
variable {M:Md} {X:Cx} {o:Expr} {pos p1 apos cpos:Pos} {dd:Ro→Rs (List (Key×T))}
open PySem.W PyProof.Rows in
theorem qf4 (hc:X.calm=true) (gs:Gl X "sorted") (ms:X.mg "sorted" =none) (ho:DD M X o dd) (hbase:attributeBase o "items" X.env (eval o X.env)=eval o X.env:=by rfl) (hline:(apos.endLine==cpos.line)=true:=by rfl) (hK:X.K=M.K:=by rfl):
  DF M X (.Call (.Name "sorted" p1) [.Call (.Attribute o "items" apos) [] [] cpos] [] pos) (qed dd):=by
 intro pins s σ H Q I hq45
 obtain ⟨H0,B0,ρ,B,ev,w⟩:=hq45
 refine wpAny_Call_Name_kw (qcw I gs ms SetL.boot_sorted ?_)
 have hD:tD M dd σ H fun x H1=> ∃a us kvs B1,x= .ref a∧qa4 H B H1 B1∧M.G.P H1∧H1 a=some (.dK us)∧qbA M.K B1 kvs us∧
   Wnt M H0 (fun a=> ∀p vs H' B',qa4 H B H' B'→M.G.P H'→H p=none→B' p=none→H' p=some (.lst vs)→qaE M.K B' a vs→Q (.ref p) H') (qdp kvs):=
  ⟨H0,B0,ρ,B,ev,Wnt.mono (Wnt.bind (qbL.mp w)) fun kvs w1 p us H1 B1 g1 m1 hp rd=>⟨p,us,kvs,B1,rfl,g1,m1,hp,rd,w1⟩⟩
 have inner:wpAny (model X.prog X.w) X.A (eval (.Call (.Attribute o "items" apos) [] [] cpos) X.env) (fun v s2=> ∃VA s1 a us kvs H1 B1,v= .ref VA∧s2.heap.IsItemsView VA a∧Inv X pins σ H1 s2∧qa4 H B H1 B1∧M.G.P H1∧H1 a=some (.dK us)∧qbA M.K B1 kvs us∧s1=s2∧
   Wnt M H0 (fun a=> ∀p vs H' B',qa4 H B H' B'→M.G.P H'→H p=none→B' p=none→H' p=some (.lst vs)→qaE M.K B' a vs→Q (.ref p) H') (qdp kvs)) X.xe s:=by
  refine wpAny_Call_method0_late hbase hline (thn (ho pins s σ H _ I hD) fun v s1 ⟨x,H1,I1,r1,a,us,kvs,B1,ex,g1,m1,hp,rd,w1⟩=> ?_)
  subst ex
  obtain rfl:v=Value.ref a:=r1
  obtain ⟨z,hsys,vs,rel,od,es,ep,d1,d2,d3⟩:=qmv I1.hok hp
  obtain ⟨h1,h2⟩:=qmR (T:= "dict") (v:=.ref a) I1 (show RelV (.ref a) (.ref a) from rfl) (.inr (.inr (.inl ⟨rfl,.inl ⟨us,hp⟩⟩)))
  refine ⟨"dict", "dict.items",PySem.F.plainAttrs_dict,PySem.F.slot_dict_items,PySem.F.type_dict_items,h1,h2,Calls.callWith_builtin rfl (PySem.evalArgs_none (qiG d1 d2 hsys ?_))⟩
  exact ⟨_,_,a,us,kvs,H1,B1,rfl,⟨_,Heap.get?_push_size _ rfl,rfl,rfl⟩,I1.kept (t':=s1.toks) fun b o e=>Heap.get?_push_of_some _ e,g1,m1,hp,rd,rfl,w1⟩
 refine PyProof.Rows.callWith_builtin1 (Calls.spliced_cons (thn inner fun u s2 ⟨VA,s1,a,us,kvs,H1,B1,eu,vw,I2,g1,m1,hp,rd,es1,w1⟩=> ?_)) rfl rfl
 subst eu
 subst es1
 refine Calls.spliced_nil ?_
 have ev1:=ev.grow g1 m1
 unfold qdp at w1
 split at w1
 case isFalse=>exact w1.elim
 rename_i hcc
 obtain ⟨z,hsys,vs,rel,od,es,ep,d1,d2,d3,d4,d5,d6⟩:=qmv I2.hok hp
 have hh:X.A.in1.handled=none:=I2.ok.hd hc
 have lu:us.length=kvs.length:=rd.length
 have lv:us.length=vs.length:=rel.length
 refine St.sorted_c (kdx_collect (knd:=qaL X.prog X.w) (kvs:=vs) (ep:=ep) hh vw ⟨od,es,d1,d2,d3,d4,d5,d6⟩ (by rw[←lv]; exact z) fun h' tk as kp la G=> ?_)
 have pr: ∀{j:Nat} {b:Addr},as[j]? =some b→∃k v t key x,us[j]? =some (k,v)∧kvs[j]? =some (k,t)∧Rep M.K B1 t v∧RelV (kV k) key∧RelV v x∧h'.get? b=some { cls:=Value.type "tuple",data:=Data.seq #[key,x] }:=fun {j b} hb=>by
  obtain ⟨key,k,x,e1,e2,e3⟩:=G.pairs j b hb
  obtain ⟨v,e4,e5⟩:=rel.get e1
  obtain ⟨t,e6,e7⟩:=rd.get e4
  exact ⟨k,v,t,key,x,e4,e6,e7,qsK e2,e5,e3⟩
 have prt: ∀{j:Nat} {b:Addr},as[j]? =some b→∀{k:Key} {t:T},kvs[j]? =some (k,t)→(kvs.map qbm).getD j .non=qbm (k,t):=fun {j b} hb {k t} hk=>by
  rw[List.getD_eq_getElem?_getD,List.getElem?_map,hk]; rfl
 have lj: ∀{j:Nat},j<kvs.length→as[j]? =some (as.getD j 0):=fun {j} hj=>by
  rw[List.getD_eq_getElem?_getD,List.getElem?_eq_getElem (by lia)]; rfl
 let exf:Hp:=fun b=>((as.zip us).find? fun q=>q.1==b).map fun q=>HO.tup [kV q.2.1,q.2.2]
 have exat: ∀{j:Nat} {b:Addr} {k:Key} {v:V},as[j]? =some b→us[j]? =some (k,v)→exf b=some (.tup [kV k,v]):=fun {j b k v} h1 h2=>by
  show ((as.zip us).find? fun q=>q.1==b).map _=_
  rw[qhV G.rise h1 h2]; rfl
 have exof: ∀b o,exf b=some o→∃(j:Nat) (k:Key) (v:V),as[j]? =some b∧us[j]? =some (k,v)∧o= .tup [kV k,v]:=fun b o e=>by
  cases hf:(as.zip us).find? fun q=>q.1==b with
  | none=>
   have e':((as.zip us).find? fun q=>q.1==b).map (fun q=>HO.tup [kV q.2.1,q.2.2])=some o:=e
   rw[hf] at e'; cases e'
  | some q=>
   have e':((as.zip us).find? fun q=>q.1==b).map (fun q=>HO.tup [kV q.2.1,q.2.2])=some o:=e
   rw[hf] at e'
   have e'':HO.tup [kV q.2.1,q.2.2]=o:=Option.some.inj e'
   have qb:q.1=b:=by simpa using List.find?_some hf
   have qm:=List.mem_of_find?_eq_some hf
   obtain ⟨j,hj,eq⟩:=List.mem_iff_getElem.mp qm
   rw[List.getElem_zip] at eq
   have hj1:j<as.length:=by rw[List.length_zip] at hj; lia
   have hj2:j<us.length:=by rw[List.length_zip] at hj; lia
   refine ⟨j,q.2.1,q.2.2,?_,?_,e''.symm⟩
   ·rw[List.getElem?_eq_getElem hj1,←qb,←eq]
   ·rw[List.getElem?_eq_getElem hj2,←eq]
 have exhi: ∀b o,exf b=some o→s1.heap.objs.size≤b:=fun b o e=>by
  obtain ⟨j,k,v,h1,_,_⟩:=exof b o e
  exact Nat.le_of_lt (G.above b (List.mem_of_getElem? h1))
 have I3:Inv X pins σ (L2.ovl H1 exf) { s1 with heap:=h',toks:=tk }:=I2.laidF (t':=tk) kp exhi fun b o e=>by
  obtain ⟨j,k,v,h1,h2,rfl⟩:=exof b o e
  obtain ⟨k',v',t,key,x,f1,f2,f3,f4,f5,f6⟩:=pr h1
  rw[h2] at f1; cases f1
  exact ⟨by show 2≤sizeLine; decide,[key,x],.cons f4 (.cons f5 .nil),⟨_,f6,rfl,_,rfl⟩⟩
 have exn: ∀b o,exf b=some o→H1 b=none:=fun b o e=>I2.hok.fresh (exhi b o e)
 have ext: ∀b ps,exf b≠some (.tbl ps):=fun b ps e=>by
  obtain ⟨j,k,v,_,_,z⟩:=exof b _ e
  cases z
 have g2:qa4 H1 B1 (L2.ovl H1 exf) (L2.ovl B1 exf):=qa4.ovl ev1.bh ev1.bt exn ext
 have m2:M.G.P (L2.ovl H1 exf):=M.G.st H1 _ (fun b o e _ _ _ _=>by
  cases z:exf b with
  | none=>rw[qbI z]; exact e
  | some u=>rw[exn b u z] at e; cases e) m1
 have hR:qaE M.K (L2.ovl B1 exf) (kvs.map qbm) (as.map V.ref):=by
  refine .of_get (by simp; lia) fun j t' v' h1 h2=> ?_
  rw[List.getElem?_map] at h1 h2
  cases q:as[j]? with
  | none=>rw[q] at h2; cases h2
  | some b=>
   rw[q] at h2
   cases h2
   obtain ⟨k,v,t,key,x,f1,f2,f3,f4,f5,f6⟩:=pr q
   rw[f2] at h1
   cases h1
   exact qm9 (SqT.of (qdI (exat q f1))) (.cons (qlv k) (.cons (f3.mono g2.bb) .nil))
 have shp: ∃x0 y0,kvs=[]∨(x0=0∨x0=1)∧∀{k:Key} {t:T},(k,t)∈kvs→qcz t=true∧(qbT (qbm (k,t))).map shK=[x0,y0]:=by
  cases hkv:kvs with
  | nil=>exact ⟨0,0,.inl rfl⟩
  | cons kv0 kr=>
   have hs2:=hcc.2
   rw[hkv] at hs2
   obtain ⟨s0,ok0,sh⟩:=qb3 hs2 (t:=qbm kv0) (by simp)
   have e0:=sh (qbm kv0) (by simp)
   have e0':[2,shT (qbn kv0.1),shT kv0.2]=s0:=e0
   have fl: ∀{k:Key} {t:T},(k,t)∈kv0::kr→[2,shT (qbn k),shT t]=s0:=fun {k t} hm=>sh (qbm (k,t)) (List.mem_map.mpr ⟨(k,t),hm,rfl⟩)
   have kf: ∀k:Key,(shT (qbn k)=0∨shT (qbn k)=1)∧shK (kyT (qbn k))=shT (qbn k):=fun k=>by
    cases k with
    | inl i=>exact ⟨.inl rfl,rfl⟩
    | inr i=>exact ⟨.inr rfl,rfl⟩
   refine ⟨shT (qbn kv0.1),shT kv0.2,.inr ⟨(kf kv0.1).1,fun {k t} hm=> ?_⟩⟩
   have f:=fl hm
   rw[←e0'] at f
   have f1:shT (qbn k)=shT (qbn kv0.1):=by injection f with _ f; injection f
   have f2:shT t=shT kv0.2:=by injection f with _ f; injection f with _ f; injection f
   have okt:qcz kv0.2=true:=by
    rw[←e0'] at ok0
    have:([shT (qbn kv0.1),shT kv0.2].all fun n=>n==0||n==1)=true:=ok0
    simp at this
    unfold qcz
    simpa using this.2
   have okt':qcz t=true:=by unfold qcz at okt⊢; rw[f2]; exact okt
   refine ⟨okt',?_⟩
   have g:shK (kyT t)=shT t:=by
    cases t with
    | int _=>rfl
    | str _=>rfl
    | non=>cases (show false=true from okt')
    | bl _=>cases (show false=true from okt')
    | tup _=>cases (show false=true from okt')
    | lst _=>cases (show false=true from okt')
    | dct _=>cases (show false=true from okt')
    | scr _=>cases (show false=true from okt')
   show [shK (kyT (qbn k)),shK (kyT t)]=_
   rw[(kf k).2,g,f1,f2]
 obtain ⟨x0,y0,hxy⟩:=shp
 have kt: ∀{j:Nat},j<kvs.length→∀{h2:Heap},St.Kp h' h2→(x0=0∨x0=1)∧qeP h2 (qbT ((kvs.map qbm).getD j .non)) (.ref (as.getD j 0))∧(qbT ((kvs.map qbm).getD j .non)).map shK=[x0,y0]:=fun {j} hj {h2} k2=>by
  obtain ⟨k,v,t,key,x,f1,f2,f3,f4,f5,f6⟩:=pr (lj hj)
  rcases hxy with e | ⟨hx,hall⟩
  ·rw[e] at hj; cases hj
  ·obtain ⟨a1,a2⟩:=hall (List.mem_of_getElem? f2)
   rw[prt (lj hj) f2]
   refine ⟨hx,⟨_,[key,x],rfl,⟨_,k2 _ _ f6,rfl,_,rfl⟩,?_⟩,a2⟩
   have e1:kyV (kyT (qbn k))=kV k:=by cases k<;>rfl
   show Vals [kyV (kyT (qbn k)),kyV (kyT t)] [key,x]
   rw[e1,←(qdG a1 f3).1]
   exact .cons f4 (.cons f5 .nil)
 have key1: ∀{m:Nat},m<kvs.length→(((kvs.map qbm).map qbT).map (qbr qbB ((kvs.map qbm).map qbT))).getD m 0=qbr qbB ((kvs.map qbm).map qbT) (qbT ((kvs.map qbm).getD m .non)):=fun {m} hm=>by
  have hm':m<(kvs.map qbm).length:=by rw[List.length_map]; exact hm
  rw[List.getD_eq_getElem?_getD,List.getElem?_map,List.getElem?_map,List.getElem?_eq_getElem hm',List.getD_eq_getElem?_getD,List.getElem?_eq_getElem hm']
  rfl
 have memt: ∀{m:Nat},m<kvs.length→(kvs.map qbm).getD m .non∈kvs.map qbm:=fun {m} hm=>by
  have hm':m<(kvs.map qbm).length:=by rw[List.length_map]; exact hm
  rw[List.getD_eq_getElem?_getD,List.getElem?_eq_getElem hm']; exact List.getElem_mem hm'
 have vat: ∀{j:Nat},j<kvs.length→(as.map Value.ref).getD j Value.none= .ref (as.getD j 0):=fun {j} hj=>by
  rw[List.getD_eq_getElem?_getD,List.getElem?_map,lj hj]; rfl
 refine ⟨h',tk,tuples' true,((kvs.map qbm).map qbT).map (qbr qbB ((kvs.map qbm).map qbT)),rfl,kp,by simp; lia,by simp; lia,fun s' k2 h2 Q' E' hq'=> ?_,fun s' k2 i j hi hj C hC=> ?_,fun D h'' tk'' c p hD k2 ho' hget=> ?_⟩
 ·have hz:0<kvs.length:=by simp at h2; lia
  refine qfR (x:=x0) (r:=[y0]) (as.map Value.ref) (kt hz k2).1 h2 (fun v hv=> ?_) hq'
  obtain ⟨m,hm,rfl⟩:=List.mem_iff_getElem.mp hv
  have hm':m<kvs.length:=by simp at hm; lia
  have e:(as.map Value.ref)[m]= .ref (as.getD m 0):=by
   have:=vat hm'
   rw[List.getD_eq_getElem?_getD,List.getElem?_eq_getElem hm] at this
   exact this
  rw[e]
  exact ⟨_,(kt hm' k2).2.1,(kt hm' k2).2.2⟩
 ·have hi':i<kvs.length:=by simp at hi; lia
  have hj':j<kvs.length:=by simp at hj; lia
  rw[key1 hi',key1 hj',qcc qjN (List.mem_map.mpr ⟨_,memt hi',rfl⟩) (List.mem_map.mpr ⟨_,memt hj',rfl⟩)] at hC
  rw[vat hi',vat hj']
  exact qj0 (kt hi' k2).2.1 (kt hj' k2).2.1 ((kt hi' k2).2.2.trans (kt hj' k2).2.2.symm) hC
 ·have fD:L2.ovl H1 exf D=none:=I3.hok.fresh hD
  have rv:Vals (as.map V.ref) (as.map Value.ref):=by
   have go: ∀l:List Addr,Vals (l.map V.ref) (l.map Value.ref):=fun l=>by
    induction l with
    | nil=>exact .nil
    | cons b l ih=>exact .cons rfl ih
   exact go as
  have I4:Inv X pins σ (L2.upd (L2.ovl H1 exf) D (.lst (p.toList.map fun j=>(as.map V.ref).getD j .non))) { s1 with heap:=h'',toks:=tk'' }:=by
   refine I3.laid k2 hD ⟨?_,_,c,L2.vals_pick rv p.toList,hget⟩
   rw[List.length_map,Array.length_toList,ho'.1.sz,sizeLine_eq]
   simp
   lia
  have nD:H1 D=none:=qbD g2.gx fD
  obtain ⟨g,m',bp⟩:=qcd (M:=M) (ws:=p.toList.map fun j=>(as.map V.ref).getD j .non) g2.bh g2.bt m2 fD
  refine ⟨.ref D,_,I4,rfl,w1 D _ _ _ ((g1.trans g2).trans g) m' (qbD g1.gx nD) bp qan ?_⟩
  have ep':=qc2 ho'
  have e:qdh (kvs.map qbm)=p.toList.map fun j=>(kvs.map qbm).getD j .non:=by
   unfold qdh qcY
   rw[ep',srt_congr (k':=fun j=>qbr qbB ((kvs.map qbm).map qbT) (qbT ((kvs.map qbm).getD j .non))),qbg (k:=fun t=>qbr qbB ((kvs.map qbm).map qbT) (qbT t)) (f:=fun j=>(kvs.map qbm).getD j .non) (fun b=>rfl),show (as.map Value.ref).length=(kvs.map qbm).length by simp; lia,Mir.map_range_getD]
   intro b hb
   have hb':b<kvs.length:=by have:=List.mem_range.mp hb; simp at this; lia
   exact key1 hb'
  rw[e]
  have go: ∀l:List Nat,(∀j∈l,j<kvs.length)→qaE M.K (L2.ovl B1 exf) (l.map fun j=>(kvs.map qbm).getD j .non) (l.map fun j=>(as.map V.ref).getD j .non):=fun l=>by
   induction l with
   | nil=>exact fun _=>.nil
   | cons j l ih=>exact fun hl=>.cons (hR.getD j (by rw[List.length_map]; exact hl j List.mem_cons_self)) (ih fun i hi=>hl i (List.mem_cons_of_mem _ hi))
  exact go _ fun j hj=>by have:=(Mir.order_mem ho' j).mp hj; simp at this; lia
end
end PL
end
section
namespace SetL
open PySem
theorem qfc {α β:Type} {f g:α→Option β}: ∀{l:List α},(∀x∈l,f x=g x)→l.filterMap f=l.filterMap g
 | [],_=>rfl
 | x::l,h=>by
  rw[List.filterMap_cons,List.filterMap_cons,h x List.mem_cons_self,qfc fun y hy=>h y (List.mem_cons_of_mem _ hy)]
def qsd (N:Nat):Nat→Nat→List Nat
 | 0,_=>[]
 | f+1,i=>i::qsd N f ((i*5+1) % N)
def orb (N:Nat):Nat→Nat→Nat
 | 0,i=>i
 | t+1,i=>orb N t ((i*5+1) % N)
theorem qhx (N:Nat) {j:Nat}: ∀(f i:Nat),j∈qsd N f i→∃t,t<f∧orb N t i=j
 | 0,_,h=>by cases h
 | f+1,i,h=>by
  rcases List.mem_cons.mp h with z | z
  ·exact ⟨0,by lia,z.symm⟩
  ·obtain ⟨t,h1,h2⟩:=qhx N f _ z
   exact ⟨t+1,by lia,h2⟩
theorem qs2: ∀N∈[8,16,32,64],((List.range N).all fun i=>(List.range N).all fun j=>(qsd N N i).contains j)=true:=by decide+kernel
def Sz (mask:Nat):Prop:=mask+1∈[8,16,32,64]
theorem qqJ {mask:Nat} (h:Sz mask) {i j:Nat} (hi:i<mask+1) (hj:j<mask+1): ∃t,t<mask+1∧orb (mask+1) t i=j:=by
 have:=qs2 _ h
 have a:=List.all_eq_true.mp this i (List.mem_range.mpr hi)
 have b:=List.all_eq_true.mp a j (List.mem_range.mpr hj)
 exact qhx _ _ _ (by simpa using b)
def its (mask:Nat):Nat→Nat×Nat→Nat×Nat
 | 0,x=>x
 | t+1,x=>its mask t (SetTable.leap mask x.1 x.2)
theorem qkj (mask:Nat) (t:Nat): ∀(s:Nat) (x:Nat×Nat),its mask (s+t) x=its mask t (its mask s x)
 | 0,x=>by rw[Nat.zero_add]; rfl
 | s+1,x=>by
  rw[show s+1+t=(s+t)+1 by lia]
  exact qkj mask t s _
theorem qki (mask:Nat): ∀(t:Nat) (x:Nat×Nat),(its mask t x).2=x.2 / 32 ^ t
 | 0,x=>by simp[its]
 | t+1,x=>by
  show (its mask t (SetTable.leap mask x.1 x.2)).2=_
  rw[qki mask t]
  show x.2 / 32 / 32 ^ t=_
  rw[Nat.div_div_eq_div_mul,Nat.pow_succ,Nat.mul_comm]
theorem qeG (mask:Nat): ∀(t:Nat) (x:Nat×Nat),x.1<mask+1→(its mask t x).1<mask+1
 | 0,x,h=>h
 | t+1,x,h=>qeG mask t _ (Nat.mod_lt _ (Nat.succ_pos _))
theorem qhM (mask:Nat): ∀(t i:Nat),(its mask t (i,0)).1=orb (mask+1) t i
 | 0,i=>rfl
 | t+1,i=>by
  have e:SetTable.leap mask i 0=((i*5+1) % (mask+1),0):=by unfold SetTable.leap; simp
  show (its mask t (SetTable.leap mask i 0)).1=orb (mask+1) t ((i*5+1) % (mask+1))
  rw[e]
  exact qhM mask t _
theorem qr1 {mask:Nat} (h:Sz mask) {i p j:Nat} (hi:i<mask+1) (hp:p<2 ^ 64) (hj:j<mask+1): ∃t,t<SetTable.turns mask∧(its mask t (i,p)).1=j:=by
 have h13:(its mask 13 (i,p)).2=0:=by
  rw[qki]
  exact Nat.div_eq_of_lt (Nat.lt_of_lt_of_le hp (by decide))
 have hl:=qeG mask 13 (i,p) hi
 obtain ⟨t,h1,h2⟩:=qqJ h hl hj
 refine ⟨13+t,by unfold SetTable.turns; lia,?_⟩
 rw[qkj]
 have e:its mask 13 (i,p)=((its mask 13 (i,p)).1,0):=Prod.ext rfl h13
 rw[e,qhM,h2]
section
variable {mask:Nat} {ow:Array (Option Nat)}
def Fr (ow:Array (Option Nat)) (j:Nat):Prop:=(ow.getD j (some 0)).isNone=true
theorem qkw: ∀(t fuel i p:Nat),t<fuel→i<mask+1→Fr ow (its mask t (i,p)).1→∃r,SetTable.layClean.free mask ow fuel i p=some r∧Fr ow r
 | t,0,i,p,h,_,_=>absurd h (Nat.not_lt_zero _)
 | t,fuel+1,i,p,h,hi,hf=>by
  unfold SetTable.layClean.free
  cases q:(List.range (SetTable.runEnd mask i+1 - i)).find? fun k=>(ow.getD (i+k) (some 0)).isNone with
  | some k=>
   have:=List.find?_some q
   exact ⟨i+k,rfl,this⟩
  | none=>
   cases t with
   | zero=>
    have n:=List.find?_eq_none.mp q 0 (List.mem_range.mpr (by unfold SetTable.runEnd; split<;>lia))
    exact absurd hf n
   | succ t=>exact qkw t fuel _ _ (by lia) (Nat.mod_lt _ (Nat.succ_pos _)) hf
end
theorem qsP {ow:Array (Option Nat)} {j:Nat} (h:Fr ow j):j<ow.size∧ow[j]? =some none:=by
 unfold Fr at h
 by_cases c:j<ow.size
 ·refine ⟨c,?_⟩
  have e:ow.getD j (some 0)=ow[j]:=by simp[Array.getD,c]
  rw[e] at h
  have:ow[j]=none:=Option.isNone_iff_eq_none.mp h
  simp[c,this]
 ·have e:ow.getD j (some 0)=some 0:=by simp[Array.getD,c]
  rw[e] at h; cases h
theorem qfd {l:List (Option Nat)}: ∀{j k:Nat},l[j]? =some none→List.Perm ((l.set j (some k)).filterMap id) (k::l.filterMap id):=by
 induction l with
 | nil=>intro j k h; cases h
 | cons x l ih=>
  intro j k h
  cases j with
  | zero=>
   have hx:x=none:=by simpa using h
   subst hx
   exact List.Perm.refl _
  | succ j=>
   have h':l[j]? =some none:=by simpa using h
   rw[List.set_cons_succ]
   cases x with
   | none=>exact ih h'
   | some y=>exact ((ih h').cons y).trans (List.Perm.swap k y _)
theorem qdw: ∀l:List (Option Nat),(∀j:Nat,l[j]? ≠some none)→(l.filterMap id).length=l.length
 | [],_=>rfl
 | x::l,h=>by
  cases x with
  | none=>exact absurd rfl (h 0)
  | some y=>
   have:=qdw l fun j=>by have:=h (j+1); simpa using this
   simpa using this
theorem ql7 {mask:Nat} (hz:Sz mask) {ow:Array (Option Nat)} {k:Nat} (hs:ow.size=mask+1) (hp:List.Perm (ow.toList.filterMap id) (List.range k)) (hk:k<mask+1) (x:Int):
  ∃j,SetTable.layClean.free mask ow (SetTable.turns mask) (SetTable.bits x % (mask+1)) (SetTable.bits x)=some j∧(ow.setIfInBounds j (some k)).size=mask+1∧List.Perm ((ow.setIfInBounds j (some k)).toList.filterMap id) (List.range (k+1)):=by
 have ex: ∃j,j<mask+1∧Fr ow j:=by
  apply Classical.byContradiction
  intro c
  have h1:=qdw ow.toList fun j e=>by
   have hj:j<ow.toList.length:=(List.getElem?_eq_some_iff.mp e).1
   rw[Array.length_toList,hs] at hj
   refine c ⟨j,hj,?_⟩
   unfold Fr
   have e':ow[j]? =some none:=by rw[←Array.getElem?_toList]; exact e
   have hj':j<ow.size:=by lia
   have e2:ow.getD j (some 0)=none:=by
    have:ow[j]? =some ow[j]:=by simp[hj']
    rw[this] at e'
    have:ow[j]=none:=by simpa using e'
    simp[Array.getD,hj',this]
   rw[e2]; rfl
  rw[hp.length_eq,List.length_range,Array.length_toList,hs] at h1
  lia
 obtain ⟨j,hj,hf⟩:=ex
 have hb:SetTable.bits x<2 ^ 64:=by
  unfold SetTable.bits
  have h1:=Int.emod_lt_of_pos x (show (0:Int)<2 ^ 64 by decide)
  have h2:=Int.emod_nonneg x (show (2 ^ 64:Int)≠0 by decide)
  lia
 obtain ⟨t,ht,e⟩:=qr1 hz (i:=SetTable.bits x % (mask+1)) (p:=SetTable.bits x) (Nat.mod_lt _ (Nat.succ_pos _)) hb hj
 obtain ⟨r,e1,e2⟩:=qkw (ow:=ow) t _ _ _ ht (Nat.mod_lt _ (Nat.succ_pos _)) (by rw[e]; exact hf)
 obtain ⟨hr,er⟩:=qsP e2
 refine ⟨r,e1,by rw[Array.size_setIfInBounds]; exact hs,?_⟩
 rw[Array.toList_setIfInBounds]
 refine (qfd (by rw[Array.getElem?_toList]; exact er)).trans ?_
 rw[List.range_succ]
 exact ((hp.cons k).trans (List.perm_append_singleton k (List.range k)).symm)
def qq2 (mask:Nat) (acc:Option (Array (Option Nat)×Nat)) (h:Int):Option (Array (Option Nat)×Nat):=do
 let (owner,k) ←acc
 let j ←SetTable.layClean.free mask owner (SetTable.turns mask) (SetTable.bits h % (mask+1)) (SetTable.bits h)
 pure (owner.setIfInBounds j (some k),k+1)
theorem qhH {mask:Nat} (hz:Sz mask): ∀(hs:List Int) (ow:Array (Option Nat)) (k:Nat),ow.size=mask+1→List.Perm (ow.toList.filterMap id) (List.range k)→k+hs.length≤mask→
  ∃ow',hs.foldl (qq2 mask) (some (ow,k))=some (ow',k+hs.length)∧ow'.size=mask+1∧List.Perm (ow'.toList.filterMap id) (List.range (k+hs.length))
 | [],ow,k,h1,h2,_=>⟨ow,rfl,h1,h2⟩
 | x::hs,ow,k,h1,h2,h3=>by
  rw[List.length_cons] at h3
  obtain ⟨j,e1,e2,e3⟩:=ql7 hz h1 h2 (by lia) x
  have e:qq2 mask (some (ow,k)) x=some (ow.setIfInBounds j (some k),k+1):=by
   unfold qq2
   show (SetTable.layClean.free mask ow (SetTable.turns mask) (SetTable.bits x % (mask+1)) (SetTable.bits x)).bind (fun j=>some (ow.setIfInBounds j (some k),k+1))=_
   rw[e1]; rfl
  rw[List.foldl_cons,e,List.length_cons]
  obtain ⟨ow',a,b,c⟩:=qhH hz hs _ (k+1) e2 e3 (by lia)
  exact ⟨ow',by rw[a]; congr 2; lia,b,by rw[show k+(hs.length+1)=k+1+hs.length by lia]; exact c⟩
theorem qj6 {mask:Nat} (hz:Sz mask) (hs:Array Int) (hn:hs.size≤mask): ∃ow,SetTable.layClean mask hs=some ow∧ow.size=mask+1∧List.Perm (ow.toList.filterMap id) (List.range hs.size):=by
 obtain ⟨ow,a,b,c⟩:=qhH hz hs.toList (Array.replicate (mask+1) none) 0 (by simp) (by simp) (by rw[Array.length_toList]; lia)
 rw[Array.length_toList,Nat.zero_add] at a c
 refine ⟨ow,?_,b,c⟩
 show (hs.foldl (qq2 mask) (some (Array.replicate (mask+1) none,0))).map (·.1)=some ow
 rw[←Array.foldl_toList,a]
 rfl
theorem qj7 {mask:Nat} (hz:Sz mask) (fg mv:Nat) (led plain:Bool) (hs:Array Int) (hn:hs.size≤mask): ∃t order,SetTable.laid mask fg mv led plain hs=some (t,order)∧qdN t∧t.fits hs.size=true∧t.led=led∧t.mask=mask∧List.Perm order.toList (List.range hs.size):=by
 obtain ⟨ow,e1,e2,e3⟩:=qj6 hz hs hn
 have el:(((List.range (mask+1)).filterMap fun j=>(ow.getD j none).map (j, ·)).map (·.2))=ow.toList.filterMap id:=by
  rw[List.map_filterMap]
  have:ow.toList=(List.range (mask+1)).map fun j=>ow.getD j none:=by
   apply List.ext_getElem
   ·simp[e2]
   ·intro i h1 h2
    have:i<ow.size:=by rw[←Array.length_toList]; exact h1
    simp[Array.getD,this]
  rw[this,List.filterMap_map]
  refine qfc fun j _=> ?_
  show Option.map (·.2) ((ow.getD j none).map (j, ·))=ow.getD j none
  cases ow.getD j none<;>rfl
 have ln:((List.range (mask+1)).filterMap fun j=>(ow.getD j none).map (j, ·)).length=hs.size:=by
  have:=congrArg List.length el
  rw[List.length_map,e3.length_eq,List.length_range] at this
  exact this
 refine ⟨{ mask,place:=(((List.range (mask+1)).filterMap fun j=>(ow.getD j none).map (j, ·)).map (·.1)).toArray,dummies:= #[],finger:=fg,led,moves:=mv,plain },(((List.range (mask+1)).filterMap fun j=>(ow.getD j none).map (j, ·)).map (·.2)).toArray,by unfold SetTable.laid; rw[e1]; rfl,⟨(qe7 ow _ List.pairwise_lt_range).1,rfl⟩,?_,rfl,rfl,?_⟩
 ·unfold SetTable.fits SetTable.fill
  simp only[List.size_toArray,List.length_map,ln,beq_self_eq_true,Bool.true_and,decide_eq_true_eq]
  show hs.size+0≤mask
  lia
 ·show List.Perm (((List.range (mask+1)).filterMap fun j=>(ow.getD j none).map (j, ·)).map (·.2)) _
  rw[el]
  exact e3
theorem qet: ∀n,n<64→Sz (SetTable.sizeAbove n - 1)∧n≤SetTable.sizeAbove n - 1:=by
 have: ∀n,n<64→(SetTable.sizeAbove n - 1+1∈[8,16,32,64])∧n≤SetTable.sizeAbove n - 1:=by decide+kernel
 exact this
theorem qeA {α:Type} {es:Array α} {order:Array Nat} (h:List.Perm order.toList (List.range es.size)):List.Perm (order.filterMap (es[·]?)).toList es.toList:=by
 rw[Array.toList_filterMap]
 refine (h.filterMap _).trans ?_
 have:(List.range es.size).filterMap (es[·]?)=es.toList:=by
  have e:es.toList=(List.range es.size).filterMap (es.toList[·]?):=by
   apply List.ext_getElem?
   intro i
   have: ∀(l:List α),(List.range l.length).filterMap (l[·]?)=l:=by
    intro l
    induction l with
    | nil=>rfl
    | cons x l ih=>
     rw[List.length_cons,List.range_succ_eq_map,List.filterMap_cons]
     simp only[List.getElem?_cons_zero]
     rw[List.filterMap_map]
     congr 1
   rw[←Array.length_toList,this]
  rw[e]
  refine qfc fun i _=> ?_
  rw[Array.getElem?_toList]
 rw[this]
end SetL
end
section
namespace SetL
open PySem
section
variable {prog:Program} {w:World} {K:Type} [DecidableEq K] (knd:KeyKind prog w K)
def SX (h:Heap) (a:Addr) (l:List K) (es:Array (Int×Value)) (ep:Nat) (t:SetTable):Prop:=
 ∃o,h.get? a=some o∧o.ExactSet∧o.data= .set es ep t∧ElemsOf knd es.toList∧(∀k,k∈l↔∃e∈es.toList,knd.is k e.2=true)∧es.size<scanBound∧t.fits es.size=true∧es.size=(dd l).length∧qdN t∧t.led= !w.params.followText "set-order"
variable {knd} {A:Around} {E:Value→Shared→Prop} {s:Shared}
theorem qkP {l l':List K} (h: ∀k,k∈l↔k∈l'):(dd l).length=(dd l').length:=
 ((List.perm_ext_iff_of_nodup (qbJ l) (qbJ l')).mpr fun k=>qck.trans ((h k).trans qck.symm)).length_eq
theorem SX.same {h:Heap} {a:Addr} {l l':List K} {es:Array (Int×Value)} {ep:Nat} {t:SetTable} (x:SX knd h a l es ep t) (e: ∀k,k∈l↔k∈l'):SX knd h a l' es ep t:=by
 obtain ⟨o,a1,a2,a3,a4,a5,a6,a7,a8,a9⟩:=x
 exact ⟨o,a1,a2,a3,a4,fun k=>(e k).symm.trans (a5 k),a6,a7,a8.trans (qkP e),a9⟩
theorem SX.keep {h h':Heap} {a:Addr} {l:List K} {es:Array (Int×Value)} {ep:Nat} {t:SetTable} (x:SX knd h a l es ep t) (k: ∀o,h.get? a=some o→h'.get? a=some o):SX knd h' a l es ep t:=by
 obtain ⟨o,a1,r⟩:=x
 exact ⟨o,k _ a1,r⟩
theorem SX.p {h:Heap} {a:Addr} {l:List K} {es:Array (Int×Value)} {ep:Nat} {t:SetTable} (x:SX knd h a l es ep t):qgo knd h a (fun k=>decide (k∈l)) (dd l).length:=by
 obtain ⟨o,a1,a2,a3,a4,a5,a6,a7,a8,a9,a10⟩:=x
 exact ⟨o,es,ep,t,a1,a2,a3,a4,fun k=>by rw[decide_eq_true_eq]; exact a5 k,a6,a7,a8,a9,a10⟩
theorem qgo.x {h:Heap} {a:Addr} {l:List K} {S:K→Bool} {n:Nat} (p:qgo knd h a S n) (hS: ∀k,S k=true↔k∈l) (hn:n=(dd l).length): ∃es ep t,SX knd h a l es ep t:=by
 obtain ⟨o,es,ep,t,a1,a2,a3,a4,a5,a6,a7,a8,a9,a10⟩:=p
 exact ⟨es,ep,t,o,a1,a2,a3,a4,fun k=>(hS k).symm.trans (a5 k),a6,a7,a8.trans hn,a9,a10⟩
theorem qeR {a:Addr} {l l':List K} {es es':Array (Int×Value)} {ep:Nat} {t t':SetTable} {Q:Unit→Shared→Prop} (x:SX knd s.heap a l es ep t) (el:ElemsOf knd es'.toList)
  (me: ∀k,k∈l'↔∃e∈es'.toList,knd.is k e.2=true) (hb:es'.size<scanBound) (hf:t'.fits es'.size=true) (hn:es'.size=(dd l').length) (hp:qdN t') (hl:t'.led= !w.params.followText "set-order")
  (h: ∀h',Heap.SameBut a s.heap h'→SX knd h' a l' es' (ep+1) t'→Q () { s with heap:=h' }):wpAny (model prog w) A (storeSet a es' t') Q E s:=by
 obtain ⟨o,a1,a2,a3,_⟩:=x
 refine qgr (knd:=knd) (S':=fun k=>decide (k∈l')) a1 a2 a3 el (fun k=>by rw[decide_eq_true_eq]; exact me k) hb hf hp hl fun h' sb g _=>h h' sb ⟨_,g,a2,rfl,el,me,hb,hf,hn,hp,hl⟩
theorem SX.state {a:Addr} {l:List K} {es:Array (Int×Value)} {ep:Nat} {t:SetTable} (x:SX knd s.heap a l es ep t) {Q:Array (Int×Value)×Nat×SetTable→Shared→Prop} (h:Q (es,ep,t) s):wpAny (model prog w) A (setState a) Q E s:=by
 obtain ⟨o,a1,a2,a3,a4,a5,a6,a7,_⟩:=x
 exact wpAny_setState_of a1 a3 a7 h
theorem qnJ {a:Addr} {l:List K} {es:Array (Int×Value)} {ep:Nat} {t:SetTable} {wanted:Nat} {Q:Unit→Shared→Prop} (x:SX knd s.heap a l es ep t) (hw:wanted<64) (hn:es.size≤wanted)
  (h: ∀h' es' t',Heap.SameBut a s.heap h'→SX knd h' a l es' (ep+1) t'→t'.mask=SetTable.sizeAbove wanted - 1→es'.size=es.size→Q () { s with heap:=h' }):wpAny (model prog w) A (setRelay a wanted) Q E s:=by
 obtain ⟨z1,z2⟩:=qet wanted hw
 obtain ⟨t',order,e1,e2,e3,e4,e5,e6⟩:=qj7 z1 t.finger (t.movedTo (SetTable.sizeAbove wanted - 1)) t.led t.plain (es.map (·.1)) (by rw[Array.size_map]; lia)
 rw[Array.size_map] at e3 e6
 unfold setRelay
 refine wpAny_bind (x.state ?_)
 dsimp only
 have er:t.relaid (es.map (·.1)) wanted=some (t',order):=e1
 rw[er]
 have sl: ¬SetTable.sizeAbove wanted>sizeLine:=by
  have:SetTable.sizeAbove wanted≤64:=by
   rcases (by simpa [Sz] using z1:_∨_∨_∨_) with z | z | z | z<;>lia
  have:=sizeLine_eq
  lia
 rw[if_neg sl]
 have pm:List.Perm (order.filterMap (es[·]?)).toList es.toList:=qeA e6
 have sz:(order.filterMap (es[·]?)).size=es.size:=by rw[←Array.length_toList,pm.length_eq,Array.length_toList]
 obtain ⟨o,a1,a2,a3,a4,a5,a6,a7,a8,a9,a10⟩:=id x
 refine wpAny_bind ?_
 show wpAny _ _ (do
  if (order.filterMap (es[·]?)).size != es.size then unsupported "internal:set-table-lost-an-element"
  pure (order.filterMap (es[·]?),t')) _ _ _
 rw[if_neg (by simp[sz])]
 refine wpAny_bind (wpAny_pure (wpAny_pure ?_))
 dsimp only
 refine qeR x (l':=l) (fun e he=>a4 e (pm.mem_iff.mp he)) (fun k=>(a5 k).trans ⟨fun ⟨e,he,q⟩=>⟨e,pm.mem_iff.mpr he,q⟩,fun ⟨e,he,q⟩=>⟨e,pm.mem_iff.mp he,q⟩⟩) (by lia) (by rw[sz]; exact e3) (by rw[sz]; exact a8) e2 (e4.trans a10) fun h' sb y=>h h' _ t' sb y e5 sz
theorem SX.psz {h:Heap} {a:Addr} {l:List K} {es:Array (Int×Value)} {ep:Nat} {t:SetTable} (x:SX knd h a l es ep t):t.place.size=es.size∧t.fill=es.size:=by
 obtain ⟨o,a1,a2,a3,a4,a5,a6,a7,a8,a9,a10⟩:=x
 have e:t.place.size=es.size:=by
  simp only[SetTable.fits,Bool.and_eq_true,beq_iff_eq] at a7
  exact a7.1
 refine ⟨e,?_⟩
 unfold SetTable.fill
 rw[a9.2,e]
 rfl
theorem qm4 {a:Addr} {l:List K} {es:Array (Int×Value)} {ep:Nat} {t:SetTable} {more:Nat} {Q:Unit→Shared→Prop} (x:SX knd s.heap a l es ep t) (hw:(es.size+more)*2<64)
  (h: ∀h' es' ep' t',Heap.SameBut a s.heap h'→SX knd h' a l es' ep' t'→es.size+more≤t'.mask→(Sz t.mask→Sz t'.mask)→es'.size=es.size→Q () { s with heap:=h' }):wpAny (model prog w) A (setRoomFor a more) Q E s:=by
 obtain ⟨p1,p2⟩:=x.psz
 unfold setRoomFor
 refine wpAny_bind (x.state ?_)
 dsimp only
 have er:t.roomFor more=if (es.size+more)*5≥t.mask*3 then some ((es.size+more)*2) else none:=by
  unfold SetTable.roomFor
  rw[p1,p2]
 rw[er]
 by_cases c:(es.size+more)*5≥t.mask*3
 ·rw[if_pos c]
  obtain ⟨z1,z2⟩:=qet _ hw
  exact qnJ x hw (by lia) fun h' es' t' sb y e1 e2=>h h' es' _ t' sb y (by rw[e1]; lia) (fun _=>by rw[e1]; exact z1) e2
 ·rw[if_neg c]
  exact wpAny_pure (h s.heap es ep t (Heap.SameBut.refl a s.heap) x (by lia) id rfl)
theorem qg3 {l:List K} {k:K}:(dd (l++[k])).length=if k∈l then (dd l).length else (dd l).length+1:=by
 by_cases c:k∈l
 ·rw[if_pos c]
  refine qkP fun k'=>⟨fun h=> ?_,fun h=>List.mem_append.mpr (.inl h)⟩
  rcases List.mem_append.mp h with h | h
  ·exact h
  ·rw[List.mem_singleton.mp h]; exact c
 ·rw[if_neg c]
  have nd:(k::dd l).Nodup:=List.nodup_cons.mpr ⟨fun h=>c (qck.mp h),qbJ l⟩
  have p:List.Perm (dd (l++[k])) (k::dd l):=(List.perm_ext_iff_of_nodup (qbJ _) nd).mpr fun k'=>by
   rw[qck,List.mem_append,List.mem_singleton,List.mem_cons,qck]
   exact Or.comm
  rw[p.length_eq]
  rfl
theorem qqP {a:Addr} {l:List K} {es:Array (Int×Value)} {ep:Nat} {t:SetTable} {k:K} {v:Value} {Q:Bool→Shared→Prop} (x:SX knd s.heap a l es ep t) (hk:knd.is k v=true) (hsc:v.scannable=true) (room:(dd l).length+1<scanBound)
  (h: ∀h' es' ep' t' b,Heap.SameBut a s.heap h'→SX knd h' a (l++[k]) es' ep' t'→Q b { s with heap:=h' }):wpAny (model prog w) A (setAddHashed a v (knd.hash k)) Q E s:=by
 refine qqQ (knd:=knd) hk hsc x.p room fun h' sb S'=> ?_
 obtain ⟨es',ep',t',y⟩:=S'.x (l:=l++[k]) (fun k'=>by rw[Bool.or_eq_true,decide_eq_true_eq,decide_eq_true_eq,List.mem_append,List.mem_singleton]) (by
  rw[qg3]
  by_cases c:k∈l
  ·rw[if_pos c,if_pos (decide_eq_true c)]
  ·rw[if_neg c,if_neg (by rw[decide_eq_false c]; decide)])
 exact h h' es' ep' t' _ sb y
theorem qsF {v:Value} (h:v.scannable=true) (a:Addr):v≠.ref a:=fun z=>by rw[z] at h; cases h
theorem qnK {sets:List Addr} {Q:Bool→Shared→Prop} (hs: ∀a∈sets,∃l es ep t,SX knd s.heap a l es ep t) (h:Q true s):wpAny (model prog w) A (setsQuiet sets) Q E s:=by
 unfold setsQuiet
 refine wpAny_bind (wpAny_mono (wpAny_forIn_list _ (fun qbY b s'=>b=(none,())∧s'=s∧∀a∈qbY,∃l es ep t,SX knd s.heap a l es ep t) (fun b s'=>b=(none,())∧s'=s) (fun a qbY b s' ⟨e1,e2,hr⟩=> ?qei) (fun b s' ⟨e1,e2,_⟩=>⟨e1,e2⟩) _ _ ⟨rfl,rfl,hs⟩) (fun b s' ⟨e1,e2⟩=> ?fin) fun _ _ z=>z)
 case qei=>
  subst e1 e2
  obtain ⟨l,es,ep,t,x⟩:=hr a List.mem_cons_self
  obtain ⟨o,a1,a2,a3,a4,a5,a6,a7,_⟩:=id x
  refine wpAny_bind (wpAny_setEntries_of a1 a3 a7 ?_)
  refine wpAny_bind (wpAny_mono (wpAny_forIn_array' _ (fun qbY b s''=>b=(none,())∧s''=s'∧∀e∈qbY,e∈es.toList) (fun b s''=>b=(none,())∧s''=s') (fun e qbY b s'' ⟨e1,e2,he⟩=> ?turn2) (fun b s'' ⟨e1,e2,_⟩=>⟨e1,e2⟩) _ _ ⟨rfl,rfl,fun e he=>he⟩) (fun b s'' ⟨e1,e2⟩=> ?fin2) fun _ _ z=>z)
  case turn2=>
   subst e1 e2
   have sc:=(a4 e (he e List.mem_cons_self)).2
   obtain ⟨hh,v⟩:=e
   have hv: ∀a,v≠.ref a:=qsF sc
   cases v with
   | ref a=>exact absurd rfl (hv a)
   | _=>exact wpAny_pure ⟨rfl,rfl,fun e' h'=>he e' (List.mem_cons_of_mem _ h')⟩
  case fin2=>
   subst e1 e2
   exact wpAny_pure ⟨rfl,rfl,fun b hb=>hr b (List.mem_cons_of_mem _ hb)⟩
 case fin=>
  subst e1 e2
  exact wpAny_pure h
theorem qo2 {a:Addr} {l:List K} {es:Array (Int×Value)} {ep:Nat} {t:SetTable} {Q:Array (Int×Value)→Shared→Prop} (x:SX knd s.heap a l es ep t)
  (h: ∀(xs:Array (Int×Value)) (d:Drawn),List.Perm xs.toList es.toList→Q xs { s with drawn:=d }):wpAny (model prog w) A (setWalk a) Q E s:=by
 obtain ⟨o,a1,a2,a3,a4,a5,a6,a7,a8,a9,a10⟩:=id x
 unfold setWalk
 refine wpAny_bind (x.state ?_)
 dsimp only
 refine wpAny_bind (qdg ?_)
 cases bt:w.params.followText "set-order" with
 | true=>
  rw[if_pos rfl]
  refine wpAny_bind (wpAny_askSetting (wpAny_pure ?_))
  exact h _ s.drawn (qcK _ _)
 | false=>
  rw[if_neg (by decide)]
  show wpAny _ _ (if (!t.plain&&decide (es.size>1))=true then _ else _) _ _ _
  by_cases c:(!t.plain&&decide (es.size>1))=true
  ·rw[if_pos c]
   refine wpAny_bind (qg1 es.size es.toList s _ (by simp) fun ys d pm=>wpAny_pure ?_)
   exact h _ d (by simpa using pm)
  ·rw[if_neg c]
   have led:(!t.led&&decide (es.size>1))=false:=by rw[a10,bt]; rfl
   refine wpAny_bind ?_
   show wpAny _ _ (if (!t.led&&decide (es.size>1))=true then _ else _) _ _ _
   rw[if_neg (by rw[led]; decide)]
   exact wpAny_pure (wpAny_pure (h es s.drawn (List.Perm.refl _)))
theorem qls {a b:Addr} {l l2:List K} {es es2:Array (Int×Value)} {ep ep2:Nat} {t t2:SetTable} {Q:Array (Int×Value)→Shared→Prop} (hab:b≠a) (x:SX knd s.heap a l es ep t) (y:SX knd s.heap b l2 es2 ep2 t2)
  (h: ∀(xs:Array (Int×Value)) (h':Heap) (d:Drawn) (ep':Nat) (t':SetTable),List.Perm xs.toList es2.toList→Heap.SameBut a s.heap h'→SX knd h' a l es ep' t'→Q xs { s with heap:=h',drawn:=d }):wpAny (model prog w) A (setWalkUnseen b [a] (some a)) Q E s:=by
 obtain ⟨o,a1,a2,a3,a4,a5,a6,a7,a8,a9,a10⟩:=id x
 obtain ⟨o2,b1,b2,b3,b4,b5,b6,b7,b8,b9,b10⟩:=id y
 have byWalk:wpAny (model prog w) A (setWalk b) Q E s:=qo2 y fun xs d pm=>h xs s.heap d ep t pm (Heap.SameBut.refl a s.heap) x
 unfold setWalkUnseen
 refine wpAny_bind (y.state ?_)
 dsimp only
 refine wpAny_bind (qdg ?_)
 by_cases c:(w.params.followText "set-order" ||t2.led&&t2.plain||decide (es2.size≤1))=true
 ·rw[if_pos c]; exact byWalk
 ·rw[if_neg c]
  refine wpAny_bind (qnK (knd:=knd) (fun z hz=> ?_) ?_)
  ·rcases List.mem_cons.mp hz with e | hz
   ·subst e; exact ⟨_,_,_,_,y⟩
   ·rw[List.mem_singleton.mp hz]; exact ⟨_,_,_,_,x⟩
  ·rw[if_neg (by decide)]
   refine wpAny_bind (wpAny_rule ?_)
   refine wpAny_bind (x.state ?_)
   dsimp only
   by_cases c2:(t.led&& !t2.led||t.plain&& !t2.plain)=true
   ·rw[if_pos c2]
    refine wpAny_bind (qeR x (l':=l) (t':={ t with led:=t.led&&t2.led,plain:=t.plain&&t2.plain }) a4 a5 a6 a7 a8 a9 (by rw[a10,b10,Bool.and_self]) fun h' sb z=>wpAny_pure (h es2 h' s.drawn _ _ (List.Perm.refl _) sb z))
   ·rw[if_neg c2]
    exact wpAny_pure (h es2 s.heap s.drawn ep t (List.Perm.refl _) (Heap.SameBut.refl a s.heap) x)
theorem qjY {a b:Addr} {l l2:List K} {es es2:Array (Int×Value)} {ep ep2:Nat} {t t2:SetTable} {Q:Unit→Shared→Prop} {each:Sem Unit} (hab:a≠b) (x:SX knd s.heap a l es ep t) (y:SX knd s.heap b l2 es2 ep2 t2) (hz:es.size=0→Sz t.mask)
  (hw:(es.size+es2.size)*2<64) (he: ∀(s':Shared) (Q':Unit→Shared→Prop),SX knd s'.heap b l2 es2 ep2 t2→Q' () s'→wpAny (model prog w) A each Q' E s')
  (h: ∀h' d,Heap.SameBut a s.heap h'→(∃es' ep' t',SX knd h' a (l++l2) es' ep' t'∧(es'.size=0→Sz t'.mask))→Q () { s with heap:=h',drawn:=d }):wpAny (model prog w) A (setMerge a b each) Q E s:=by
 obtain ⟨o,a1,a2,a3,a4,a5,a6,a7,a8,a9,a10⟩:=id x
 obtain ⟨o2,b1,b2,b3,b4,b5,b6,b7,b8,b9,b10⟩:=id y
 unfold setMerge
 rw[if_neg (by simpa using hab)]
 refine wpAny_bind (y.state ?_)
 dsimp only
 by_cases c0:es2.isEmpty=true
 ·rw[if_pos c0]
  have z0:es2= #[]:=by simpa using c0
  refine wpAny_pure (h s.heap s.drawn (Heap.SameBut.refl a s.heap) ⟨es,ep,t,x.same fun k=> ?_,hz⟩)
  rw[List.mem_append]
  refine ⟨.inl,fun q=>q.elim id fun q=> ?_⟩
  obtain ⟨e,he,_⟩:=(b5 k).mp q
  rw[z0] at he; cases he
 ·rw[if_neg c0]
  have some2: ∀{h':Heap} {es':Array (Int×Value)} {ep':Nat} {t':SetTable},SX knd h' a (l++l2) es' ep' t'→es'.size=0→Sz t'.mask:=fun {h' es' ep' t'} z q=>by
   obtain ⟨_,_,_,_,_,_,_,_,z8,_⟩:=id z
   have n2:es2.size≠0:=fun q2=>c0 (by simpa using Array.eq_empty_of_size_eq_zero q2)
   have: ∃k,k∈dd l2:=by
    cases e:dd l2 with
    | nil=>rw[e] at b8; exact absurd b8 n2
    | cons k r=>exact ⟨k,List.mem_cons_self⟩
   obtain ⟨k,hk⟩:=this
   have hk2:k∈dd (l++l2):=qck.mpr (List.mem_append.mpr (.inr (qck.mp hk)))
   have z0:(dd (l++l2)).length=0:=z8.symm.trans q
   rw[List.eq_nil_of_length_eq_zero z0] at hk2
   cases hk2
  refine wpAny_bind (qm4 x hw fun h1 es1 ep1 t1 sb1 x1 hm1 hz1 sz1=> ?_)
  have y1:SX knd h1 b l2 es2 ep2 t2:=y.keep fun o e=>by rw[sb1.2 b (Ne.symm hab)]; exact e
  obtain ⟨p1,p2⟩:=x1.psz
  refine wpAny_bind (SX.state (s:={ s with heap:=h1 }) x1 ?_)
  dsimp only
  by_cases cf:es.size=0
  ·have cf1:t1.fill=0:=by lia
   have nl: ∀k,k∉l:=fun k hk=>by
    obtain ⟨e,he,_⟩:=(a5 k).mp hk
    have:es= #[]:=Array.eq_empty_of_size_eq_zero cf
    rw[this] at he; cases he
   have nl2: ∀k,k∈l2↔k∈l++l2:=fun k=>by rw[List.mem_append]; exact ⟨.inr,fun q=>q.elim (fun q=>absurd q (nl k)) id⟩
   have lw:t1.led= !w.params.followText "set-order" :=by obtain ⟨_,_,_,_,_,_,_,_,_,_,z⟩:=id x1; exact z
   have ll:(t1.led&&t2.led)= !w.params.followText "set-order" :=by rw[lw,b10,Bool.and_self]
   have road:t1.road t2=if (t1.mask==t2.mask&&t2.dummies.isEmpty)=true then .slotForSlot else .clean:=by
    unfold SetTable.road
    rw[cf1]
    rfl
   rw[road]
   by_cases cm:(t1.mask==t2.mask&&t2.dummies.isEmpty)=true
   ·rw[if_pos cm]
    dsimp only
    exact qeR (s:={ s with heap:=h1 }) x1 (l':=l2) (t':={ t2 with finger:=t1.finger,led:=t1.led&&t2.led,moves:=t1.moves,plain:=t1.plain&&t2.plain }) b4 b5 b6 b7 b8 b9 ll fun h' sb z=>h h' s.drawn (sb1.trans sb) ⟨_,_,_,z.same nl2,some2 (z.same nl2)⟩
   ·rw[if_neg cm]
    dsimp only
    obtain ⟨t',order,e1,e2,e3,e4,e5,e6⟩:=qj7 (hz1 (hz cf)) t1.finger t1.moves (t1.led&&t2.led) (t1.plain&&t2.plain) (es2.map (·.1)) (by rw[Array.size_map]; lia)
    rw[Array.size_map] at e3 e6
    rw[e1]
    have pm:List.Perm (order.filterMap (es2[·]?)).toList es2.toList:=qeA e6
    have sz:(order.filterMap (es2[·]?)).size=es2.size:=by rw[←Array.length_toList,pm.length_eq,Array.length_toList]
    refine wpAny_bind ?_
    show wpAny _ _ (do
     if (order.filterMap (es2[·]?)).size != es2.size then unsupported "internal:set-table-lost-an-element"
     pure (order.filterMap (es2[·]?),t')) _ _ _
    rw[if_neg (by simp[sz])]
    refine wpAny_bind (wpAny_pure (wpAny_pure ?_))
    dsimp only
    exact qeR (s:={ s with heap:=h1 }) x1 (l':=l2) (fun e he=>b4 e (pm.mem_iff.mp he)) (fun k=>(b5 k).trans ⟨fun ⟨e,he,q⟩=>⟨e,pm.mem_iff.mpr he,q⟩,fun ⟨e,he,q⟩=>⟨e,pm.mem_iff.mp he,q⟩⟩) (by lia) (by rw[sz]; exact e3) (by rw[sz]; exact b8) e2 (e4.trans ll) fun h' sb z=>h h' s.drawn (sb1.trans sb) ⟨_,_,_,z.same nl2,some2 (z.same nl2)⟩
  ·have road:t1.road t2= .oneByOne:=by
    unfold SetTable.road
    rw[if_pos (by rw[p2,sz1]; simpa using cf)]
   rw[road]
   dsimp only
   refine wpAny_bind (qls (s:={ s with heap:=h1 }) (Ne.symm hab) x1 y1 fun xs h2 d ep' t' pm sb2 x2=> ?_)
   have all: ∀e∈xs.toList,∃k,knd.is k e.2=true∧e.1=knd.hash k∧e.2.scannable=true:=fun e he=>by
    obtain ⟨⟨k,q1,q2⟩,q3⟩:=b4 e (pm.mem_iff.mp he)
    exact ⟨k,q1,q2,q3⟩
   have ll:l.length+0≤l.length:=Nat.le_refl _
   refine wpAny_bind (wpAny_mono (wpAny_forIn_array' _ (fun qbY _ s'=> ∃(h':Heap) (dn:List (Int×Value)) (m:List K) (es':Array (Int×Value)) (ep':Nat) (t':SetTable),dn++qbY=xs.toList∧s'={ s with heap:=h',drawn:=d }∧Heap.SameBut a s.heap h'∧SX knd h' a m es' ep' t'∧(∀k,k∈m↔k∈l∨∃e∈dn,knd.is k e.2=true)∧(dd m).length≤es.size+dn.length) (fun _ s'=> ∃(h':Heap) (m:List K) (es':Array (Int×Value)) (ep':Nat) (t':SetTable),s'={ s with heap:=h',drawn:=d }∧Heap.SameBut a s.heap h'∧SX knd h' a m es' ep' t'∧(∀k,k∈m↔k∈l∨∃e∈xs.toList,knd.is k e.2=true)) (fun e qbY u s' ⟨h',dn,m,es',ep',t',e1,e2,e3,e4,e5,e6⟩=> ?qei) (fun u s' ⟨h',dn,m,es',ep',t',e1,e2,e3,e4,e5,e6⟩=> ?ende) xs _ ⟨h2,[],l,_,_,_,rfl,rfl,sb1.trans sb2,x2,fun k=>⟨.inl,fun q=>q.elim id fun ⟨e,he,_⟩=>by cases he⟩,by rw[a8]; exact Nat.le_refl _⟩) (fun u s' ⟨h',m,es',ep',t',e2,e3,e4,e5⟩=> ?fin) fun _ _ z=>z)
   case qei=>
    subst e2
    obtain ⟨k,q1,q2,q3⟩:=all e (by rw[←e1]; simp)
    obtain ⟨hh,v⟩:=e
    have q2:hh=knd.hash k:=q2
    subst q2
    have ldn:dn.length+(qbY.length+1)=es2.size:=by
     have:=congrArg List.length e1
     rw[pm.length_eq,List.length_append,List.length_cons,Array.length_toList] at this
     exact this
    refine wpAny_bind (wpAny_holding (qqP (s:={ s with heap:=h',drawn:=d }) e4 q1 q3 (by have:scanBound=4096:=rfl; lia) fun h3 es3 ep3 t3 bb sb3 x3=> ?_))
    have y3:SX knd h3 b l2 es2 ep2 t2:=y.keep fun o e=>by rw[(e3.trans sb3).2 b (Ne.symm hab)]; exact e
    refine wpAny_bind (he _ _ y3 ?_)
    refine wpAny_bind (SX.state (s:={ s with heap:=h3,drawn:=d }) y3 ?_)
    rw[if_neg (by simp)]
    refine wpAny_pure ⟨h3,dn++[(knd.hash k,v)],m++[k],es3,ep3,t3,by rw[List.append_assoc]; exact e1,rfl,e3.trans sb3,x3,fun k'=> ?_,by
     have:=qg3 (l:=m) (k:=k)
     rw[List.length_append]
     show _≤_+(_+1)
     split at this<;>lia⟩
    rw[List.mem_append,e5 k',List.mem_singleton]
    constructor
    ·rintro ((q | ⟨e,he',q⟩) | q)
     ·exact .inl q
     ·exact .inr ⟨e,List.mem_append.mpr (.inl he'),q⟩
     ·subst q; exact .inr ⟨_,List.mem_append.mpr (.inr (List.mem_singleton.mpr rfl)),q1⟩
    ·rintro (q | ⟨e,he',q⟩)
     ·exact .inl (.inl q)
     ·rcases List.mem_append.mp he' with he' | he'
      ·exact .inl (.inr ⟨e,he',q⟩)
      ·rw[List.mem_singleton.mp he'] at q
       exact .inr (knd.inj v k' k q q1)
   case ende=>
    have:dn=xs.toList:=by simpa using e1
    subst this
    exact ⟨h',m,es',ep',t',e2,e3,e4,e5⟩
   case fin=>
    subst e2
    have sm: ∀k,k∈m↔k∈l++l2:=fun k=>by
     rw[e5 k,List.mem_append,b5 k]
     exact ⟨fun q=>q.imp_right fun ⟨e,he',q⟩=>⟨e,pm.mem_iff.mp he',q⟩,fun q=>q.imp_right fun ⟨e,he',q⟩=>⟨e,pm.mem_iff.mpr he',q⟩⟩
    exact wpAny_pure (h h' d e3 ⟨es',ep',t',e4.same sm,some2 (e4.same sm)⟩)
end
end SetL
end
section
namespace SetL
open PySem
section
variable {prog:Program} {w:World} {K:Type} [DecidableEq K] {knd:KeyKind prog w K} {A:Around} {E:Value→Shared→Prop} {s:Shared}
theorem qgz {β:Type} (n:Nat) (b:β) (f:Nat→β→Sem (ForInStep β)):forIn [:n] b f=forIn (List.range' 0 n 1) b f:=by
 rw[Std.Legacy.Range.forIn_eq_forIn_range']
 have hsz:([:n]:Std.Legacy.Range).size=n:=by simp[Std.Legacy.Range.size]
 show forIn (List.range' 0 ([:n]:Std.Legacy.Range).size 1) b f=_
 rw[hsz]
theorem qmL {d:Addr} {Q:Bool→Shared→Prop} (ty:s.TypeIs (.ref d) "dict") (h:Q false s):wpAny (model prog w) A (Builtin.Frozenset.isAnySet (.ref d)) Q E s:=by
 unfold Builtin.Frozenset.isAnySet
 refine wpAny_bind (wpAny_isInstance ty PySem.F.sub_dict_set ?_)
 exact wpAny_isInstance ty PySem.F.sub_dict_frozenset h
theorem qhe {d:Addr} {Q:Bool→Shared→Prop} (ty:s.TypeIs (.ref d) "set") (h:Q true s):wpAny (model prog w) A (Builtin.Frozenset.isAnySet (.ref d)) Q E s:=by
 unfold Builtin.Frozenset.isAnySet
 refine wpAny_bind (wpAny_isInstance ty PySem.sub_set_self ?_)
 exact wpAny_pure h
theorem qlr {nm:String} {a d:Addr} {l:List K} {es:Array (Int×Value)} {ep:Nat} {t:SetTable} {o:Obj} {ds:Array DictEntry} {dp:Nat} {ks:List K} {Q:Unit→Shared→Prop} (had:a≠d) (x:SX knd s.heap a l es ep t)
  (ho:s.heap.get? d=some o) (hx:o.ExactDict) (hd:o.data= .dict ds dp) (hs:(d==sysModules)=false) (hl:ds.toList.length=ks.length) (hk: ∀(i:Nat) (e:DictEntry) (k:K),ds[i]? =some e→ks[i]? =some k→knd.is k e.key=true∧e.hash=knd.hash k∧e.key.scannable=true) (hw:(es.size+ds.size)*2<64)
  (h: ∀h',Heap.SameBut a s.heap h'→(∃es' ep' t',SX knd h' a (l++ks) es' ep' t')→Q () { s with heap:=h' }):wpAny (model prog w) A (Builtin.Frozenset.updateFrom nm a (.ref d)) Q E s:=by
 have ty:s.TypeIs (.ref d) "dict" :=⟨o,ho,hx.1⟩
 unfold Builtin.Frozenset.updateFrom
 refine wpAny_bind (qmL ty ?_)
 rw[if_neg (by decide)]
 refine wpAny_bind (wpAny_typeOf ty ?_)
 rw[if_pos (by decide)]
 refine wpAny_bind (wpAny_rule ?_)
 refine wpAny_bind (m:=Builtin.Frozenset.addrOf _) (wpAny_pure ?_)
 dsimp only
 rw[if_neg (by rw[hs]; decide)]
 refine wpAny_bind (wpAny_dictEpoch ho hd ?_)
 refine wpAny_bind (wpAny_dictEntries ho hd ?_)
 refine wpAny_bind (qm4 x hw fun h1 es1 ep1 t1 sb1 x1 hm1 hz1 sz1=> ?_)
 have ho1:h1.get? d=some o:=by rw[sb1.2 d (Ne.symm had)]; exact ho
 refine wpAny_bind (wpAny_dictEntries (s:={ s with heap:=h1 }) ho1 hd ?_)
 rw[qgz]
 refine wpAny_bind (wpAny_mono (wpAny_forIn_list _ (fun qbY _ s'=> ∃(h':Heap) (i:Nat) (es':Array (Int×Value)) (ep':Nat) (t':SetTable),qbY=List.range' i (ds.size - i)∧i≤ds.size∧s'={ s with heap:=h' }∧Heap.SameBut a s.heap h'∧SX knd h' a (l++ks.take i) es' ep' t'∧(dd (l++ks.take i)).length≤es.size+i) (fun _ s'=> ∃(h':Heap) (es':Array (Int×Value)) (ep':Nat) (t':SetTable),s'={ s with heap:=h' }∧Heap.SameBut a s.heap h'∧SX knd h' a (l++ks) es' ep' t') (fun j qbY u s' ⟨h',i,es',ep',t',e1,e2,e3,e4,e5,e6⟩=> ?qei) (fun u s' ⟨h',i,es',ep',t',e1,e2,e3,e4,e5,e6⟩=> ?nil) (List.range' 0 ds.size 1) PUnit.unit ⟨h1,0,es1,ep1,t1,by simp,Nat.zero_le _,rfl,sb1,by simpa using x1,?init⟩) (fun u s' ⟨h',es',ep',t',e3,e4,e5⟩=> ?fin) fun _ _ z=>z)
 case init=>
  obtain ⟨_,_,_,_,_,_,_,_,a8,_⟩:=id x
  simp
  lia
 case fin=>
  subst e3
  exact wpAny_pure (h h' e4 ⟨es',ep',t',e5⟩)
 case nil=>
  have hi:i=ds.size:=by
   have:=congrArg List.length e1
   simp at this
   lia
  subst e3
  refine ⟨h',es',ep',t',rfl,e4,?_⟩
  have:ks.take i=ks:=List.take_of_length_le (by rw[←hl,Array.length_toList]; lia)
  rw[this] at e5
  exact e5
 case qei=>
  subst e3
  have hi:i<ds.size:=by
   have:=congrArg List.length e1
   simp at this
   lia
  have er:List.range' i (ds.size - i)=i::List.range' (i+1) (ds.size - (i+1)):=by
   rw[show ds.size - i=(ds.size - (i+1))+1 by lia,List.range'_succ]
  rw[er] at e1
  obtain ⟨ej,er2⟩:=List.cons.inj e1
  have ej:=ej.symm
  subst ej er2
  have hd':h'.get? d=some o:=by rw[e4.2 d (Ne.symm had)]; exact ho
  refine wpAny_bind (wpAny_dictEntries (s:={ s with heap:=h' }) hd' hd ?_)
  have g:ds[i]? =some ds[i]:=by simp[hi]
  rw[g]
  dsimp only
  have hi2:i<ks.length:=by rw[←hl,Array.length_toList]; exact hi
  obtain ⟨q1,q2,q3⟩:=hk i ds[i] ks[i] g (List.getElem?_eq_getElem hi2)
  rw[q2]
  have sb:scanBound=4096:=rfl
  refine wpAny_bind (wpAny_holding (qqP (s:={ s with heap:=h' }) e5 q1 q3 (by lia) fun h3 es3 ep3 t3 bb sb3 x3=> ?_))
  have hd3:h3.get? d=some o:=by rw[sb3.2 d (Ne.symm had)]; exact hd'
  refine wpAny_bind (wpAny_dictEpoch (s:={ s with heap:=h3 }) hd3 hd ?_)
  rw[if_neg (by simp)]
  have tk:ks.take (i+1)=ks.take i++[ks[i]]:=by rw[List.take_succ,List.getElem?_eq_getElem hi2]; rfl
  refine wpAny_pure ⟨h3,i+1,es3,ep3,t3,rfl,by lia,rfl,e4.trans sb3,by rw[tk,←List.append_assoc]; exact x3,?_⟩
  have:=qg3 (l:=l++ks.take i) (k:=ks[i])
  rw[tk,←List.append_assoc]
  split at this<;>lia
end
end SetL
end
section
namespace SetL
open PySem
section
variable {prog:Program} {w:World} {K:Type} [DecidableEq K] {knd:KeyKind prog w K} {A:Around} {E:Value→Shared→Prop} {s:Shared}
theorem qkv (h:Heap) {a:Addr} {o:Obj} (ho:h.get? a=some o) (hx:o.ExactSet) (hd:o.data= .set #[] 0 (.fresh 0 0 (!w.params.followText "set-order"))):SX knd h a ([]:List K) #[] 0 (.fresh 0 0 (!w.params.followText "set-order")):=
 ⟨o,ho,hx,hd,fun e he=>by simp at he,fun k=>by simp,by decide,rfl,rfl,qeC _ _ _,rfl⟩
theorem sz7:Sz 7:=by unfold Sz; decide
set_option maxHeartbeats 8000000 in
theorem qqM {d:Addr} {o:Obj} {ds:Array DictEntry} {dp:Nat} {ks:List K} {Q:Value→Shared→Prop} (ho:s.heap.get? d=some o) (hx:o.ExactDict) (hd:o.data= .dict ds dp) (hs:(d==sysModules)=false) (hl:ds.toList.length=ks.length)
  (hk: ∀(i:Nat) (e:DictEntry) (k:K),ds[i]? =some e→ks[i]? =some k→knd.is k e.key=true∧e.hash=knd.hash k∧e.key.scannable=true) (hw:ds.size*2<64)
  (h: ∀(h':Heap),(∃es ep t,SX knd h' s.heap.objs.size ks es ep t)→(∀b o,s.heap.get? b=some o→h'.get? b=some o)→Q (.ref s.heap.objs.size) { s with heap:=h' }):
  wpAny (model prog w) A (call (.type "set") [.ref d]) Q E s:=by
 obtain ⟨c,tl,mro⟩:=PySem.F.called_set.mro
 have md:=PySem.F.called_set.made
 have sb:=PySem.F.called_set.sub
 refine wpAny_call (codeAny_of_tree ?_)
 show wpAny _ _ (callAny (.type "set") _) _ _ _
 refine wpAny_pure ⟨Code.quiet_builtin _ (by decide+kernel),codeAny_builtin PySem.F.entry_type_call ?_⟩
 rw[Around.under_plain (weight_type_call_type "set" [.ref d] []) rfl]
 have q1:=PySem.F.called_set.notType
 have q2:=PySem.F.called_set.canCreate
 have q3:=PySem.F.typeCall_set_1 (.ref d)
 repeat (any_goals (first | assumption | wp_step))
 refine codeAny_mono (qjW (.ref d) (E:=E) (Q₁:=fun v s1=>v= .ref s.heap.objs.size∧s1={ s with heap:=s.heap.push { cls:=.type "set",dict:=none,data:=.set #[] 0 (.fresh 0 0 (!w.params.followText "set-order")) } }) ⟨rfl,rfl⟩) fun r s1 hr=> ?_
 cases r with
 | error e=>exact hr
 | ok fl=>cases fl with
  | ret obj=>
   obtain ⟨rfl,rfl⟩:=hr
   have gS:(s.heap.push { cls:=.type "set",dict:=none,data:=.set #[] 0 (.fresh 0 0 (!w.params.followText "set-order")) }).get? s.heap.objs.size=some { cls:=.type "set",dict:=none,data:=.set #[] 0 (.fresh 0 0 (!w.params.followText "set-order")) }:=Heap.get?_push_size _ rfl
   have tS:Shared.TypeIs { s with heap:=s.heap.push { cls:=.type "set",dict:=none,data:=.set #[] 0 (.fresh 0 0 (!w.params.followText "set-order")) } } (.ref s.heap.objs.size) "set" :=⟨_,gS,rfl⟩
   have li:=PySem.F.called_set.init.lookup
   have bi:=PySem.F.called_set.init.bind (.ref s.heap.objs.size)
   repeat (any_goals (first | assumption | wp_step))
   refine codeAny_mono (codeAny_call_builtin (R:=PySem.wants (fun r s2=>r= .none∧∃h',s2={ s with heap:=h' }∧(∃es ep t,SX knd h' s.heap.objs.size ks es ep t)∧∀b o,s.heap.get? b=some o→h'.get? b=some o) E) PySem.F.called_set.init.plain PySem.F.entry_set_init (PySem.check_set_init_1 tS ?_)) fun r2 s2 hr2=> ?_
   ·have gd:(s.heap.push { cls:=.type "set",dict:=none,data:=.set #[] 0 (.fresh 0 0 (!w.params.followText "set-order")) }).get? d=some o:=Heap.get?_push_of_some _ ho
    have ld:d<s.heap.objs.size:=Heap.lt_size ho
    have x0:SX knd (s.heap.push { cls:=.type "set",dict:=none,data:=.set #[] 0 (.fresh 0 0 (!w.params.followText "set-order")) }) s.heap.objs.size ([]:List K) #[] 0 (.fresh 0 0 (!w.params.followText "set-order")):=qkv _ gS ⟨rfl,rfl,rfl⟩ rfl
    unfold Builtin.«set.__init__» noKeywords
    generalize puf:Builtin.Frozenset.updateFrom=UF
    wp_walk
    subst puf
    refine qlr (s:={ s with heap:=s.heap.push { cls:=.type "set",dict:=none,data:=.set #[] 0 (.fresh 0 0 (!w.params.followText "set-order")) } }) (Nat.ne_of_gt ld) x0 gd hx hd hs hl hk (by simpa using hw) fun h' sb' hq48=> ?_
    obtain ⟨es,ep,t,y⟩:=hq48
    refine wpAny_pure ⟨rfl,h',rfl,⟨es,ep,t,by simpa using y⟩,fun b o e=> ?_⟩
    rw[sb'.2 b (Nat.ne_of_lt (Heap.lt_size e))]
    exact Heap.get?_push_of_some _ e
   ·cases r2 with
    | error e=>exact hr2
    | ok f2=>cases f2 with
     | ret r=>
      obtain ⟨rfl,h',rfl,S',kp⟩:=hr2
      repeat (any_goals (first | assumption | wp_step))
      exact h _ S' kp
     | _=>exact hr2.elim
  | _=>exact hr.elim
theorem qgZ:entryFor table "set.__or__" =some Builtin.«frozenset.__or__» :=
 entryFor_alias (id':= "frozenset.__or__") (by kernel_rfl) rfl (by decide+kernel) (by kernel_rfl)
theorem ql3 {Q:Value→Shared→Prop} (h:Q (.ref s.heap.objs.size) { s with heap:=s.heap.push { cls:=.type "set",dict:=none,data:=.set #[] 0 (.fresh 0 0 (!w.params.followText "set-order")) } }):wpAny (model prog w) A (newSet (.type "set")) Q E s:=by
 unfold newSet
 refine wpAny_bind (qdg ?_)
 dsimp only
 exact wpAny_newObj_type h (by size_fits)
theorem qur {a b:Addr} {l l2:List K} {es es2:Array (Int×Value)} {ep ep2:Nat} {t t2:SetTable} {Q:Value→Shared→Prop} (hab:a≠b) (x:SX knd s.heap a l es ep t) (y:SX knd s.heap b l2 es2 ep2 t2) (hw:(es.size+es2.size)*2<64)
  (h: ∀h' d,(∃es ep t,SX knd h' s.heap.objs.size (l++l2) es ep t)→(∀c o,s.heap.get? c=some o→h'.get? c=some o)→Q (.ref s.heap.objs.size) { s with heap:=h',drawn:=d }):wpAny (model prog w) A (binaryOp .BitOr (.ref a) (.ref b)) Q E s:=by
 obtain ⟨o,a1,a2,_⟩:=id x
 obtain ⟨o2,b1,b2,_⟩:=id y
 have ta:s.TypeIs (.ref a) "set" :=⟨o,a1,a2.1⟩
 have tb:s.TypeIs (.ref b) "set" :=⟨o2,b1,b2.1⟩
 refine wpAny_binaryOp_same (op:=.BitOr) ta tb PySem.F.fills_set_or PySem.F.slot_set_or (wpAny_call_entry PySem.F.slot_set_or ta qgZ ?_ (PySem.F.args_set_or_2 _ _))
 unfold Builtin.«frozenset.__or__»
 show wpAny _ _ (do
  let (self,other) ←Builtin.Frozenset.slot1 "__or__" ⟨[.ref a,.ref b],[]⟩
  if !(←Builtin.Frozenset.isAnySet self <&&> Builtin.Frozenset.isAnySet other) then rule _; return ←ret .notImplemented
  ret (←(do
   let result ←Builtin.Frozenset.copyOf (←Builtin.Frozenset.addrOf self)
   if other != .ref (←Builtin.Frozenset.addrOf self) then holding [result] (Builtin.Frozenset.updateFrom "frozenset.__or__" (←Builtin.Frozenset.addrOf result) other)
   return result))) _ _ _
 refine wpAny_bind (m:=Builtin.Frozenset.slot1 _ _) (wpAny_pure ?_)
 dsimp only
 refine wpAny_bind (wpAny_bind (qhe ta (qhe tb ?_)))
 rw[if_neg (by decide)]
 refine wpAny_bind (wpAny_bind (m:=Builtin.Frozenset.addrOf _) (wpAny_pure (wpAny_bind ?_)))
 unfold Builtin.Frozenset.copyOf Builtin.Frozenset.baseOf
 refine wpAny_bind (wpAny_bind (wpAny_isInstance ta PySem.sub_set_self (wpAny_pure ?_)))
 show wpAny _ _ (newSet (.type "set")>>=_) _ _ _
 refine wpAny_bind (ql3 ?_)
 refine wpAny_bind (m:=Builtin.Frozenset.addrOf _) (wpAny_pure ?_)
 have gS:(s.heap.push { cls:=.type "set",dict:=none,data:=.set #[] 0 (.fresh 0 0 (!w.params.followText "set-order")) }).get? s.heap.objs.size=some { cls:=.type "set",dict:=none,data:=.set #[] 0 (.fresh 0 0 (!w.params.followText "set-order")) }:=Heap.get?_push_size _ rfl
 have x0:SX knd (s.heap.push { cls:=.type "set",dict:=none,data:=.set #[] 0 (.fresh 0 0 (!w.params.followText "set-order")) }) s.heap.objs.size ([]:List K) #[] 0 (.fresh 0 0 (!w.params.followText "set-order")):=qkv _ gS ⟨rfl,rfl,rfl⟩ rfl
 have la:a<s.heap.objs.size:=Heap.lt_size a1
 have lb:b<s.heap.objs.size:=Heap.lt_size b1
 have xa:=x.keep (h':=s.heap.push { cls:=.type "set",dict:=none,data:=.set #[] 0 (.fresh 0 0 (!w.params.followText "set-order")) }) fun o e=>Heap.get?_push_of_some _ e
 have yb:=y.keep (h':=s.heap.push { cls:=.type "set",dict:=none,data:=.set #[] 0 (.fresh 0 0 (!w.params.followText "set-order")) }) fun o e=>Heap.get?_push_of_some _ e
 refine wpAny_bind (qjY (s:={ s with heap:=s.heap.push { cls:=.type "set",dict:=none,data:=.set #[] 0 (.fresh 0 0 (!w.params.followText "set-order")) } }) (Nat.ne_of_gt la) x0 xa (fun _=>sz7) (by simp; lia) (fun s' Q' _ q=>wpAny_pure q) fun h1 d1 sb1 ⟨es1,ep1,t1,x1,hz1⟩=> ?_)
 refine wpAny_pure ?_
 refine wpAny_bind (m:=Builtin.Frozenset.addrOf _) (wpAny_pure ?_)
 dsimp only
 rw[if_pos (by simpa using Ne.symm hab)]
 refine wpAny_bind (m:=Builtin.Frozenset.addrOf _) (wpAny_pure ?_)
 refine wpAny_bind (wpAny_holding ?_)
 have y1:SX knd h1 b l2 es2 ep2 t2:=yb.keep fun o e=>by rw[sb1.2 b (Nat.ne_of_lt lb)]; exact e
 obtain ⟨ob,c1,c2,c3,_,_,_,c7,_⟩:=id y1
 have tb1:({ s with heap:=h1,drawn:=d1 }:Shared).TypeIs (.ref b) "set" :=⟨ob,c1,c2.1⟩
 unfold Builtin.Frozenset.updateFrom
 refine wpAny_bind (qhe tb1 ?_)
 rw[if_pos rfl]
 refine wpAny_bind (m:=Builtin.Frozenset.addrOf _) (wpAny_pure ?_)
 unfold Builtin.Frozenset.merge
 refine wpAny_bind (wpAny_setEpoch_of (s:={ s with heap:=h1,drawn:=d1 }) c1 c3 c7 ?_)
 have sz1:es1.size=es.size:=by
  obtain ⟨_,_,_,_,_,_,_,_,z1,_⟩:=id x1
  obtain ⟨_,_,_,_,_,_,_,_,z2,_⟩:=id x
  rw[z1,z2]; rfl
 refine qjY (s:={ s with heap:=h1,drawn:=d1 }) (Nat.ne_of_gt lb) x1 y1 (fun z=> ?_) (by lia) (fun s' Q' z q=> ?_) fun h2 d2 sb2 ⟨es3,ep3,t3,x3,_⟩=> ?_
 ·exact hz1 z
 ·unfold Builtin.Frozenset.unchanged
  obtain ⟨oz,z1,z2,z3,_,_,_,z7,_⟩:=id z
  refine wpAny_bind (wpAny_setEpoch_of z1 z3 z7 ?_)
  rw[if_neg (by simp)]
  exact wpAny_pure q
 ·refine wpAny_pure (wpAny_pure ⟨_,rfl,(fun z=>by cases z),h h2 d2 ⟨es3,ep3,t3,by simpa using x3⟩ fun c o e=> ?_⟩)
  have lc:=Heap.lt_size e
  rw[sb2.2 c (Nat.ne_of_lt lc),sb1.2 c (Nat.ne_of_lt lc)]
  exact Heap.get?_push_of_some _ e
end
end SetL
end
section
namespace PL
open PySem L2 SR SetL
def qco:Key→Str
 | .inr x=>x
 | .inl _=> ""
def qc7:Key→Bool
 | .inr _=>true
 | .inl _=>false
def okD (a:List (Key×T)):Bool:=decide (a.length≤15)&&a.all fun p=>qc7 p.1
def qeF (a b:List (Key×T)):List T:=(qel (a.map (fun p=>qco p.1)++b.map (fun p=>qco p.1))).map T.str
def qh5 (da db:Ro→Rs (List (Key×T))):Ro→Rs (List T):=fun ρ=>da ρ>>=fun a=>if okD a=true then (db ρ>>=fun b=>if okD b=true then .ok (qeF a b) else .no) else .no
theorem qbA.fst {K:PySem.W.Frag} {B:Hp}: ∀{ts:List (Key×T)} {us:List (Key×V)},qbA K B ts us→us.map (·.1)=ts.map (·.1)
 | [],_,r=>by rw[r.inv0]; rfl
 | (k,t)::ts,_,r=>by
  obtain ⟨v,r',rfl,_,rr⟩:=r.inv
  rw[List.map_cons,List.map_cons,qbA.fst rr]
theorem qfJ {prog:Program} {w:World} {kn:PySem.KeyKind prog w Key}: ∀{es:List DictEntry} {kvs:List (Key×Value)} {i:Nat} {e:DictEntry},PySem.Pairs kn es kvs→es[i]? =some e→∃kv,kvs[i]? =some kv∧kn.is kv.1 e.key=true
 | _,_,_,_,.nil,h=>by simp at h
 | _,_,0,_,.cons a b c,h=>by
  simp at h
  subst h
  exact ⟨_,rfl,a⟩
 | _,_,i+1,_,.cons a b c,h=>by
  obtain ⟨kv,e1,e2⟩:=qfJ (i:=i) c (by simpa using h)
  exact ⟨kv,by simpa using e1,e2⟩
section
variable {X:Cx} {a:Expr} {t:TE} {p2 p3:Pos}
theorem qfz {pins:List (Addr×Obj)} {σ:St} {H:Hp} {s:Shared} {Q:List (Key×V)→Hp→Prop} (hc:X.calm=true) (gt:Gl X "set") (mt:X.mg "set" =none) (ha:PE X a t) (hmono: ∀σ H (Q Q':VK),(∀v H1,Q v H1→Q' v H1)→t σ H Q→t σ H Q')
  (he:starEach [a] X.env=(false,eval a X.env)::starEach [] X.env) (I:Inv X pins σ H s)
  (h:t σ H fun v H1=> ∃d us,v= .ref d∧H1 d=some (.dK us)∧us.length≤15∧(us.all fun p=>qc7 p.1)=true∧Q us H1):
  wpAny (model X.prog X.w) X.A (eval (.Call (.Name "set" p2) [a] [] p3) X.env) (fun u s'=> ∃S o us H1,u= .ref S∧s'.heap.get? S=some o∧(∀v,o.data≠.cell v)∧(∀p∈pins,p.1≠S)∧Inv X (pins++[(S,o)]) σ H1 s'∧us.length≤15∧(∃es ep t,SX (PySem.strKind X.prog X.w) s'.heap S (us.map fun p=>qco p.1) es ep t)∧Q us H1) X.xe s:=by
 refine wpAny_Call_Name_kw (qcw I gt mt SetL.boot_set ?_)
 refine PyProof.Rows.callWith_type1 ?_ he rfl
 refine thn (qau ha qaR he p3 pins s σ H (fun vs H1=> ∃d us,vs=[.ref d]∧H1 d=some (.dK us)∧us.length≤15∧(us.all fun p=>qc7 p.1)=true∧Q us H1) I (hmono σ H _ _ (fun v H1 ⟨l,ss,e,r⟩=>⟨l,ss,by rw[e],r⟩) h)) fun us s1 hq40=> ?_
 obtain ⟨vs,H1,I1,r1,q1⟩:=hq40
 obtain ⟨d,us',rfl,hd,h15,hall,q⟩:=q1
 cases r1 with
 | cons r rr=>
  cases rr
  cases r
  obtain ⟨_,hs,vs,kv,o,es,ep,b1,b2,b3,b4,b5,b6⟩:=qmv I1.hok hd
  have lv:us'.length=vs.length:=kv.length
  have le:es.toList.length=vs.length:=b5.length
  refine qqM (knd:=strKind X.prog X.w) (ks:=us'.map fun p=>qco p.1) b1 b2 b3 hs (by rw[List.length_map]; lia) (fun i e k ei ki=> ?_) (by rw[←Array.length_toList]; lia) fun h' ⟨es',ep',t',y⟩ kp=> ?_
  ·obtain ⟨kv',f1,f2⟩:=qfJ (i:=i) b5 (by rw[Array.getElem?_toList]; exact ei)
   obtain ⟨kk,vv⟩:=kv'
   obtain ⟨v,g1,g2⟩:=kv.get f1
   have hk:qco kk=k:=by
    rw[List.getElem?_map,g1] at ki
    simpa using ki
   have hs':qc7 kk=true:=List.all_eq_true.mp hall _ (List.mem_of_getElem? g1)
   cases kk with
   | inl n=>cases hs'
   | inr x=>
    have hk:x=k:=hk
    subst hk
    have is:Value.isStrOf x e.key=true:=f2
    obtain ⟨tk,ek⟩:=Value.isStrOf_shape is
    refine ⟨is,?_,by rw[ek]; rfl⟩
    obtain ⟨k',z1,z2⟩:=b4 e (by
     have:=Array.mem_of_getElem? ei
     exact this)
    have:k'= .inr x:=(qaL X.prog X.w).inj e.key k' (.inr x) z1 f2
    rw[z2,this]
    rfl
  ·obtain ⟨oS,y1,y2,y3,y4⟩:=id y
   have nc: ∀v,oS.data≠.cell v:=fun v z=>by rw[y3] at z; cases z
   refine ⟨_,oS,us',H1,rfl,y1,nc,fun p hp=>Nat.ne_of_lt (Heap.lt_size (I1.pin p (List.mem_append_right _ hp)).1),?_,h15,⟨es',ep',t',y⟩,q⟩
   have I2:Inv X pins σ H1 { s1 with heap:=h' }:=I1.kept (t':=s1.toks) kp
   refine I2.pins_of fun p hp=> ?_
   rcases List.mem_append.mp hp with hp | hp
   ·exact I2.pin p (List.mem_append_right _ hp)
   ·rw[List.mem_singleton.mp hp]
    exact ⟨y1,I1.hok.fresh (Nat.le_refl _),Nat.ne_of_gt I1.lt,I1.nofs (Nat.le_refl _),nc⟩
end
theorem tD.mono {M:Md} {dd:Ro→Rs (List (Key×T))} {σ:St} {H:Hp} {Q Q':VK} (f: ∀v H1,Q v H1→Q' v H1) (h:tD M dd σ H Q):tD M dd σ H Q':=by
 obtain ⟨H0,B0,ρ,B,ev,w⟩:=h
 exact ⟨H0,B0,ρ,B,ev,Wnt.mono w fun a k p us H' B' g m hp r=>f _ _ (k p us H' B' g m hp r)⟩
section
variable {M:Md} {X:Cx} {a b:Expr} {da db:Ro→Rs (List (Key×T))} {p1 p2 p3 p4 p5 p6 pos:Pos}
theorem qmz (hc:X.calm=true) (gs:Gl X "sorted") (ms:X.mg "sorted" =none) (gt:Gl X "set") (mt:X.mg "set" =none) (ha:DD M X a da) (hb:DD M X b db) (hea:starEach [a] X.env=(false,eval a X.env)::starEach [] X.env:=by rfl) (heb:starEach [b] X.env=(false,eval b X.env)::starEach [] X.env:=by rfl):
  DF M X (.Call (.Name "sorted" p1) [.BinOp (.Call (.Name "set" p2) [a] [] p3) .BitOr (.Call (.Name "set" p4) [b] [] p5) p6] [] pos) (qh5 da db):=by
 intro pins s σ H Q I hq88
 obtain ⟨H0,B0,ρ,B,ev,w⟩:=hq88
 refine wpAny_Call_Name_kw (qcw I gs ms SetL.boot_sorted ?_)
 refine PyProof.Rows.callWith_builtin1 (Calls.spliced_cons (wpAny_BinOp ?_)) rfl rfl
 have w:=qbL.mp w
 have okd: ∀{ka:List (Key×T)} {us:List (Key×V)} {B1:Hp},qbA M.K B1 ka us→okD ka=true→us.length≤15∧(us.all fun p=>qc7 p.1)=true∧us.map (fun p=>qco p.1)=ka.map (fun p=>qco p.1):=fun {ka us B1} r h=>by
  unfold okD at h
  rw[Bool.and_eq_true,decide_eq_true_eq] at h
  have e:=r.fst
  refine ⟨by rw[r.length]; exact h.1,?_,?_⟩
  ·have h2:(ka.map (·.1)).all qc7=true:=by rw[List.all_map]; exact h.2
   rw[←e,List.all_map] at h2
   exact h2
  ·have:(us.map (·.1)).map qco=(ka.map (·.1)).map qco:=by rw[e]
   rw[List.map_map,List.map_map] at this
   exact this
 have ht:tD M da σ H fun v H1=> ∃d us,v= .ref d∧H1 d=some (.dK us)∧us.length≤15∧(us.all fun p=>qc7 p.1)=true∧
   ∃ka B1,qa4 H B H1 B1∧M.G.P H1∧us.map (fun p=>qco p.1)=ka.map (fun p=>qco p.1)∧Wnt M H0 (fun a=> ∀p vs H' B',qa4 H B H' B'→M.G.P H'→H p=none→B' p=none→H' p=some (.lst vs)→qaE M.K B' a vs→Q (.ref p) H') (db ρ>>=fun b=>if okD b=true then .ok (qeF ka b) else .no):=by
  refine ⟨H0,B0,ρ,B,ev,Wnt.mono (Wnt.bind w) fun ka w1 p us H1 B1 g1 m1 hp r1=> ?_⟩
  by_cases c:okD ka=true
  ·rw[if_pos c] at w1
   obtain ⟨c1,c2,c3⟩:=okd r1 c
   exact ⟨p,us,rfl,hp,c1,c2,ka,B1,g1,m1,c3,w1⟩
  ·rw[if_neg c] at w1; exact w1.elim
 refine thn (qfz hc gt mt ha (fun σ H Q Q' f h=>tD.mono f h) hea I ht) fun u s1 hq111=> ?_
 obtain ⟨S,o,us,H1,eu,hS,nc,_,I1,l1,⟨es,ep,t,x⟩,ka,B1,g1,m1,e1,w1⟩:=hq111
 subst eu
 have ev1:=ev.grow g1 m1
 have ht2:tD M db σ H1 fun v H2=> ∃d us,v= .ref d∧H2 d=some (.dK us)∧us.length≤15∧(us.all fun p=>qc7 p.1)=true∧
   ∃kb B2,qa4 H1 B1 H2 B2∧M.G.P H2∧us.map (fun p=>qco p.1)=kb.map (fun p=>qco p.1)∧(∀p vs H' B',qa4 H B H' B'→M.G.P H'→H p=none→B' p=none→H' p=some (.lst vs)→qaE M.K B' (qeF ka kb) vs→Q (.ref p) H'):=by
  refine ⟨H0,B0,ρ,B1,ev1,Wnt.mono (Wnt.bind w1) fun kb w2 p us H2 B2 g2 m2 hp r2=> ?_⟩
  by_cases c:okD kb=true
  ·rw[if_pos c] at w2
   obtain ⟨c1,c2,c3⟩:=okd r2 c
   exact ⟨p,us,rfl,hp,c1,c2,kb,B2,g2,m2,c3,w2⟩
  ·rw[if_neg c] at w2; exact w2.elim
 refine thn (qfz hc gt mt hb (fun σ H Q Q' f h=>tD.mono f h) heb I1 ht2) fun u2 s2 hq122=> ?_
 obtain ⟨S2,o2,us2,H2,eu2,hS2,nc2,ne2,I2,l2,⟨es2,ep2,t2,y⟩,kb,B2,g2,m2,e2,w2⟩:=hq122
 subst eu2
 have pS:=I2.pin (S,o) (by simp)
 have ne:S≠S2:=ne2 (S,o) (by simp)
 have x2:SX (PySem.strKind X.prog X.w) s2.heap S (us.map fun p=>qco p.1) es ep t:=x.keep fun o' eo=>by
  rw[hS] at eo; cases eo
  exact pS.1
 have sz1:es.size≤15:=by
  obtain ⟨_,_,_,_,_,_,_,_,z,_⟩:=id x
  have:=qg4 (us.map fun p=>qco p.1)
  rw[List.length_map] at this
  lia
 have sz2:es2.size≤15:=by
  obtain ⟨_,_,_,_,_,_,_,_,z,_⟩:=id y
  have:=qg4 (us2.map fun p=>qco p.1)
  rw[List.length_map] at this
  lia
 refine qur ne x2 y (by lia) fun h3 d3 ⟨es3,ep3,t3,z⟩ kp3=> ?_
 refine Calls.spliced_nil ?_
 have I3:Inv X pins σ H2 { s2 with heap:=h3,drawn:=d3 }:=qof (tk:=s2.toks) (Inv.unpinned (Inv.unpinned I2)) kp3
 have hh:X.A.handled=none:=I3.ok.hd hc
 have hP:=z.p
 have fS:(fun k=>decide (k∈(us.map fun p=>qco p.1)++us2.map fun p=>qco p.1))=mem (fun i=>((us.map fun p=>qco p.1)++us2.map fun p=>qco p.1).getD i "") ((us.map fun p=>qco p.1)++us2.map fun p=>qco p.1).length:=by
  funext k
  rw[Bool.eq_iff_iff,decide_eq_true_eq]
  exact qe5.symm
 rw[fS] at hP
 refine qer (qpf X.prog X.w) (s:={ s2 with heap:=h3,drawn:=d3 }) (ss:=(us.map fun p=>qco p.1)++us2.map fun p=>qco p.1) hh (by rw[qkV]; exact hP) (by rw[List.length_append,List.length_map,List.length_map]; lia) fun h1 D h' d tk c vs k1 hD k2 hg rv=> ?_
 have I4:=qof (d:=d) (tk:=tk) I3 k1
 have fD:H2 D=none:=I4.hok.fresh hD
 have I5:Inv X pins σ (upd H2 D (.lst ((qel ((us.map fun p=>qco p.1)++us2.map fun p=>qco p.1)).map V.str))) { s2 with heap:=h',drawn:=d,toks:=tk }:=by
  refine I4.laid (h':=h') (t':=tk) k2 hD ⟨?_,_,c,rv,hg⟩
  rw[List.length_map,sizeLine_eq]
  have q1:(qel ((us.map fun p=>qco p.1)++us2.map fun p=>qco p.1)).length=(dd ((us.map fun p=>qco p.1)++us2.map fun p=>qco p.1)).length:=(qaI _).length_eq
  have q2:=qg4 ((us.map fun p=>qco p.1)++us2.map fun p=>qco p.1)
  rw[List.length_append,List.length_map,List.length_map] at q2
  lia
 have ev2:=ev1.grow g2 m2
 obtain ⟨g,m',bp⟩:=qcd (M:=M) (ws:=(qel ((us.map fun p=>qco p.1)++us2.map fun p=>qco p.1)).map V.str) ev2.bh ev2.bt m2 fD
 refine ⟨.ref D,_,I5,rfl,w2 D _ _ B2 ((g1.trans g2).trans g) m' (qbD (g1.trans g2).gx fD) bp qan ?_⟩
 unfold qeF
 rw[e1,e2]
 exact qcr _
end
end PL
end
section
namespace K18
open PySem L2
def top (i:Nat):Stmt:=PySem.Challenge.pw_rowasks_k18_whole_stretches_moved.main.body.getD i (.Pass ⟨0,0,0,0⟩)
abbrev qrR:Stmt:=top 9
abbrev qrX:Stmt:=top 10
abbrev qrP:Stmt:=top 11
abbrev qrM:Stmt:=top 12
abbrev qrL:Stmt:=top 13
abbrev qrK:Stmt:=top 14
abbrev qrO:Stmt:=top 15
abbrev s_2:Stmt:=top 16
abbrev s_6:Stmt:=top 17
abbrev s_3:Stmt:=top 18
abbrev s_0:Stmt:=top 19
abbrev s_4:Stmt:=top 20
abbrev qqV:Stmt:=top 22
abbrev s_1:Stmt:=top 25
abbrev s_7:Stmt:=top 26
abbrev qrV:Stmt:=top 27
abbrev qrN:Stmt:=top 28
abbrev qrJ:Stmt:=top 30
abbrev qpq:Stmt:=top 29
abbrev qqU:Stmt:=top 31
abbrev qqZ:Stmt:=top 32
abbrev qqX:Stmt:=top 34
abbrev qqW:Stmt:=top 35
abbrev qrI:Stmt:=top 40
abbrev s_5:Stmt:=top 39
abbrev qm3:Stmt:=top 38
abbrev qqY:Stmt:=top 41
abbrev qm2:Stmt:=top 42
abbrev qrH:Stmt:=top 43
abbrev qrU:Stmt:=top 45
abbrev qrT:Stmt:=top 46
abbrev qrQ:Stmt:=top 47
abbrev qrW:Stmt:=top 48
abbrev qrS:Stmt:=top 49
abbrev qgv:Stmt:=top 50
end K18
end
section
namespace K18
open PySem L2 RH PL
def qgc (ns:List Int) (k:Int):Int:=if k<(ns.length:Int) then ns.getD k.toNat 0 else if ns=[] then 0 else ns.getD (k % (ns.length:Int)).toNat 0*31+k
def qf3 (ns:List Int) (k:Int):Int:=(qgc ns k+6151*(k+1))*40692 % 2147483399
def qit (ns:List Int) (k many:Int):Int:=(qf3 ns k*qf3 ns k+qf3 ns k / 31) % 2147483629 % many
theorem qlS {ns:List Int} {k many:Int} (h:0<many):0≤qit ns k many:=Int.emod_nonneg _ (by lia)
theorem qlT {ns:List Int} {k many:Int} (h:0<many):qit ns k many<many:=Int.emod_lt_of_pos _ h
def qnr (K:PySem.W.Frag) (H:Hp) (a:Addr) (ns:List Int):Prop:=SqL K H a (ns.map V.int)∧ns.length≤63
def qmZ (K:PySem.W.Frag):Sp:=fun vs H Q _=> ∃a ns k,vs=[.ref a,.int k]∧qnr K H a ns∧0≤k∧k<1000000∧∀H',qmN H H'→Q (.int (qgc ns k)) H'
def qmY (K:PySem.W.Frag):Sp:=fun vs H Q _=> ∃a ns k many,vs=[.ref a,.int k,.int many]∧qnr K H a ns∧0≤k∧k<1000000∧0<many∧∀H',qmN H H'→Q (.int (qit ns k many)) H'
theorem qla {ns:List Int} {k:Int} (h0:0≤k) (h1:k<(ns.length:Int)):atI (ns.map V.int) k=some (.int (ns.getD k.toNat 0)):=by
 obtain ⟨j,rfl⟩: ∃j:Nat,k=j:=⟨k.toNat,by lia⟩
 refine qk9 ?_
 rw[List.getElem?_map,Int.toNat_natCast,List.getD_eq_getElem?_getD,List.getElem?_eq_getElem (by lia)]
 rfl
section
variable {P:Program} {w:World} {K:PySem.W.Frag} {mg:Str→Option Value} {base:Heap}
theorem qpp:qas ["_law_script", "_law_k"] ["_law_script", "_law_k"] (qaf qrU):=⟨rfl,rfl,rfl,by decide+kernel,rfl,by decide+kernel,by decide+kernel⟩
theorem qn7 {f:Addr} {fd:FuncData} (F:Fun K "_law_cell" "_law_cell" qrU f fd) (n1:mg "len" =none):qbG P w K mg base CX0 1 f fd ["_law_script", "_law_k"] (qmZ K):=by
 refine F.ok qpp (fun vs H Q E h=> ?_) (fun cdv A outer s H vs Q E hr h=> ?_)
 ·obtain ⟨a,ns,k,rfl,_⟩:=h
  rfl
 ·obtain ⟨a,ns,k,rfl,hS,h0,hb,q⟩:=h
  refine ⟨_,qdH (qnO (qgA qpV (pv 1) (qaO qh9 rfl n1 PySem.boot_len (qau (pv 0) qaR)) (qna _)) (qdX (qfG (qlV (qhK K rfl) (pv 0) (pv 1) (fun _ _=>rfl)))) qgB)
   (qdH (qnO (qgA (qgF hr.units0) (pv 0) (qm6 qaR) (qna _)) (qdX (qfG qc1)) qgB)
   (qdX (qfG (qcQ qfL (qcQ qd0 (qlV (qhK K rfl) (pv 0) (qcQ qfK (pv 1) (qaO qh9 rfl n1 PySem.boot_len (qau (pv 0) qaR))) (fun _ _=>rfl)) qc1) (pv 1))))),?_⟩
  refine ⟨_,rfl,_,rfl,_,_,rfl,.inl ⟨_,hS.1,rfl⟩,_,_,rfl,rfl,_,rfl,?_⟩
  have len:((ns.map V.int).length:Int)=(ns.length:Int):=by rw[List.length_map]
  by_cases c1:k<(ns.length:Int)
  ·refine qqg (by rw[len]; exact decide_eq_true c1) ?_
   refine ⟨_,rfl,_,rfl,a,_,k,_,rfl,rfl,hS.1,qla h0 c1,?_⟩
   have e:qgc ns k=ns.getD k.toNat 0:=by unfold qgc; rw[if_pos c1]
   rw[←e]
   exact q H (qmN.refl H)
  ·refine qqh (by rw[len]; exact decide_eq_false c1) ?_
   refine ⟨_,rfl,Nat.zero_le _,fun p hp=> ?_⟩
   have s1:qmN H (upd H p (.lst [])):=qlG hp
   refine ⟨a,p,_,_,rfl,rfl,s1.seq hS.1,SqL.of qan,?_⟩
   by_cases c2:ns=[]
   ·subst c2
    refine .inr ⟨rfl,fun _=>true,fun i x y hx=>by simp at hx,_,rfl,?_⟩
    refine qqg rfl ?_
    have e:qgc [] k=0:=by unfold qgc; rw[if_neg c1,if_pos rfl]
    have q':=q _ s1
    rw[e] at q'
    exact q'
   ·have hpos:0<ns.length:=List.length_pos_iff.mpr c2
    refine .inl ⟨by simpa using c2,_,rfl,?_⟩
    refine qqh rfl ?_
    have hm0:0≤k % (ns.length:Int):=Int.emod_nonneg _ (by lia)
    have hm1:k % (ns.length:Int)<(ns.length:Int):=Int.emod_lt_of_pos _ (by lia)
    refine ⟨_,rfl,_,rfl,_,rfl,_,_,rfl,.inl ⟨_,s1.seq hS.1,rfl⟩,_,_,rfl,rfl,by rw[len]; lia,a,_,_,_,rfl,rfl,s1.seq hS.1,by rw[len]; exact qla hm0 hm1,_,_,rfl,rfl,.inr ⟨by decide,by decide⟩,_,rfl,_,_,rfl,rfl,?_⟩
    have e:qgc ns k=ns.getD (k % (ns.length:Int)).toNat 0*31+k:=by unfold qgc; rw[if_neg c1,if_neg c2]
    have q':=q _ s1
    rw[e] at q'
    exact q'
theorem qm1:qas ["_law_script", "_law_k", "_law_many", "_law_drawn"] ["_law_script", "_law_k", "_law_many"] (qaf qrT):=⟨rfl,rfl,rfl,by decide+kernel,rfl,by decide+kernel,by decide+kernel⟩
theorem qn5 {f fC:Addr} {fd fdC:FuncData} (F:Fun K "_law_pick" "_law_pick" qrT f fd) (GC:qbG P w K mg base CX0 1 fC fdC ["_law_script", "_law_k"] (qmZ K)) (mC:mg "_law_cell" =some (.ref fC)) (kC:PySem.W.keepIn K (.ref fC)=true) (bC:qfp K fdC ["_law_script", "_law_k"] []):
  qbG P w K mg base CX0 2 f fd ["_law_script", "_law_k", "_law_many"] (qmY K):=by
 refine F.ok qm1 (fun vs H Q E h=> ?_) (fun cdv A outer s H vs Q E hr h=> ?_)
 ·obtain ⟨a,ns,k,many,rfl,_⟩:=h
  rfl
 ·obtain ⟨a,ns,k,many,rfl,hS,h0,hb,hm,q⟩:=h
  refine ⟨_,qdH (qhq (i:=3) qm1.nd rfl (Or.inl rfl) (qcQ qfK (qcQ qd0 (qcQ qfL (qjL GC hr rfl mC kC bC .nil qsb (qau (pv 0) (qau (pv 1) qaR))) (qcQ qd0 qc1 (qcQ qfL (pv 1) qc1))) qc1) qc1))
   (qdX (qfG (qcQ qfK (qcQ qfK (qcQ qfL (qcQ qd0 (pv 3) (pv 3)) (qcQ qn1 (pv 3) qc1)) qc1) (pv 2)))),?_⟩
  refine ⟨_,rfl,_,rfl,a,ns,k,rfl,hS,h0,hb,fun H1 s1=> ?_⟩
  refine ⟨_,rfl,_,_,rfl,rfl,_,_,rfl,rfl,.inl ⟨by decide,by decide⟩,_,_,rfl,rfl,_,_,rfl,rfl,.inr ⟨by decide,by decide⟩,_,_,rfl,rfl,(show (0:Int)<2147483399 by decide),?_⟩
  have d0:0≤qf3 ns k:=Int.emod_nonneg _ (by decide)
  have d1:qf3 ns k<2147483399:=Int.emod_lt_of_pos _ (by decide)
  refine ⟨_,rfl,_,rfl,_,_,rfl,rfl,.inl ⟨?_,?_⟩,_,rfl,_,_,rfl,rfl,⟨by decide,by decide⟩,_,_,rfl,rfl,_,_,rfl,rfl,(show (0:Int)<2147483629 by decide),_,rfl,_,_,rfl,rfl,hm,q H1 s1⟩
  ·exact Int.lt_of_lt_of_le (by decide) d0
  ·exact Int.lt_trans d1 (by decide)
end
def qdE:List T→Rs T
 | [.scr ns,.int k,.int many]=>if (0≤k∧k<1000000)∧0<many∧ns.length≤63 then .ok (.int (qit ns k many)) else .no
 | _=>.no
theorem qod {P:Program} {w:World} {K:PySem.W.Frag} {mg:Str→Option Value} {base:Heap} {G:Gam} {C:Str→Addr} {f:Addr} {fd:FuncData} (F:qbG P w K mg base CX0 2 f fd ["_law_script", "_law_k", "_law_many"] (qmY K)) (m:mg "_law_pick" =some (.ref f))
  (k:PySem.W.keepIn K (.ref f)=true) (b:qfp K fd ["_law_script", "_law_k", "_law_many"] []):Kn P w K mg base G C "_law_pick" ["_law_script", "_law_k", "_law_many"] 2 qdE:=by
 refine ⟨f,fd,F.imp fun vs H Q E h=> ?_,m,k,b⟩
 obtain ⟨B,ts,le,bt,gm,r,w⟩:=h
 unfold qdE at w
 split at w
 ·rename_i ns k many
  split at w
  ·rename_i hc
   obtain ⟨v1,r1,rfl,a1,b1⟩:=r.inv
   obtain ⟨v2,r2,rfl,a2,b2⟩:=b1.inv
   obtain ⟨v3,r3,rfl,a3,b3⟩:=b2.inv
   cases b3.inv0
   unfold Rep at a1
   obtain ⟨p,rfl,sq⟩:=a1
   cases qaq a2
   cases qaq a3
   refine ⟨p,ns,k,many,rfl,⟨le.sqL sq,hc.2.2⟩,hc.1.1,hc.1.2,hc.2.1,fun H' sm=> ?_⟩
   exact w _ H' B ⟨⟨fun a o e _=>sm a o e,fun a e z=>by
    cases q:H a with
    | none=>exact e q
    | some o=>rw[sm a o q] at z; cases z⟩,.refl _,fun a o e=>sm a o (le a o e),bt,fun _ _=>rfl⟩ (G.st H H' (fun a o e _ _ _ _=>sm a o e) gm) qbs
  ·exact w.elim
 ·exact w.elim
end K18
end
section
namespace K18
open PySem L2 PL SetL
section
variable {P:Program} {w:World} {K:PySem.W.Frag} {mg:Str→Option Value} {base:Heap} {G:Gam} {C:Str→Addr}
abbrev qgL:Pos:=⟨128,41,128,80⟩
abbrev qdV:Str:= "longest.<locals>.<lambda>"
abbrev qgM:Pos:=⟨114,28,114,68⟩
abbrev qdW:Str:= "stretches.<locals>.<lambda>"
abbrev lq:List (Pos×Str):=[(qgM,qdW),(qgL,qdV)]
abbrev gL (T_17 T_30:Addr):Gam:=qep [(T_17,qgM,qdW),(T_30,qgL,qdV)]
theorem qrD:qas ["thing"] ["thing"] (qaf qrR):=⟨rfl,rfl,rfl,by decide+kernel,rfl,by decide+kernel,by decide+kernel⟩
def quU:Ro→Rs Out:=qa7 (qmB (qg6 "int" (dV 0)) (qqE (qg6 "bool" (dV 0))))
def qoK:List T→Rs T:=fnT 1 1 quU
theorem qsx {f:Addr} {fd:FuncData} (F:Fun K "is_whole" "is_whole" qrR f fd) (nb: ∀x∈names,mg x=none) (kt: ∀N∈["int", "bool", "str", "tuple"],qle K N):qbG P w K mg base CX0 1 f fd ["thing"] (spP K G C qoK):=
 qbp F qrD fun cdv A outer s H E hr=>qal (qaz (qnm (qfk (qaO (qb1 (kt "int" (by decide))) rfl (nb "isinstance" (by decide)) PyProof.Rows.boot_isinstance (qau (qaa (pv 0)) (qau (qe2 (v:=.ty "int") rfl (nb "int" (by decide)) PyProof.Rows.boot_int rfl) qaR)))) (qnj (qqy (qfk (qaO (qb1 (kt "bool" (by decide))) rfl (nb "isinstance" (by decide)) PyProof.Rows.boot_isinstance (qau (qaa (pv 0)) (qau (qe2 (v:=.ty "bool") rfl (nb "bool" (by decide)) PyProof.Rows.boot_bool rfl) qaR))))))))
theorem qrG:qas ["thing", "least", "greatest"] ["thing", "least", "greatest"] (qaf qrX):=⟨rfl,rfl,rfl,by decide+kernel,rfl,by decide+kernel,by decide+kernel⟩
def qtX:Ro→Rs Out:=qa7 (qmB (qag qoK (qac (dV 0) (qam))) (qbS gLe gLe (dV 1) (dV 0) (dV 2)))
def qmX:List T→Rs T:=fnT 3 3 qtX
theorem qsD {f:Addr} {fd:FuncData} (F:Fun K "is_whole_within" "is_whole_within" qrX f fd) (nb: ∀x∈names,mg x=none) (F_21:Kn P w K mg base G C "is_whole" ["thing"] 1 qoK):qbG P w K mg base CX0 2 f fd ["thing", "least", "greatest"] (spP K G C qmX):=
 qbp F qrG fun cdv A outer s H E hr=>qal (qaz (qnm (qad F_21 rfl (hr.mono (by decide)) rfl (qab (qaa (pv 0)) (qah))) (qnj (qh3 qbP qbP qdz qdA qdz qdA (qaa (pv 1)) (qaa (pv 0)) (qaa (pv 2))))))
theorem qrB:qas ["thing", "longest"] ["thing", "longest"] (qaf qrP):=⟨rfl,rfl,rfl,by decide+kernel,rfl,by decide+kernel,by decide+kernel⟩
def qtR:Ro→Rs Out:=qaM (dIf (dOr (qfs (dTB (qg6 "str" (dV 0)))) (qfs (dTB (qbS gLe gLe (dC (.int 1)) (qqF (dV 0)) (dV 1))))) (qa7 (dC (.bl false))) (qaN)) (qa7 (dCQ qln (dQF (qaC 1 [] (dIS (dV 0)) (gN 0) (qcl) (qbS gLe gLe (dC (.str "a")) (dV 0) (dC (.str "z")))))))
def qo7:List T→Rs T:=fnT 2 2 qtR
theorem qsu {f:Addr} {fd:FuncData} (F:Fun K "is_word" "is_word" qrP f fd) (nb: ∀x∈names,mg x=none) (kt: ∀N∈["int", "bool", "str", "tuple"],qle K N):qbG P w K mg base CX0 1 f fd ["thing", "longest"] (spP K G C qo7):=
 qbp F qrB fun cdv A outer s H E hr=>qai (qbX (qqq (qmt (qcO (qcN (qfk (qaO (qb1 (kt "str" (by decide))) rfl (nb "isinstance" (by decide)) PyProof.Rows.boot_isinstance (qau (qaa (pv 0)) (qau (qe2 (v:=.ty "str") rfl (nb "str" (by decide)) PyProof.Rows.boot_str rfl) qaR)))))) (qh2 (qcO (qfh qbP qbP qdz qdA qdz qdA (qak) (qkN rfl (nb "len" (by decide)) (qaa (pv 0))) (qaa (pv 1))))))) (qal (qaz (qec))) (qaS)) (qal (qaz (qh4 (qaO (qdL rfl) rfl (nb "all" (by decide)) qdM (qau (qbj (qa2 (own:=["sign"]) (fr:=[]) rfl (qqu (qaa (pv 0))) (qbo) rfl (by decide+kernel) (by decide+kernel) (fun y hy e=>absurd e ((by decide+kernel: ∀y∈_,y.2≠NameKind.free) y hy)) (fun p hp=>nomatch hp) (fun fp s3 H3=>⟨qaW (qar (i:=0) (show (["sign"]:List Str).Nodup by decide+kernel) rfl (by first | exact Or.inl rfl | exact Or.inr rfl)),qaQ,qh3 qbP qbP qdz qdA qdz qdA (qde) (qaa (pv 0)) (qde)⟩))) qaR)))))
theorem qrw:qas ["thing"] ["thing"] (qaf qrM):=⟨rfl,rfl,rfl,by decide+kernel,rfl,by decide+kernel,by decide+kernel⟩
def qtK:Ro→Rs Out:=qa7 (qag qo7 (qac (dV 0) (qac (dC (.int 2)) (qam))))
def qo5:List T→Rs T:=fnT 1 1 qtK
theorem qsn {f:Addr} {fd:FuncData} (F:Fun K "is_key" "is_key" qrM f fd) (nb: ∀x∈names,mg x=none) {u_13:Value} (cm_13:mg "LONGEST_KEY" =some u_13) (cr_13:RelV (.int 2) u_13) (F_24:Kn P w K mg base G C "is_word" ["thing", "longest"] 1 qo7):qbG P w K mg base CX0 2 f fd ["thing"] (spP K G C qo5):=
 qbp F qrw fun cdv A outer s H E hr=>qal (qaz (qad F_24 rfl (hr.mono (by decide)) rfl (qab (qaa (pv 0)) (qab (qb6 (qdj rfl cm_13 cr_13) (fun _=>qbs)) (qah)))))
theorem qrv:qas ["thing"] ["thing"] (qaf qrL):=⟨rfl,rfl,rfl,by decide+kernel,rfl,by decide+kernel,by decide+kernel⟩
def qtJ:Ro→Rs Out:=qaM (dIf (dOr (qfs (dTB (qg6 "tuple" (dV 0)))) (dTB (dB gNe (qqF (dV 0)) (dC (.int 3))))) (qa7 (dC (.bl false))) (qaN)) (qaM (dIf (dOr (qfs (dTB (qag qmX (qac (dB gIx (dV 0) (dC (.int 0))) (qac (dC (.int 0)) (qac (dC (.int 99)) (qam))))))) (qfs (dTB (qag qo5 (qac (dB gIx (dV 0) (dC (.int 1))) (qam)))))) (qa7 (dC (.bl false))) (qaN)) (qa7 (qag qmX (qac (dB gIx (dV 0) (dC (.int 2))) (qac (qdB (dC (.int 99))) (qac (dC (.int 99)) (qam)))))))
def qlw:List T→Rs T:=fnT 1 1 qtJ
theorem qsm {f:Addr} {fd:FuncData} (F:Fun K "is_row" "is_row" qrL f fd) (nb: ∀x∈names,mg x=none) (kt: ∀N∈["int", "bool", "str", "tuple"],qle K N) {u_8:Value} (cm_8:mg "GREATEST_MOMENT" =some u_8) (cr_8:RelV (.int 99) u_8) {u_9:Value} (cm_9:mg "GREATEST_NUMBER" =some u_9) (cr_9:RelV (.int 99) u_9) (F_31:Kn P w K mg base G C "is_key" ["thing"] 2 qo5) (F_10:Kn P w K mg base G C "is_whole_within" ["thing", "least", "greatest"] 2 qmX):qbG P w K mg base CX0 3 f fd ["thing"] (spP K G C qlw):=
 qbp F qrv fun cdv A outer s H E hr=>qai (qbX (qqq (qmt (qcO (qcN (qfk (qaO (qb1 (kt "tuple" (by decide))) rfl (nb "isinstance" (by decide)) PyProof.Rows.boot_isinstance (qau (qaa (pv 0)) (qau (qe2 (v:=.ty "tuple") rfl (nb "tuple" (by decide)) qiT rfl) qaR)))))) (qh2 (qby (op_neT (hu8 hr)) qdS qdY (qkN rfl (nb "len" (by decide)) (qaa (pv 0))) (qak))))) (qal (qaz (qec))) (qaS)) (qai (qbX (qqq (qmt (qcO (qcN (qad F_10 rfl (hr.mono (by decide)) rfl (qab (qa3 qaB qaY qa0 (qaa (pv 0)) (qak) (fun _ _=>rfl)) (qab (qak) (qab (qb6 (qdj rfl cm_8 cr_8) (fun _=>qbs)) (qah))))))) (qh2 (qcO (qcN (qad F_31 rfl (hr.mono (by decide)) rfl (qab (qa3 qaB qaY qa0 (qaa (pv 0)) (qak) (fun _ _=>rfl)) (qah)))))))) (qal (qaz (qec))) (qaS)) (qal (qaz (qad F_10 rfl (hr.mono (by decide)) rfl (qab (qa3 qaB qaY qa0 (qaa (pv 0)) (qak) (fun _ _=>rfl)) (qab (qf5 (qb6 (qdj rfl cm_9 cr_9) (fun _=>qbs))) (qab (qb6 (qdj rfl cm_9 cr_9) (fun _=>qbs)) (qah))))))))
theorem qru:qas ["rows"] ["rows"] (qaf qrK):=⟨rfl,rfl,rfl,by decide+kernel,rfl,by decide+kernel,by decide+kernel⟩
def qtI:Ro→Rs Out:=qa7 (dCQ qln (dQF (qaC 2 [] (dIZ (qac (dV 0) (qac (dFz (qi7 (dQV 0) (dOS (dC (.int 1))) (dON))) (qam)))) (gT 2 (gsC (gN 0) (gsC (gN 1) (gsN)))) (qcl) (dB gLe (dB gIx (dV 0) (dC (.int 0))) (dB gIx (dV 1) (dC (.int 0)))))))
def qo4:List T→Rs T:=fnT 1 1 qtI
theorem qsl {f:Addr} {fd:FuncData} (F:Fun K "is_log" "is_log" qrK f fd) (nb: ∀x∈names,mg x=none):qbG P w K mg base CX0 1 f fd ["rows"] (spP K G C qo4):=
 qbp F qru fun cdv A outer s H E hr=>qal (qaz (qh4 (qaO (qdL rfl) rfl (nb "all" (by decide)) qdM (qau (qbj (qa2 (own:=["ahead", "row"]) (fr:=[]) rfl (qkI rfl (nb "zip" (by decide)) (qab (qaa (pv 0)) (qab (qaF (qfj (qbz (pv 0)) (qd7 (qak)) (qd8))) (qah)))) (qiK (qbR (qbo) (qbR (qbo) (qeI)))) rfl (by decide+kernel) (by decide+kernel) (fun y hy e=>absurd e ((by decide+kernel: ∀y∈_,y.2≠NameKind.free) y hy)) (fun p hp=>nomatch hp) (fun fp s3 H3=>⟨qd9 rfl (qaK (qaW (qar (i:=0) (show (["ahead", "row"]:List Str).Nodup by decide+kernel) rfl (by first | exact Or.inl rfl | exact Or.inr rfl))) (qaK (qaW (qar (i:=1) (show (["ahead", "row"]:List Str).Nodup by decide+kernel) rfl (by first | exact Or.inl rfl | exact Or.inr rfl))) (qcU))),qaQ,qkO qbP qdz qdA (qa3 qaB qaY qa0 (qaa (pv 0)) (qak) (fun _ _=>rfl)) (qa3 qaB qaY qa0 (qaa (pv 1)) (qak) (fun _ _=>rfl))⟩))) qaR))))
theorem qrA:qas ["rows"] ["rows"] (qaf qrO):=⟨rfl,rfl,rfl,by decide+kernel,rfl,by decide+kernel,by decide+kernel⟩
def qtQ:Ro→Rs Out:=qa7 (dFz (qlm qka (dQF (qaC 1 [] (dI (dV 0)) (gN 0) (qcl) (dB gIx (dV 0) (dC (.int 1)))))))
def qmV:List T→Rs T:=fnT 1 1 qtQ
theorem qst {f:Addr} {fd:FuncData} (F:Fun K "keys_of" "keys_of" qrO f fd) (nb: ∀x∈names,mg x=none):qbG P w K mg base CX0 1 f fd ["rows"] (spP K G C qmV):=
 qbp F qrA fun cdv A outer s H E hr=>qal (qaz (qaF (qou rfl rfl (nb "sorted" (by decide)) rfl (nb "set" (by decide)) (qbj (qa2 (own:=["row"]) (fr:=[]) rfl (qbf (qaa (pv 0))) (qbo) rfl (by decide+kernel) (by decide+kernel) (fun y hy e=>absurd e ((by decide+kernel: ∀y∈_,y.2≠NameKind.free) y hy)) (fun p hp=>nomatch hp) (fun fp s3 H3=>⟨qaW (qar (i:=0) (show (["row"]:List Str).Nodup by decide+kernel) rfl (by first | exact Or.inl rfl | exact Or.inr rfl)),qaQ,qa3 qaB qaY qa0 (qaa (pv 0)) (qak) (fun _ _=>rfl)⟩))))))
theorem qui:qas ["rows"] ["rows"] (qaf s_2):=⟨rfl,rfl,rfl,by decide+kernel,rfl,by decide+kernel,by decide+kernel⟩
def d_2:Ro→Rs Out:=dIf (qfs (dTB (dCQ qln (dQF (qaC 1 [] (dI (dV 0)) (gN 0) (qcl) (qag qlw (qac (dV 0) (qam)))))))) (dNo) (qaN)
def t_2:List T→Rs T:=fnT 1 1 d_2
theorem qux {f:Addr} {fd:FuncData} (F:Fun K "refuse_what_is_no_row" "refuse_what_is_no_row" s_2 f fd) (nb: ∀x∈names,mg x=none) (F_32:Kn P w K mg base G C "is_row" ["thing"] 3 qlw):qbG P w K mg base CX0 4 f fd ["rows"] (spP K G C t_2):=
 qbp F qui fun cdv A outer s H E hr=>qal (qbX (qcO (qcN (qh4 (qaO (qdL rfl) rfl (nb "all" (by decide)) qdM (qau (qbj (qa2 (own:=["row"]) (fr:=[]) rfl (qbf (qaa (pv 0))) (qbo) rfl (by decide+kernel) (by decide+kernel) (fun y hy e=>absurd e ((by decide+kernel: ∀y∈_,y.2≠NameKind.free) y hy)) (fun p hp=>nomatch hp) (fun fp s3 H3=>⟨qaW (qar (i:=0) (show (["row"]:List Str).Nodup by decide+kernel) rfl (by first | exact Or.inl rfl | exact Or.inr rfl)),qaQ,qad F_32 rfl (hr.mono (by decide)) rfl (qab (qaa (pv 0)) (qah))⟩))) qaR))))) (qca) (qaS))
theorem quf:qas ["rows"] ["rows"] (qaf s_6):=⟨rfl,rfl,rfl,by decide+kernel,rfl,by decide+kernel,by decide+kernel⟩
def d_6:Ro→Rs Out:=dIf (qfs (dTB (qag qo4 (qac (dV 0) (qam))))) (dNo) (qaN)
def t_6:List T→Rs T:=fnT 1 1 d_6
theorem qut {f:Addr} {fd:FuncData} (F:Fun K "refuse_out_of_order" "refuse_out_of_order" s_6 f fd) (nb: ∀x∈names,mg x=none) (F_33:Kn P w K mg base G C "is_log" ["rows"] 1 qo4):qbG P w K mg base CX0 2 f fd ["rows"] (spP K G C t_6):=
 qbp F quf fun cdv A outer s H E hr=>qal (qbX (qcO (qcN (qad F_33 rfl (hr.mono (by decide)) rfl (qab (qaa (pv 0)) (qah))))) (qca) (qaS))
theorem quh:qas ["rows"] ["rows"] (qaf s_3):=⟨rfl,rfl,rfl,by decide+kernel,rfl,by decide+kernel,by decide+kernel⟩
def d_3:Ro→Rs Out:=qaM (qa6 (qag t_2 (qac (dV 0) (qam)))) (qa6 (qag t_6 (qac (dV 0) (qam))))
def t_3:List T→Rs T:=fnT 1 1 d_3
theorem quw {f:Addr} {fd:FuncData} (F:Fun K "refuse_what_is_no_log" "refuse_what_is_no_log" s_3 f fd) (nb: ∀x∈names,mg x=none) (F_6:Kn P w K mg base G C "refuse_out_of_order" ["rows"] 2 t_6) (F_2:Kn P w K mg base G C "refuse_what_is_no_row" ["rows"] 4 t_2):qbG P w K mg base CX0 5 f fd ["rows"] (spP K G C t_3):=
 qbp F quh fun cdv A outer s H E hr=>qai (qaP (qad F_2 rfl (hr.mono (by decide)) rfl (qab (qaa (pv 0)) (qah)))) (qal (qaP (qad F_6 rfl (hr.mono (by decide)) rfl (qab (qaa (pv 0)) (qah)))))
theorem quk:qas ["one", "other"] ["one", "other"] (qaf s_0):=⟨rfl,rfl,rfl,by decide+kernel,rfl,by decide+kernel,by decide+kernel⟩
def d_0:Ro→Rs Out:=qaM (qa6 (qag t_2 (qac (dV 0) (qam)))) (qaM (qa6 (qag t_2 (qac (dV 1) (qam)))) (qaM (qa6 (qag t_6 (qac (dV 0) (qam)))) (qa6 (qag t_6 (qac (dV 1) (qam))))))
def t_0:List T→Rs T:=fnT 2 2 d_0
theorem quz {f:Addr} {fd:FuncData} (F:Fun K "refuse_what_are_no_two_logs" "refuse_what_are_no_two_logs" s_0 f fd) (nb: ∀x∈names,mg x=none) (F_6:Kn P w K mg base G C "refuse_out_of_order" ["rows"] 2 t_6) (F_2:Kn P w K mg base G C "refuse_what_is_no_row" ["rows"] 4 t_2):qbG P w K mg base CX0 5 f fd ["one", "other"] (spP K G C t_0):=
 qbp F quk fun cdv A outer s H E hr=>qai (qaP (qad F_2 rfl (hr.mono (by decide)) rfl (qab (qaa (pv 0)) (qah)))) (qai (qaP (qad F_2 rfl (hr.mono (by decide)) rfl (qab (qaa (pv 1)) (qah)))) (qai (qaP (qad F_6 rfl (hr.mono (by decide)) rfl (qab (qaa (pv 0)) (qah)))) (qal (qaP (qad F_6 rfl (hr.mono (by decide)) rfl (qab (qaa (pv 1)) (qah)))))))
theorem qug:qas ["thing", "greatest"] ["thing", "greatest"] (qaf s_4):=⟨rfl,rfl,rfl,by decide+kernel,rfl,by decide+kernel,by decide+kernel⟩
def d_4:Ro→Rs Out:=dIf (qfs (dTB (qag qmX (qac (dV 0) (qac (dC (.int 0)) (qac (dV 1) (qam))))))) (dNo) (qaN)
def t_4:List T→Rs T:=fnT 2 2 d_4
theorem quv {f:Addr} {fd:FuncData} (F:Fun K "refuse_number_beyond" "refuse_number_beyond" s_4 f fd) (nb: ∀x∈names,mg x=none) (F_10:Kn P w K mg base G C "is_whole_within" ["thing", "least", "greatest"] 2 qmX):qbG P w K mg base CX0 3 f fd ["thing", "greatest"] (spP K G C t_4):=
 qbp F qug fun cdv A outer s H E hr=>qal (qbX (qcO (qcN (qad F_10 rfl (hr.mono (by decide)) rfl (qab (qaa (pv 0)) (qab (qak) (qab (qaa (pv 1)) (qah))))))) (qca) (qaS))
theorem qrt:qas ["rows", "key"] ["rows", "key"] (qaf qqV):=⟨rfl,rfl,rfl,by decide+kernel,rfl,by decide+kernel,by decide+kernel⟩
def qtH:Ro→Rs Out:=qa7 (dFz (qaC 1 [1] (dI (dV 0)) (gN 0) (dTB (dB gEq (dB gIx (dV 0) (dC (.int 1))) (dV 1))) (dV 0)))
def qi2:List T→Rs T:=fnT 2 2 qtH
theorem qsk {f:Addr} {fd:FuncData} (F:Fun K "of_key" "of_key" qqV f fd) (nb: ∀x∈names,mg x=none):qbG P w K mg base CX0 1 f fd ["rows", "key"] (spP K G C qi2):=
 qbp F qrt fun cdv A outer s H E hr=>qal (qaz (qaF (qa2 (own:=["row"]) (fr:=[("key",1)]) rfl (qbf (qaa (pv 0))) (qbo) rfl (by decide+kernel) (by decide+kernel) (RH.fr_ok (sd:=qaf qqV) rfl (by decide+kernel)) (fun p hp=>by simp only[List.mem_cons,List.not_mem_nil,or_false] at hp; subst hp; exact ⟨rfl,rfl⟩) (fun fp s3 H3=>⟨qaW (qar (i:=0) (show (["row", "key"]:List Str).Nodup by decide+kernel) rfl (by first | exact Or.inl rfl | exact Or.inr rfl)),qht (qby (qhy (hu8 hr)) qlI qlO (qa3 qaB qaY qa0 (qaa (pv 0)) (qak) (fun _ _=>rfl)) (qaa (pv 1))),qaa (pv 0)⟩))))
theorem quj:qas ["thing"] ["thing"] (qaf s_1):=⟨rfl,rfl,rfl,by decide+kernel,rfl,by decide+kernel,by decide+kernel⟩
def d_1:Ro→Rs Out:=qa6 (qag t_4 (qac (dV 0) (qac (dC (.int 999)) (qam))))
def t_1:List T→Rs T:=fnT 1 1 d_1
theorem quy {f:Addr} {fd:FuncData} (F:Fun K "refuse_what_is_no_moment" "refuse_what_is_no_moment" s_1 f fd) (nb: ∀x∈names,mg x=none) {u_11:Value} (cm_11:mg "LATEST_MOMENT" =some u_11) (cr_11:RelV (.int 999) u_11) (F_4:Kn P w K mg base G C "refuse_number_beyond" ["thing", "greatest"] 3 t_4):qbG P w K mg base CX0 4 f fd ["thing"] (spP K G C t_1):=
 qbp F quj fun cdv A outer s H E hr=>qal (qaP (qad F_4 rfl (hr.mono (by decide)) rfl (qab (qaa (pv 0)) (qab (qb6 (qdj rfl cm_11 cr_11) (fun _=>qbs)) (qah)))))
theorem qrq:qas ["rows", "moment", "numbers", "row"] ["rows", "moment"] (qaf s_7):=⟨rfl,rfl,rfl,by decide+kernel,rfl,by decide+kernel,by decide+kernel⟩
def d_7:Ro→Rs Out:=qaM (qkT 2) (qaM (qiQ (dI (dV 0)) (gN 3) (dIf (dTB (dB gLe (dB gIx (dV 3) (dC (.int 0))) (dV 1))) (qf7 2 (dB gIx (dV 3) (dC (.int 1))) (dB gIx (dV 3) (dC (.int 2)))) (qaN))) ((fun ρ=>(qa7 (dV 2)) (frzD 2 ρ))))
def t_7:List T→Rs T:=fnT 2 4 d_7
theorem qus {f:Addr} {fd:FuncData} (F:Fun K "numbers_standing" "numbers_standing" s_7 f fd) (nb: ∀x∈names,mg x=none):qbG P w K mg base CX0 1 f fd ["rows", "moment"] (spP K G C t_7):=
 qbp F qrq fun cdv A outer s H E hr=>qai (qkC (i:=2) qrq.nd rfl (by first | exact Or.inl rfl | exact Or.inr rfl)) (qai (qeM PassesOwn.never rfl (qbf (qaa (pv 0))) (qaW (qar (i:=3) qrq.nd rfl (by first | exact Or.inl rfl | exact Or.inr rfl))) (qal (qbX (qby qbP qdz qdA (qa3 qaB qaY qa0 (qaa (pv 3)) (qak) (fun _ _=>rfl)) (qaa (pv 1))) (qal (qkE (hu1 hr) (pv 2) (qa3 qaB qaY qa0 (qaa (pv 3)) (qak) (fun _ _=>rfl)) (qa3 qaB qaY qa0 (qaa (pv 3)) (qak) (fun _ _=>rfl)))) (qaS)))) (qal (qos 2 (qaz (qaa (pv 2))))))
theorem qrE:qas ["rows", "moment"] ["rows", "moment"] (qaf qrV):=⟨rfl,rfl,rfl,by decide+kernel,rfl,by decide+kernel,by decide+kernel⟩
def qtW:Ro→Rs Out:=qaM (qa6 (qag t_3 (qac (dV 0) (qam)))) (qaM (qa6 (qag t_1 (qac (dV 1) (qam)))) (qa7 (dFz (qed (dDE (qag t_7 (qac (dV 0) (qac (dV 1) (qam)))))))))
def qi5:List T→Rs T:=fnT 2 2 qtW
theorem qsB {f:Addr} {fd:FuncData} (F:Fun K "at_moment" "at_moment" qrV f fd) (nb: ∀x∈names,mg x=none) (F_7:Kn P w K mg base G C "numbers_standing" ["rows", "moment"] 1 t_7) (F_3:Kn P w K mg base G C "refuse_what_is_no_log" ["rows"] 5 t_3) (F_1:Kn P w K mg base G C "refuse_what_is_no_moment" ["thing"] 4 t_1):qbG P w K mg base CX0 6 f fd ["rows", "moment"] (spP K G C qi5):=
 qbp F qrE fun cdv A outer s H E hr=>qai (qaP (qad F_3 rfl (hr.mono (by decide)) rfl (qab (qaa (pv 0)) (qah)))) (qai (qaP (qad F_1 rfl (hr.mono (by decide)) rfl (qab (qaa (pv 1)) (qah)))) (qal (qaz (qaF (qf4 rfl rfl (nb "sorted" (by decide)) (qqC (qad F_7 rfl (hr.mono (by decide)) rfl (qab (qaa (pv 0)) (qab (qaa (pv 1)) (qah))))))))))
theorem qnF:qas ["rows", "key", "numbers", "row"] ["rows", "key"] (qaf qrN):=⟨rfl,rfl,rfl,by decide+kernel,rfl,by decide+kernel,by decide+kernel⟩
def qtP:Ro→Rs Out:=qaM (qa6 (qag t_3 (qac (dV 0) (qam)))) (qaM (qkT 2) (qaM (qiQ (dI (qag qi2 (qac (dV 0) (qac (dV 1) (qam))))) (gN 3) (qf7 2 (dB gIx (dV 3) (dC (.int 0))) (dB gIx (dV 3) (dC (.int 2))))) (qa7 (dFz (qed (dDV 2))))))
def qi3:List T→Rs T:=fnT 2 4 qtP
theorem qss {f:Addr} {fd:FuncData} (F:Fun K "history" "history" qrN f fd) (nb: ∀x∈names,mg x=none) (F_34:Kn P w K mg base G C "of_key" ["rows", "key"] 1 qi2) (F_3:Kn P w K mg base G C "refuse_what_is_no_log" ["rows"] 5 t_3):qbG P w K mg base CX0 6 f fd ["rows", "key"] (spP K G C qi3):=
 qbp F qnF fun cdv A outer s H E hr=>qai (qaP (qad F_3 rfl (hr.mono (by decide)) rfl (qab (qaa (pv 0)) (qah)))) (qai (qkC (i:=2) qnF.nd rfl (by first | exact Or.inl rfl | exact Or.inr rfl)) (qai (qeM PassesOwn.never rfl (qbf (qad F_34 rfl (hr.mono (by decide)) rfl (qab (qaa (pv 0)) (qab (qaa (pv 1)) (qah))))) (qaW (qar (i:=3) qnF.nd rfl (by first | exact Or.inl rfl | exact Or.inr rfl))) (qal (qkE (hu1 hr) (pv 2) (qa3 qaB qaY qa0 (qaa (pv 3)) (qak) (fun _ _=>rfl)) (qa3 qaB qaY qa0 (qaa (pv 3)) (qak) (fun _ _=>rfl))))) (qal (qaz (qaF (qf4 rfl rfl (nb "sorted" (by decide)) (qcC (pv 2))))))))
theorem qpn:qas ["numbers", "end", "ends"] ["numbers", "end"] (qaf qrJ):=⟨rfl,rfl,rfl,by decide+kernel,rfl,by decide+kernel,by decide+kernel⟩
def qtG:Ro→Rs Out:=qaM (qcH 2 (dFz (qoy (dQF (qaC 1 [] (dI (dFz (qi7 (dQV 0) (dOS (dC (.int 1))) (dON)))) (gN 0) (qcl) (dB gIx (dV 0) (dC (.int 0))))) (dQF (qfm (qac (dV 1) (qam))))))) (qa7 (dCQ qoN (dQF (qaC 2 [] (dIZ (qac (dV 0) (qac (dV 2) (qam)))) (gT 2 (gsC (gN 0) (gsC (gN 1) (gsN)))) (qcl) (dB qll (dB gIx (dV 0) (dC (.int 1))) (dB gSub (dV 1) (dB gIx (dV 0) (dC (.int 0)))))))))
def qoG:List T→Rs T:=fnT 2 3 qtG
theorem qsj {f:Addr} {fd:FuncData} (F:Fun K "weight" "weight" qrJ f fd) (nb: ∀x∈names,mg x=none):qbG P w K mg base CX0 1 f fd ["numbers", "end"] (spP K G C qoG):=
 qbp F qpn fun cdv A outer s H E hr=>qai (qbZ (i:=2) qpn.nd rfl (by first | exact Or.inl rfl | exact Or.inr rfl) (qaF (qnh (qbj (qa2 (own:=["later"]) (fr:=[]) rfl (qbf (qaF (qfj (qbz (pv 0)) (qd7 (qak)) (qd8)))) (qbo) rfl (by decide+kernel) (by decide+kernel) (fun y hy e=>absurd e ((by decide+kernel: ∀y∈_,y.2≠NameKind.free) y hy)) (fun p hp=>nomatch hp) (fun fp s3 H3=>⟨qaW (qar (i:=0) (show (["later"]:List Str).Nodup by decide+kernel) rfl (by first | exact Or.inl rfl | exact Or.inr rfl)),qaQ,qa3 qaB qaY qa0 (qaa (pv 0)) (qak) (fun _ _=>rfl)⟩))) (qbj (qea (qab (qaa (pv 1)) (qah))))))) (qal (qaz (qqx (qaO (qk1 rfl) rfl (nb "sum" (by decide)) qk3 (qau (qbj (qa2 (own:=["stands", "until"]) (fr:=[]) rfl (qkI rfl (nb "zip" (by decide)) (qab (qaa (pv 0)) (qab (qaa (pv 2)) (qah)))) (qiK (qbR (qbo) (qbR (qbo) (qeI)))) rfl (by decide+kernel) (by decide+kernel) (fun y hy e=>absurd e ((by decide+kernel: ∀y∈_,y.2≠NameKind.free) y hy)) (fun p hp=>nomatch hp) (fun fp s3 H3=>⟨qd9 rfl (qaK (qaW (qar (i:=0) (show (["stands", "until"]:List Str).Nodup by decide+kernel) rfl (by first | exact Or.inl rfl | exact Or.inr rfl))) (qaK (qaW (qar (i:=1) (show (["stands", "until"]:List Str).Nodup by decide+kernel) rfl (by first | exact Or.inl rfl | exact Or.inr rfl))) (qcU))),qaQ,qax qd0 qjt qjI (qa3 qaB qaY qa0 (qaa (pv 0)) (qak) (fun _ _=>rfl)) (qax qeB qev qey (qaa (pv 1)) (qa3 qaB qaY qa0 (qaa (pv 0)) (qak) (fun _ _=>rfl)))⟩))) qaR)))))
theorem qrz:qas ["rows", "end"] ["rows", "end"] (qaf qpq):=⟨rfl,rfl,rfl,by decide+kernel,rfl,by decide+kernel,by decide+kernel⟩
def qtO:Ro→Rs Out:=qaM (qa6 (qag t_3 (qac (dV 0) (qam)))) (qaM (qa6 (qag t_1 (qac (dV 1) (qam)))) (qaM (dIf (dTB (dCQ qoY (dQF (qaC 1 [1] (dI (dV 0)) (gN 0) (qcl) (dB gGt (dB gIx (dV 0) (dC (.int 0))) (dV 1)))))) (dNo) (qaN)) (qa7 (dFz (qaC 1 [0,1] (dI (qag qmV (qac (dV 0) (qam)))) (gN 0) (qcl) (qcm (qac (dV 0) (qac (qag qoG (qac (qag qi3 (qac (dV 1) (qac (dV 0) (qam)))) (qac (dV 2) (qam)))) (qam)))))))))
def qoI:List T→Rs T:=fnT 2 2 qtO
theorem qsr {f:Addr} {fd:FuncData} (F:Fun K "weighed" "weighed" qpq f fd) (nb: ∀x∈names,mg x=none) (F_26:Kn P w K mg base G C "history" ["rows", "key"] 6 qi3) (F_25:Kn P w K mg base G C "keys_of" ["rows"] 1 qmV) (F_3:Kn P w K mg base G C "refuse_what_is_no_log" ["rows"] 5 t_3) (F_1:Kn P w K mg base G C "refuse_what_is_no_moment" ["thing"] 4 t_1) (F_35:Kn P w K mg base G C "weight" ["numbers", "end"] 1 qoG):qbG P w K mg base CX0 7 f fd ["rows", "end"] (spP K G C qoI):=
 qbp F qrz fun cdv A outer s H E hr=>qai (qaP (qad F_3 rfl (hr.mono (by decide)) rfl (qab (qaa (pv 0)) (qah)))) (qai (qaP (qad F_1 rfl (hr.mono (by decide)) rfl (qab (qaa (pv 1)) (qah)))) (qai (qbX (qcN (qqB (qaO (qmF rfl) rfl (nb "any" (by decide)) qk4 (qau (qbj (qa2 (own:=["row"]) (fr:=[("end",1)]) rfl (qbf (qaa (pv 0))) (qbo) rfl (by decide+kernel) (by decide+kernel) (RH.fr_ok (sd:=qaf qpq) rfl (by decide+kernel)) (fun p hp=>by simp only[List.mem_cons,List.not_mem_nil,or_false] at hp; subst hp; exact ⟨rfl,rfl⟩) (fun fp s3 H3=>⟨qaW (qar (i:=0) (show (["row", "end"]:List Str).Nodup by decide+kernel) rfl (by first | exact Or.inl rfl | exact Or.inr rfl)),qaQ,qkO qn0 qnI qnS (qa3 qaB qaY qa0 (qaa (pv 0)) (qak) (fun _ _=>rfl)) (qaa (pv 1))⟩))) qaR)))) (qca) (qaS)) (qal (qaz (qaF (qa2 (own:=["key"]) (fr:=[("rows",0),("end",1)]) rfl (qbf (qad F_25 rfl (hr.mono (by decide)) rfl (qab (qaa (pv 0)) (qah)))) (qbo) rfl (by decide+kernel) (by decide+kernel) (RH.fr_ok (sd:=qaf qpq) rfl (by decide+kernel)) (fun p hp=>by simp only[List.mem_cons,List.not_mem_nil,or_false] at hp; rcases hp with rfl | rfl<;>exact ⟨rfl,rfl⟩) (fun fp s3 H3=>⟨qaW (qar (i:=0) (show (["key", "rows", "end"]:List Str).Nodup by decide+kernel) rfl (by first | exact Or.inl rfl | exact Or.inr rfl)),qaQ,qcB (qab (qaa (pv 0)) (qab (qad F_35 rfl (hr.mono (by decide)) rfl (qab (qad F_26 rfl (hr.mono (by decide)) rfl (qab (qaa (pv 1)) (qab (qaa (pv 0)) (qah)))) (qab (qaa (pv 2)) (qah)))) (qah)))⟩)))))))
theorem qrs:qas ["one", "other"] ["one", "other"] (qaf qqU):=⟨rfl,rfl,rfl,by decide+kernel,rfl,by decide+kernel,by decide+kernel⟩
def qtF:Ro→Rs Out:=qaM (qa6 (qag t_0 (qac (dV 0) (qac (dV 1) (qam))))) (qa7 (dFz (qaC 1 [1] (dI (dV 0)) (gN 0) (qcl) (dB qbi (dV 0) (qcm (qac (qb0 (dDE (qag t_7 (qac (dV 1) (qac (dB gIx (dV 0) (dC (.int 0))) (qam))))) (dB gIx (dV 0) (dC (.int 1)))) (qam)))))))
def qnx:List T→Rs T:=fnT 2 2 qtF
theorem qsi {f:Addr} {fd:FuncData} (F:Fun K "beside" "beside" qqU f fd) (nb: ∀x∈names,mg x=none) (F_7:Kn P w K mg base G C "numbers_standing" ["rows", "moment"] 1 t_7) (F_0:Kn P w K mg base G C "refuse_what_are_no_two_logs" ["one", "other"] 5 t_0):qbG P w K mg base CX0 6 f fd ["one", "other"] (spP K G C qnx):=
 qbp F qrs fun cdv A outer s H E hr=>qai (qaP (qad F_0 rfl (hr.mono (by decide)) rfl (qab (qaa (pv 0)) (qab (qaa (pv 1)) (qah))))) (qal (qaz (qaF (qa2 (own:=["row"]) (fr:=[("other",1)]) rfl (qbf (qaa (pv 0))) (qbo) rfl (by decide+kernel) (by decide+kernel) (RH.fr_ok (sd:=qaf qqU) rfl (by decide+kernel)) (fun p hp=>by simp only[List.mem_cons,List.not_mem_nil,or_false] at hp; subst hp; exact ⟨rfl,rfl⟩) (fun fp s3 H3=>⟨qaW (qar (i:=0) (show (["row", "other"]:List Str).Nodup by decide+kernel) rfl (by first | exact Or.inl rfl | exact Or.inr rfl)),qaQ,qax qav qaG qaH (qaa (pv 0)) (qcB (qab (qfl (hu1 hr) (qqC (qad F_7 rfl (hr.mono (by decide)) rfl (qab (qaa (pv 1)) (qab (qa3 qaB qaY qa0 (qaa (pv 0)) (qak) (fun _ _=>rfl)) (qah))))) (qa3 qaB qaY qa0 (qaa (pv 0)) (qak) (fun _ _=>rfl)) ⟨rfl,rfl,rfl,rfl⟩) (qah)))⟩)))))
theorem qnH:qas ["one", "other", "moment", "here", "there"] ["one", "other", "moment"] (qaf qqZ):=⟨rfl,rfl,rfl,by decide+kernel,rfl,by decide+kernel,by decide+kernel⟩
def qtV:Ro→Rs Out:=qaM (qa6 (qag t_0 (qac (dV 0) (qac (dV 1) (qam))))) (qaM (qa6 (qag t_1 (qac (dV 2) (qam)))) (qaM (qcH 3 (qag t_7 (qac (dV 0) (qac (dV 2) (qam))))) (qaM (qcH 4 (qag t_7 (qac (dV 1) (qac (dV 2) (qam))))) (qa7 (dFz (qaC 1 [3,4] (dI (dFz (qh5 (dDV 3) (dDV 4)))) (gN 0) (dTB (dB gNe (qb0 (dDV 1) (dV 0)) (qb0 (dDV 2) (dV 0)))) (dV 0)))))))
def qoM:List T→Rs T:=fnT 3 5 qtV
theorem qsA {f:Addr} {fd:FuncData} (F:Fun K "unlike_at" "unlike_at" qqZ f fd) (nb: ∀x∈names,mg x=none) (F_7:Kn P w K mg base G C "numbers_standing" ["rows", "moment"] 1 t_7) (F_0:Kn P w K mg base G C "refuse_what_are_no_two_logs" ["one", "other"] 5 t_0) (F_1:Kn P w K mg base G C "refuse_what_is_no_moment" ["thing"] 4 t_1):qbG P w K mg base CX0 6 f fd ["one", "other", "moment"] (spP K G C qoM):=
 qbp F qnH fun cdv A outer s H E hr=>qai (qaP (qad F_0 rfl (hr.mono (by decide)) rfl (qab (qaa (pv 0)) (qab (qaa (pv 1)) (qah))))) (qai (qaP (qad F_1 rfl (hr.mono (by decide)) rfl (qab (qaa (pv 2)) (qah)))) (qai (qbZ (i:=3) qnH.nd rfl (by first | exact Or.inl rfl | exact Or.inr rfl) (qad F_7 rfl (hr.mono (by decide)) rfl (qab (qaa (pv 0)) (qab (qaa (pv 2)) (qah))))) (qai (qbZ (i:=4) qnH.nd rfl (by first | exact Or.inl rfl | exact Or.inr rfl) (qad F_7 rfl (hr.mono (by decide)) rfl (qab (qaa (pv 1)) (qab (qaa (pv 2)) (qah))))) (qal (qaz (qaF (qa2 (own:=["key"]) (fr:=[("here",3),("there",4)]) rfl (qbf (qaF (qmz rfl rfl (nb "sorted" (by decide)) rfl (nb "set" (by decide)) (qcC (pv 3)) (qcC (pv 4))))) (qbo) rfl (by decide+kernel) (by decide+kernel) (RH.fr_ok (sd:=qaf qqZ) rfl (by decide+kernel)) (fun p hp=>by simp only[List.mem_cons,List.not_mem_nil,or_false] at hp; rcases hp with rfl | rfl<;>exact ⟨rfl,rfl⟩) (fun fp s3 H3=>⟨qaW (qar (i:=0) (show (["key", "here", "there"]:List Str).Nodup by decide+kernel) rfl (by first | exact Or.inl rfl | exact Or.inr rfl)),qht (qby (op_neT (hu8 hr)) qdS qdY (qfl (hu1 hr) (qcC (pv 1)) (qaa (pv 0)) ⟨rfl,rfl,rfl,rfl⟩) (qfl (hu1 hr) (qcC (pv 2)) (qaa (pv 0)) ⟨rfl,rfl,rfl,rfl⟩)),qaa (pv 0)⟩))))))))
theorem qry:qas ["rows", "begin", "end"] ["rows", "begin", "end"] (qaf qqX):=⟨rfl,rfl,rfl,by decide+kernel,rfl,by decide+kernel,by decide+kernel⟩
def qtN:Ro→Rs Out:=qaM (qa6 (qag t_3 (qac (dV 0) (qam)))) (qaM (qa6 (qag t_1 (qac (dV 1) (qam)))) (qaM (qa6 (qag t_1 (qac (dV 2) (qam)))) (qa7 (dFz (qaC 1 [1,2] (dI (dV 0)) (gN 0) (dTB (qbS gLe gLt (dV 1) (dB gIx (dV 0) (dC (.int 0))) (dV 2))) (dV 0))))))
def qo6:List T→Rs T:=fnT 3 3 qtN
theorem qsq {f:Addr} {fd:FuncData} (F:Fun K "from_to" "from_to" qqX f fd) (nb: ∀x∈names,mg x=none) (F_3:Kn P w K mg base G C "refuse_what_is_no_log" ["rows"] 5 t_3) (F_1:Kn P w K mg base G C "refuse_what_is_no_moment" ["thing"] 4 t_1):qbG P w K mg base CX0 6 f fd ["rows", "begin", "end"] (spP K G C qo6):=
 qbp F qry fun cdv A outer s H E hr=>qai (qaP (qad F_3 rfl (hr.mono (by decide)) rfl (qab (qaa (pv 0)) (qah)))) (qai (qaP (qad F_1 rfl (hr.mono (by decide)) rfl (qab (qaa (pv 1)) (qah)))) (qai (qaP (qad F_1 rfl (hr.mono (by decide)) rfl (qab (qaa (pv 2)) (qah)))) (qal (qaz (qaF (qa2 (own:=["row"]) (fr:=[("begin",1),("end",2)]) rfl (qbf (qaa (pv 0))) (qbo) rfl (by decide+kernel) (by decide+kernel) (RH.fr_ok (sd:=qaf qqX) rfl (by decide+kernel)) (fun p hp=>by simp only[List.mem_cons,List.not_mem_nil,or_false] at hp; rcases hp with rfl | rfl<;>exact ⟨rfl,rfl⟩) (fun fp s3 H3=>⟨qaW (qar (i:=0) (show (["row", "begin", "end"]:List Str).Nodup by decide+kernel) rfl (by first | exact Or.inl rfl | exact Or.inr rfl)),qht (qfh qbP qnZ qdz qdA qrZ qr6 (qaa (pv 1)) (qa3 qaB qaY qa0 (qaa (pv 0)) (qak) (fun _ _=>rfl)) (qaa (pv 2))),qaa (pv 0)⟩)))))))
theorem qpo:qas ["rows", "by", "moved"] ["rows", "by"] (qaf qqW):=⟨rfl,rfl,rfl,by decide+kernel,rfl,by decide+kernel,by decide+kernel⟩
def qtM:Ro→Rs Out:=qaM (qa6 (qag t_3 (qac (dV 0) (qam)))) (qaM (dIf (qfs (dTB (qag qoK (qac (dV 1) (qam))))) (dNo) (qaN)) (qaM (qcH 2 (dFz (qaC 3 [1] (dI (dV 0)) (gT 3 (gsC (gN 0) (gsC (gN 1) (gsC (gN 2) (gsN))))) (qcl) (qcm (qac (dB qbi (dV 0) (dV 3)) (qac (dV 1) (qac (dV 2) (qam)))))))) (qaM (dIf (qfs (dTB (dCQ qln (dQF (qaC 1 [] (dI (dV 2)) (gN 0) (qcl) (qag qlw (qac (dV 0) (qam)))))))) (dNo) (qaN)) (qa7 (dV 2)))))
def qoH:List T→Rs T:=fnT 2 3 qtM
theorem qsp {f:Addr} {fd:FuncData} (F:Fun K "shifted" "shifted" qqW f fd) (nb: ∀x∈names,mg x=none) (F_32:Kn P w K mg base G C "is_row" ["thing"] 3 qlw) (F_21:Kn P w K mg base G C "is_whole" ["thing"] 1 qoK) (F_3:Kn P w K mg base G C "refuse_what_is_no_log" ["rows"] 5 t_3):qbG P w K mg base CX0 6 f fd ["rows", "by"] (spP K G C qoH):=
 qbp F qpo fun cdv A outer s H E hr=>qai (qaP (qad F_3 rfl (hr.mono (by decide)) rfl (qab (qaa (pv 0)) (qah)))) (qai (qbX (qcO (qcN (qad F_21 rfl (hr.mono (by decide)) rfl (qab (qaa (pv 1)) (qah))))) (qca) (qaS)) (qai (qcT (i:=2) (own:=["moment", "key", "number"]) (fr:=[("by",1)]) rfl (qbf (qaa (pv 0))) (qiK (qbR (qbo) (qbR (qbo) (qbR (qbo) (qeI))))) rfl (by decide+kernel) (by decide+kernel) (RH.fr_ok (sd:=qaf qqW) rfl (by decide+kernel)) (fun p hp=>by simp only[List.mem_cons,List.not_mem_nil,or_false] at hp; subst hp; exact ⟨rfl,rfl⟩) (fun fp s3 H3=>⟨qd9 rfl (qaK (qaW (qar (i:=0) (show (["moment", "key", "number", "by"]:List Str).Nodup by decide+kernel) rfl (by first | exact Or.inl rfl | exact Or.inr rfl))) (qaK (qaW (qar (i:=1) (show (["moment", "key", "number", "by"]:List Str).Nodup by decide+kernel) rfl (by first | exact Or.inl rfl | exact Or.inr rfl))) (qaK (qaW (qar (i:=2) (show (["moment", "key", "number", "by"]:List Str).Nodup by decide+kernel) rfl (by first | exact Or.inl rfl | exact Or.inr rfl))) (qcU)))),qaQ,qcB (qab (qax qav qaG qaH (qaa (pv 0)) (qaa (pv 3))) (qab (qaa (pv 1)) (qab (qaa (pv 2)) (qah))))⟩) qpo.nd rfl rfl) (qai (qbX (qcO (qcN (qh4 (qaO (qdL rfl) rfl (nb "all" (by decide)) qdM (qau (qbj (qa2 (own:=["row"]) (fr:=[]) rfl (qbf (qaa (pv 2))) (qbo) rfl (by decide+kernel) (by decide+kernel) (fun y hy e=>absurd e ((by decide+kernel: ∀y∈_,y.2≠NameKind.free) y hy)) (fun p hp=>nomatch hp) (fun fp s3 H3=>⟨qaW (qar (i:=0) (show (["row"]:List Str).Nodup by decide+kernel) rfl (by first | exact Or.inl rfl | exact Or.inr rfl)),qaQ,qad F_32 rfl (hr.mono (by decide)) rfl (qab (qaa (pv 0)) (qah))⟩))) qaR))))) (qca) (qaS)) (qal (qaz (qaa (pv 2)))))))
theorem qrr:qas ["stretch", "moment", "number"] ["stretch", "moment", "number"] (qaf qrI):=⟨rfl,rfl,rfl,by decide+kernel,rfl,by decide+kernel,by decide+kernel⟩
def qtE:Ro→Rs Out:=qa7 (qcm (qac (dB gIx (dV 0) (dC (.int 0))) (qac (dB gIx (dV 0) (dC (.int 1))) (qac (dV 1) (qac (dB qbi (dB gIx (dV 0) (dC (.int 3))) (dC (.int 1))) (qac (dB qbi (dB gIx (dV 0) (dC (.int 4))) (dV 2)) (qam)))))))
def qoF:List T→Rs T:=fnT 3 3 qtE
theorem qsh {f:Addr} {fd:FuncData} (F:Fun K "longer" "longer" qrI f fd) (nb: ∀x∈names,mg x=none):qbG P w K mg base CX0 1 f fd ["stretch", "moment", "number"] (spP K G C qoF):=
 qbp F qrr fun cdv A outer s H E hr=>qal (qaz (qcB (qab (qa3 qaB qaY qa0 (qaa (pv 0)) (qak) (fun _ _=>rfl)) (qab (qa3 qaB qaY qa0 (qaa (pv 0)) (qak) (fun _ _=>rfl)) (qab (qaa (pv 1)) (qab (qax qav qaG qaH (qa3 qaB qaY qa0 (qaa (pv 0)) (qak) (fun _ _=>rfl)) (qak)) (qab (qax qav qaG qaH (qa3 qaB qaY qa0 (qaa (pv 0)) (qak) (fun _ _=>rfl)) (qaa (pv 2))) (qah))))))))
theorem qpl:qas ["rows", "gap", "told", "moment", "key", "number"] ["rows", "gap"] (qaf s_5):=⟨rfl,rfl,rfl,by decide+kernel,rfl,by decide+kernel,by decide+kernel⟩
def d_5:Ro→Rs Out:=qaM (qg5 2 (qfm (qam))) (qaM (qiQ (dI (dV 0)) (gT 3 (gsC (gN 3) (gsC (gN 4) (gsC (gN 5) (gsN))))) (dIf (qoV (dTB (dB gGt (dCQ qoP (dQV 2)) (dC (.int 0)))) (dTB (dB gLe (dB gSub (dV 3) (dB gIx (qno (dQV 2) (qdB (dC (.int 1)))) (dC (.int 2)))) (dV 1)))) (qq8 2 (qdB (dC (.int 1))) (qag qoF (qac (qno (dQV 2) (qdB (dC (.int 1)))) (qac (dV 3) (qac (dV 5) (qam)))))) (qmA 2 (qcm (qac (dV 4) (qac (dV 3) (qac (dV 3) (qac (dC (.int 1)) (qac (dV 5) (qam)))))))))) ((fun ρ=>(qa7 (dV 2)) (frz 2 ρ))))
def t_5:List T→Rs T:=fnT 2 6 d_5
theorem quu {f:Addr} {fd:FuncData} (F:Fun K "stretches_of_one_key" "stretches_of_one_key" s_5 f fd) (nb: ∀x∈names,mg x=none) (F_37:Kn P w K mg base G C "longer" ["stretch", "moment", "number"] 1 qoF):qbG P w K mg base CX0 2 f fd ["rows", "gap"] (spP K G C t_5):=
 qbp F qpl fun cdv A outer s H E hr=>qai (qg0 (i:=2) qpl.nd rfl (by first | exact Or.inl rfl | exact Or.inr rfl) (qea (qah))) (qai (qeM PassesOwn.never rfl (qbf (qaa (pv 0))) (qd9 rfl (qaK (qaW (qar (i:=3) qpl.nd rfl (by first | exact Or.inl rfl | exact Or.inr rfl))) (qaK (qaW (qar (i:=4) qpl.nd rfl (by first | exact Or.inl rfl | exact Or.inr rfl))) (qaK (qaW (qar (i:=5) qpl.nd rfl (by first | exact Or.inl rfl | exact Or.inr rfl))) (qcU))))) (qal (qbX (qqq (qqp (qby qn0 qnI qnS (qqA (qaO qdv rfl (nb "len" (by decide)) PySem.boot_len (qau (qbz (pv 2)) qaR))) (qak)) (qoq (qby qbP qdz qdA (qax qeB qev qey (qaa (pv 3)) (qa3 qaB qaY qa0 (qnl (qbz (pv 2)) (qf5 (qak)) (fun _ _=>rfl)) (qak) (fun _ _=>rfl))) (qaa (pv 1)))))) (qal (qqr (ppos:=⟨0,0,0,0⟩) (pv 2) (qf5 (qak)) (qad F_37 rfl (hr.mono (by decide)) rfl (qab (qnl (qbz (pv 2)) (qf5 (qak)) (fun _ _=>rfl)) (qab (qaa (pv 3)) (qab (qaa (pv 5)) (qah))))) (qpN (pv 2) (qf5 (qak)) qlC))) (qal (qf2 (qnX PySem.F.plainAttrs_list PySem.F.slot_list_append PySem.F.type_list_append qd1 (pv 2) (qau (qcB (qab (qaa (pv 4)) (qab (qaa (pv 3)) (qab (qaa (pv 3)) (qab (qak) (qab (qaa (pv 5)) (qah))))))) qaR))))))) (qal (qnf 2 (qaz (qaa (pv 2))))))
theorem qnG:qas ["rows", "gap", "told", "key"] ["rows", "gap"] (qaf qm3):=⟨rfl,rfl,rfl,by decide+kernel,rfl,by decide+kernel,by decide+kernel⟩
def qtU:Ro→Rs Out:=qaM (qa6 (qag t_3 (qac (dV 0) (qam)))) (qaM (qa6 (qag t_4 (qac (dV 1) (qac (dC (.int 99)) (qam))))) (qaM (qg5 2 (qfm (qam))) (qaM (qiQ (dI (qag qmV (qac (dV 0) (qam)))) (gN 3) (qra 2 (dQ (qag t_5 (qac (qag qi2 (qac (dV 0) (qac (dV 3) (qam)))) (qac (dV 1) (qam))))))) (qa7 (dFz (qlm (qcP 1 0) (dQV 2)))))))
def qi4:List T→Rs T:=fnT 2 4 qtU
theorem qsz {f c T_17 T_30:Addr} {oc kV doc pm cdv ct:Value} {od an:Option Addr} {osl:Array (Option Value)}
  (lk:K.lookup f=some ⟨oc,od,.func (PySem.W.fnOf "stretches" "stretches" (qbc qm3) (qaX qm3) (qaf qm3) .none kV doc pm an cdv ct),osl⟩) (hcd:PySem.W.codeIn K cdv "stretches" =true) (hc:cdv= .ref c)
  (nb: ∀x∈names,mg x=none) (C0:PySem.W.CodeHd base c T_17) (hb:qgm mg base) (nd:([T_17,T_30]:List Addr).Nodup) {u_12:Value} (cm_12:mg "GREATEST_GAP" =some u_12) (cr_12:RelV (.int 99) u_12) (F_25:Kn P w K mg base (gL T_17 T_30) C "keys_of" ["rows"] 1 qmV) (F_34:Kn P w K mg base (gL T_17 T_30) C "of_key" ["rows", "key"] 1 qi2) (F_4:Kn P w K mg base (gL T_17 T_30) C "refuse_number_beyond" ["thing", "greatest"] 3 t_4) (F_3:Kn P w K mg base (gL T_17 T_30) C "refuse_what_is_no_log" ["rows"] 5 t_3) (F_5:Kn P w K mg base (gL T_17 T_30) C "stretches_of_one_key" ["rows", "gap"] 2 t_5):
  qbG P w K mg base CX0 6 f (PySem.W.fnOf "stretches" "stretches" (qbc qm3) (qaX qm3) (qaf qm3) .none kV doc pm an cdv ct) ["rows", "gap"] (spP K (gL T_17 T_30) C qi4):=by
 refine qom lk hcd qnG (fun vs H Q E h=>qgs h) (fun A outer s H vs Q E hr h=> ?_)
 refine ⟨_,PSs.nox (qai (M:=⟨K,(gL T_17 T_30),E,C⟩) (qaP (qad F_3 rfl (hr.mono (by decide)) rfl (qab (qaa (pv 0)) (qah)))) (qai (qaP (qad F_4 rfl (hr.mono (by decide)) rfl (qab (qaa (pv 1)) (qab (qb6 (qdj rfl cm_12 cr_12) (fun _=>qbs)) (qah))))) (qai (qg0 (i:=2) qnG.nd rfl (by first | exact Or.inl rfl | exact Or.inr rfl) (qea (qah))) (qai (qeM PassesOwn.never rfl (qbf (qad F_25 rfl (hr.mono (by decide)) rfl (qab (qaa (pv 0)) (qah)))) (qaW (qar (i:=3) qnG.nd rfl (by first | exact Or.inl rfl | exact Or.inr rfl))) (qal (qkD (qnX PySem.F.plainAttrs_list PySem.F.slot_list_extend PySem.F.type_list_extend qjX (pv 2) (qau (qqs (qad F_5 rfl (hr.mono (by decide)) rfl (qab (qad F_34 rfl (hr.mono (by decide)) rfl (qab (qaa (pv 0)) (qab (qaa (pv 3)) (qah)))) (qab (qaa (pv 1)) (qah))))) qaR))))) (qal (qaz (qaF (qkL (P:=T_17) (qual:=qdW) (i:=1) (j:=0) (qbz (pv 2)) rfl (nb "sorted" (by decide)) PyProof.Rows.boot_sorted hc C0 hb (by decide+kernel) rfl (show ("stretches" :Str)++ ".<locals>." ++ "<lambda>" =qdW by decide+kernel) rfl rfl rfl rfl (by decide+kernel) (by decide) (fun pm cv ctv v=>rfl) (hr.mono (by decide)) (qhQ (by simp)) (qeJ (by simp) nd))))))))),?_⟩
 exact qfb (n:=2) (N:=["rows", "gap", "told", "key"]) (by decide) h
theorem qrC:qas ["rows", "gap", "moment"] ["rows", "gap", "moment"] (qaf qqY):=⟨rfl,rfl,rfl,by decide+kernel,rfl,by decide+kernel,by decide+kernel⟩
def qtS:Ro→Rs Out:=qa7 (dFz (qlm qim (dQF (qaC 1 [2,1] (dI (qag qi4 (qac (dV 0) (qac (dV 1) (qam))))) (gN 0) (dTB (qbS gLe gLe (dB gIx (dV 0) (dC (.int 1))) (dV 1) (dB qbi (dB gIx (dV 0) (dC (.int 2))) (dV 2)))) (dB gIx (dV 0) (dC (.int 0)))))))
def qoJ:List T→Rs T:=fnT 3 3 qtS
theorem qsw {f:Addr} {fd:FuncData} (F:Fun K "going_on" "going_on" qqY f fd) (nb: ∀x∈names,mg x=none) (F_17:Kn P w K mg base G C "stretches" ["rows", "gap"] 6 qi4):qbG P w K mg base CX0 7 f fd ["rows", "gap", "moment"] (spP K G C qoJ):=
 qbp F qrC fun cdv A outer s H E hr=>qal (qaz (qaF (qkK (qaO qgd rfl (nb "sorted" (by decide)) boot_sorted (qau (qbj (qa2 (own:=["stretch"]) (fr:=[("moment",2),("gap",1)]) rfl (qbf (qad F_17 rfl (hr.mono (by decide)) rfl (qab (qaa (pv 0)) (qab (qaa (pv 1)) (qah))))) (qbo) rfl (by decide+kernel) (by decide+kernel) (RH.fr_ok (sd:=qaf qqY) rfl (by decide+kernel)) (fun p hp=>by simp only[List.mem_cons,List.not_mem_nil,or_false] at hp; rcases hp with rfl | rfl<;>exact ⟨rfl,rfl⟩) (fun fp s3 H3=>⟨qaW (qar (i:=0) (show (["stretch", "moment", "gap"]:List Str).Nodup by decide+kernel) rfl (by first | exact Or.inl rfl | exact Or.inr rfl)),qht (qfh qbP qbP qdz qdA qdz qdA (qa3 qaB qaY qa0 (qaa (pv 0)) (qak) (fun _ _=>rfl)) (qaa (pv 1)) (qax qav qaG qaH (qa3 qaB qaY qa0 (qaa (pv 0)) (qak) (fun _ _=>rfl)) (qaa (pv 2)))),qa3 qaB qaY qa0 (qaa (pv 0)) (qak) (fun _ _=>rfl)⟩))) qaR)))))
theorem qrx:qas ["rows", "gap"] ["rows", "gap"] (qaf qm2):=⟨rfl,rfl,rfl,by decide+kernel,rfl,by decide+kernel,by decide+kernel⟩
def qtL:Ro→Rs Out:=qa7 (dCQ (qoa 2 1) (dQ (qag qi4 (qac (dV 0) (qac (dV 1) (qam))))))
def qmU:List T→Rs T:=fnT 2 2 qtL
theorem qso {f c T_17 T_30:Addr} {oc kV doc pm cdv ct:Value} {od an:Option Addr} {osl:Array (Option Value)}
  (lk:K.lookup f=some ⟨oc,od,.func (PySem.W.fnOf "longest" "longest" (qbc qm2) (qaX qm2) (qaf qm2) .none kV doc pm an cdv ct),osl⟩) (hcd:PySem.W.codeIn K cdv "longest" =true) (hc:cdv= .ref c)
  (nb: ∀x∈names,mg x=none) (C0:PySem.W.CodeHd base c T_30) (hb:qgm mg base) (nd:([T_17,T_30]:List Addr).Nodup) (F_17:Kn P w K mg base (gL T_17 T_30) C "stretches" ["rows", "gap"] 6 qi4):
  qbG P w K mg base CX0 7 f (PySem.W.fnOf "longest" "longest" (qbc qm2) (qaX qm2) (qaf qm2) .none kV doc pm an cdv ct) ["rows", "gap"] (spP K (gL T_17 T_30) C qmU):=by
 refine qom lk hcd qrx (fun vs H Q E h=>qgs h) (fun A outer s H vs Q E hr h=> ?_)
 refine ⟨_,PSs.nox (qal (M:=⟨K,(gL T_17 T_30),E,C⟩) (qaz (qov (P:=T_30) (qual:=qdV) (i:=2) (j:=1) (qqs (qad F_17 rfl (hr.mono (by decide)) rfl (qab (qaa (pv 0)) (qab (qaa (pv 1)) (qah))))) rfl (nb "max" (by decide)) qeg rfl hc C0 hb (by decide+kernel) rfl (show ("longest" :Str)++ ".<locals>." ++ "<lambda>" =qdV by decide+kernel) rfl rfl rfl rfl (by decide+kernel) (by decide) (fun pm cv ctv v=>rfl) (hr.mono (by decide)) (qhQ (by simp)) (qeJ (by simp) nd)))),?_⟩
 exact qfb (n:=2) (N:=["rows", "gap"]) (by decide) h
theorem qpm:qas ["rows", "key", "moments"] ["rows", "key"] (qaf qrH):=⟨rfl,rfl,rfl,by decide+kernel,rfl,by decide+kernel,by decide+kernel⟩
def qtD:Ro→Rs Out:=qaM (qa6 (qag t_3 (qac (dV 0) (qam)))) (qaM (qcH 2 (dFz (qaC 1 [] (dI (qag qi2 (qac (dV 0) (qac (dV 1) (qam))))) (gN 0) (qcl) (dB gIx (dV 0) (dC (.int 0)))))) (qa7 (dFz (qaC 2 [] (dIZ (qac (dV 2) (qac (dFz (qi7 (dQV 2) (dOS (dC (.int 1))) (dON))) (qam)))) (gT 2 (gsC (gN 0) (gsC (gN 1) (gsN)))) (qcl) (dB gSub (dV 1) (dV 0))))))
def qmT:List T→Rs T:=fnT 2 3 qtD
theorem qsg {f:Addr} {fd:FuncData} (F:Fun K "pauses" "pauses" qrH f fd) (nb: ∀x∈names,mg x=none) (F_34:Kn P w K mg base G C "of_key" ["rows", "key"] 1 qi2) (F_3:Kn P w K mg base G C "refuse_what_is_no_log" ["rows"] 5 t_3):qbG P w K mg base CX0 6 f fd ["rows", "key"] (spP K G C qmT):=
 qbp F qpm fun cdv A outer s H E hr=>qai (qaP (qad F_3 rfl (hr.mono (by decide)) rfl (qab (qaa (pv 0)) (qah)))) (qai (qcT (i:=2) (own:=["row"]) (fr:=[]) rfl (qbf (qad F_34 rfl (hr.mono (by decide)) rfl (qab (qaa (pv 0)) (qab (qaa (pv 1)) (qah))))) (qbo) rfl (by decide+kernel) (by decide+kernel) (fun y hy e=>absurd e ((by decide+kernel: ∀y∈_,y.2≠NameKind.free) y hy)) (fun p hp=>nomatch hp) (fun fp s3 H3=>⟨qaW (qar (i:=0) (show (["row"]:List Str).Nodup by decide+kernel) rfl (by first | exact Or.inl rfl | exact Or.inr rfl)),qaQ,qa3 qaB qaY qa0 (qaa (pv 0)) (qak) (fun _ _=>rfl)⟩) qpm.nd rfl rfl) (qal (qaz (qaF (qa2 (own:=["earlier", "later"]) (fr:=[]) rfl (qkI rfl (nb "zip" (by decide)) (qab (qaa (pv 2)) (qab (qaF (qfj (qbz (pv 2)) (qd7 (qak)) (qd8))) (qah)))) (qiK (qbR (qbo) (qbR (qbo) (qeI)))) rfl (by decide+kernel) (by decide+kernel) (fun y hy e=>absurd e ((by decide+kernel: ∀y∈_,y.2≠NameKind.free) y hy)) (fun p hp=>nomatch hp) (fun fp s3 H3=>⟨qd9 rfl (qaK (qaW (qar (i:=0) (show (["earlier", "later"]:List Str).Nodup by decide+kernel) rfl (by first | exact Or.inl rfl | exact Or.inr rfl))) (qaK (qaW (qar (i:=1) (show (["earlier", "later"]:List Str).Nodup by decide+kernel) rfl (by first | exact Or.inl rfl | exact Or.inr rfl))) (qcU))),qaQ,qax qeB qev qey (qaa (pv 1)) (qaa (pv 0))⟩))))))
theorem qlF:qas ["_law_script", "_law_at", "_law_letters", "_law_way", "_law_key_here"] ["_law_script", "_law_at"] (qaf qrQ):=⟨rfl,rfl,rfl,by decide+kernel,rfl,by decide+kernel,by decide+kernel⟩
def qq7:Ro→Rs Out:=qaM (qcH 2 (dC (.str "abcdefghijklmnopqrstuvwxyz"))) (qaM (qcH 3 (qag qdE (qac (dV 0) (qac (dV 1) (qac (dC (.int 16)) (qam)))))) (qaM (dIf (dTB (dB gGt (dV 3) (dC (.int 0)))) (qa7 (dB gIx (dFz (qfm (qac (dC (.str "a")) (qac (dC (.str "b")) (qac (dC (.str "ab")) (qam)))))) (dB qoS (dV 3) (dC (.int 3))))) (qaN)) (qaM (qcH 4 (dB gIx (dV 2) (qag qdE (qac (dV 0) (qac (dB qbi (dV 1) (dC (.int 1))) (qac (dC (.int 26)) (qam))))))) (qaM (dIf (dTB (dB gEq (qag qdE (qac (dV 0) (qac (dB qbi (dV 1) (dC (.int 2))) (qac (dC (.int 2)) (qam))))) (dC (.int 0)))) (qa7 (dV 4)) (qaN)) (qa7 (dB qbi (dV 4) (dB gIx (dV 2) (qag qdE (qac (dV 0) (qac (dB qbi (dV 1) (dC (.int 3))) (qac (dC (.int 26)) (qam))))))))))))
def qmW:List T→Rs T:=fnT 2 5 qq7
theorem qsv {f:Addr} {fd:FuncData} (F:Fun K "_law_key" "_law_key" qrQ f fd) (nb: ∀x∈names,mg x=none) (F_19:Kn P w K mg base G C "_law_pick" ["_law_script", "_law_k", "_law_many"] 2 qdE):qbG P w K mg base CX0 3 f fd ["_law_script", "_law_at"] (spP K G C qmW):=
 qbp F qlF fun cdv A outer s H E hr=>qai (qbZ (i:=2) qlF.nd rfl (by first | exact Or.inl rfl | exact Or.inr rfl) (qde)) (qai (qbZ (i:=3) qlF.nd rfl (by first | exact Or.inl rfl | exact Or.inr rfl) (qad F_19 rfl (hr.mono (by decide)) rfl (qab (qaa (pv 0)) (qab (qaa (pv 1)) (qab (qak) (qah)))))) (qai (qbX (qby qn0 qnI qnS (qaa (pv 3)) (qak)) (qal (qaz (qa3 qaB qaY qa0 (qaF (qea (qab (qde) (qab (qde) (qab (qde) (qah)))))) (qax qfK qpu qpJ (qaa (pv 3)) (qak)) (fun _ _=>rfl)))) (qaS)) (qai (qbZ (i:=4) qlF.nd rfl (by first | exact Or.inl rfl | exact Or.inr rfl) (qa3 qaB qaY qa0 (qaa (pv 2)) (qad F_19 rfl (hr.mono (by decide)) rfl (qab (qaa (pv 0)) (qab (qax qav qaG qaH (qaa (pv 1)) (qak)) (qab (qak) (qah))))) (fun _ _=>rfl))) (qai (qbX (qby (qhy (hu8 hr)) qlI qlO (qad F_19 rfl (hr.mono (by decide)) rfl (qab (qaa (pv 0)) (qab (qax qav qaG qaH (qaa (pv 1)) (qak)) (qab (qak) (qah))))) (qak)) (qal (qaz (qaa (pv 4)))) (qaS)) (qal (qaz (qax qav qaG qaH (qaa (pv 4)) (qa3 qaB qaY qa0 (qaa (pv 2)) (qad F_19 rfl (hr.mono (by decide)) rfl (qab (qaa (pv 0)) (qab (qax qav qaG qaH (qaa (pv 1)) (qak)) (qab (qak) (qah))))) (fun _ _=>rfl)))))))))
theorem qrF:qas ["_law_script", "_law_at", "_law_most"] ["_law_script", "_law_at", "_law_most"] (qaf qrW):=⟨rfl,rfl,rfl,by decide+kernel,rfl,by decide+kernel,by decide+kernel⟩
def qsY:Ro→Rs Out:=qaM (dIf (dTB (dB gEq (qag qdE (qac (dV 0) (qac (dV 1) (qac (dC (.int 8)) (qam))))) (dC (.int 0)))) (qa7 (dB gSub (qag qdE (qac (dV 0) (qac (dB qbi (dV 1) (dC (.int 1))) (qac (dB qbi (dB qll (dC (.int 2)) (dV 2)) (dC (.int 1))) (qam))))) (dV 2))) (qaN)) (qa7 (dB gSub (qag qdE (qac (dV 0) (qac (dB qbi (dV 1) (dC (.int 1))) (qac (dC (.int 9)) (qam))))) (dC (.int 4))))
def qny:List T→Rs T:=fnT 3 3 qsY
theorem qsC {f:Addr} {fd:FuncData} (F:Fun K "_law_number" "_law_number" qrW f fd) (nb: ∀x∈names,mg x=none) (F_19:Kn P w K mg base G C "_law_pick" ["_law_script", "_law_k", "_law_many"] 2 qdE):qbG P w K mg base CX0 3 f fd ["_law_script", "_law_at", "_law_most"] (spP K G C qny):=
 qbp F qrF fun cdv A outer s H E hr=>qai (qbX (qby (qhy (hu8 hr)) qlI qlO (qad F_19 rfl (hr.mono (by decide)) rfl (qab (qaa (pv 0)) (qab (qaa (pv 1)) (qab (qak) (qah))))) (qak)) (qal (qaz (qax qeB qev qey (qad F_19 rfl (hr.mono (by decide)) rfl (qab (qaa (pv 0)) (qab (qax qav qaG qaH (qaa (pv 1)) (qak)) (qab (qax qav qaG qaH (qax qd0 qjt qjI (qak) (qaa (pv 2))) (qak)) (qah))))) (qaa (pv 2))))) (qaS)) (qal (qaz (qax qeB qev qey (qad F_19 rfl (hr.mono (by decide)) rfl (qab (qaa (pv 0)) (qab (qax qav qaG qaH (qaa (pv 1)) (qak)) (qab (qak) (qah))))) (qak))))
theorem qgu:qas ["_law_script", "_law_at", "_law_most", "_law_made", "_law_moment", "_law_far", "_law_k", "_law_base"] ["_law_script", "_law_at", "_law_most"] (qaf qrS):=⟨rfl,rfl,rfl,by decide+kernel,rfl,by decide+kernel,by decide+kernel⟩
def qtT:Ro→Rs Out:=qaM (qg5 3 (qfm (qam))) (qaM (qcH 4 (qag qdE (qac (dV 0) (qac (dV 1) (qac (dC (.int 9)) (qam)))))) (qaM (qcH 5 (dB gIx (dFz (qfm (qac (dC (.int 1)) (qac (dC (.int 3)) (qac (dC (.int 6)) (qac (dC (.int 14)) (qam))))))) (qag qdE (qac (dV 0) (qac (dB qbi (dV 1) (dC (.int 1))) (qac (dC (.int 4)) (qam))))))) (qaM (qiQ (qsZ (qac (qag qdE (qac (dV 0) (qac (dB qbi (dV 1) (dC (.int 2))) (qac (dB qbi (dV 2) (dC (.int 1))) (qam))))) (qam))) (gN 6) (qaM (qcH 7 (dB qbi (dB qbi (dV 1) (dC (.int 10))) (dB qll (dC (.int 8)) (dV 6)))) (qaM (qcH 4 (dB2 qq3 (dC (.int 99)) (dB qbi (dV 4) (qag qdE (qac (dV 0) (qac (dV 7) (qac (dV 5) (qam)))))))) (qmA 3 (qcm (qac (dV 4) (qac (qag qmW (qac (dV 0) (qac (dB qbi (dV 7) (dC (.int 1))) (qam)))) (qac (qag qny (qac (dV 0) (qac (dB qbi (dV 7) (dC (.int 5))) (qac (dC (.int 99)) (qam))))) (qam))))))))) ((fun ρ=>(qa7 (dV 3)) (frz 3 ρ))))))
def qoL:List T→Rs T:=fnT 3 8 qtT
theorem qsy {f:Addr} {fd:FuncData} (F:Fun K "_law_rows" "_law_rows" qrS f fd) (nb: ∀x∈names,mg x=none) (F_23:Kn P w K mg base G C "_law_key" ["_law_script", "_law_at"] 3 qmW) (F_14:Kn P w K mg base G C "_law_number" ["_law_script", "_law_at", "_law_most"] 3 qny) (F_19:Kn P w K mg base G C "_law_pick" ["_law_script", "_law_k", "_law_many"] 2 qdE):qbG P w K mg base CX0 4 f fd ["_law_script", "_law_at", "_law_most"] (spP K G C qoL):=
 qbp F qgu fun cdv A outer s H E hr=>qai (qg0 (i:=3) qgu.nd rfl (by first | exact Or.inl rfl | exact Or.inr rfl) (qea (qah))) (qai (qbZ (i:=4) qgu.nd rfl (by first | exact Or.inl rfl | exact Or.inr rfl) (qad F_19 rfl (hr.mono (by decide)) rfl (qab (qaa (pv 0)) (qab (qaa (pv 1)) (qab (qak) (qah)))))) (qai (qbZ (i:=5) qgu.nd rfl (by first | exact Or.inl rfl | exact Or.inr rfl) (qa3 qaB qaY qa0 (qaF (qea (qab (qak) (qab (qak) (qab (qak) (qab (qak) (qah))))))) (qad F_19 rfl (hr.mono (by decide)) rfl (qab (qaa (pv 0)) (qab (qax qav qaG qaH (qaa (pv 1)) (qak)) (qab (qak) (qah))))) (fun _ _=>rfl))) (qai (qeM PassesOwn.never rfl (qkJ rfl (nb "range" (by decide)) (qab (qad F_19 rfl (hr.mono (by decide)) rfl (qab (qaa (pv 0)) (qab (qax qav qaG qaH (qaa (pv 1)) (qak)) (qab (qax qav qaG qaH (qaa (pv 2)) (qak)) (qah))))) (qah))) (qaW (qar (i:=6) qgu.nd rfl (by first | exact Or.inl rfl | exact Or.inr rfl))) (qai (qbZ (i:=7) qgu.nd rfl (by first | exact Or.inl rfl | exact Or.inr rfl) (qax qav qaG qaH (qax qav qaG qaH (qaa (pv 1)) (qak)) (qax qd0 qjt qjI (qak) (qaa (pv 6))))) (qai (qbZ (i:=4) qgu.nd rfl (by first | exact Or.inl rfl | exact Or.inr rfl) (qqz (qaO (qk2 rfl) rfl (nb "min" (by decide)) qmG (qau (qak) (qau (qax qav qaG qaH (qaa (pv 4)) (qad F_19 rfl (hr.mono (by decide)) rfl (qab (qaa (pv 0)) (qab (qaa (pv 7)) (qab (qaa (pv 5)) (qah)))))) qaR))))) (qal (qf2 (qnX PySem.F.plainAttrs_list PySem.F.slot_list_append PySem.F.type_list_append qd1 (pv 3) (qau (qcB (qab (qaa (pv 4)) (qab (qad F_23 rfl (hr.mono (by decide)) rfl (qab (qaa (pv 0)) (qab (qax qav qaG qaH (qaa (pv 7)) (qak)) (qah)))) (qab (qad F_14 rfl (hr.mono (by decide)) rfl (qab (qaa (pv 0)) (qab (qax qav qaG qaH (qaa (pv 7)) (qak)) (qab (qak) (qah))))) (qah))))) qaR))))))) (qal (qnf 3 (qaz (qaa (pv 3))))))))
theorem qcJ:qas ["_law_script", "_law_rows_here", "_law_other", "_law_moments", "_law_by", "_law_made", "_law_there", "_law_gap", "_law_moment", "_law_due", "_law_best", "_law_end", "_law_key_here"] ["_law_script"] (qaf qgv):=⟨rfl,rfl,rfl,by decide+kernel,rfl,by decide+kernel,by decide+kernel⟩
def qkS:Ro→Rs Out:=qaM (qnn 1 2 (qag qoL (qac (dV 0) (qac (dC (.int 0)) (qac (dC (.int 10)) (qam))))) (qag qoL (qac (dV 0) (qac (dC (.int 200)) (qac (dC (.int 10)) (qam)))))) (qaM (qcH 3 (dFz (qoy (dQF (qaC 1 [] (dI (dB qbi (dV 1) (dV 2))) (gN 0) (qcl) (dB gIx (dV 0) (dC (.int 0))))) (dQF (qfm (qac (dC (.int 0)) (qam))))))) (qaM (qcH 4 (qag qdE (qac (dV 0) (qac (dC (.int 400)) (qac (dB gSub (dC (.int 100)) (dCQ qgJ (dQV 3))) (qam)))))) (qaM (qnn 5 6 (qag qoH (qac (dV 1) (qac (dV 4) (qam)))) (qag qoH (qac (dV 2) (qac (dV 4) (qam))))) (qaM (qnn 7 8 (qag qdE (qac (dV 0) (qac (dC (.int 401)) (qac (dC (.int 15)) (qam))))) (qag qdE (qac (dV 0) (qac (dC (.int 402)) (qac (dC (.int 120)) (qam)))))) (qaM (qcH 9 (dFz (qaC 5 [4] (dI (qag qi4 (qac (dV 1) (qac (dV 7) (qam))))) (gT 5 (gsC (gN 0) (gsC (gN 1) (gsC (gN 2) (gsC (gN 3) (gsC (gN 4) (gsN))))))) (qcl) (qcm (qac (dV 0) (qac (dB qbi (dV 1) (dV 5)) (qac (dB qbi (dV 2) (dV 5)) (qac (dV 3) (qac (dV 4) (qam)))))))))) (qaM (dIf (dOr (dTB (dB gNe (qag qi4 (qac (dV 5) (qac (dV 7) (qam)))) (dV 9))) (dTB (dB gNe (qag qoJ (qac (dV 5) (qac (dV 7) (qac (dB qbi (dV 8) (dV 4)) (qam))))) (qag qoJ (qac (dV 1) (qac (dV 7) (qac (dV 8) (qam)))))))) (qa7 (dC (.bl false))) (qaN)) (qaM (qcH 10 (qag qmU (qac (dV 1) (qac (dV 7) (qam))))) (qaM (dIf (dTB (dB gNe (qag qmU (qac (dV 5) (qac (dV 7) (qam)))) (qq9 (dTB (dB gIs (dV 10) (dC .non))) (dC .non) (dB qbi (qcm (qac (dB gIx (dV 10) (dC (.int 0))) (qac (dB qbi (dB gIx (dV 10) (dC (.int 1))) (dV 4)) (qac (dB qbi (dB gIx (dV 10) (dC (.int 2))) (dV 4)) (qam))))) (qoU (dV 10) (dOS (dC (.int 3))) (dON)))))) (qa7 (dC (.bl false))) (qaN)) (qaM (dIf (dTB (dB gNe (qag qi5 (qac (dV 5) (qac (dB qbi (dV 8) (dV 4)) (qam)))) (qag qi5 (qac (dV 1) (qac (dV 8) (qam)))))) (qa7 (dC (.bl false))) (qaN)) (qaM (dIf (dTB (dB gNe (qag qoM (qac (dV 5) (qac (dV 6) (qac (dB qbi (dV 8) (dV 4)) (qam))))) (qag qoM (qac (dV 1) (qac (dV 2) (qac (dV 8) (qam))))))) (qa7 (dC (.bl false))) (qaN)) (qaM (qcH 11 (dB qbi (dCQ qgJ (dQV 3)) (qag qdE (qac (dV 0) (qac (dC (.int 403)) (qac (dC (.int 9)) (qam))))))) (qaM (dIf (dTB (dB gNe (qag qoI (qac (dV 5) (qac (dB qbi (dV 11) (dV 4)) (qam)))) (qag qoI (qac (dV 1) (qac (dV 11) (qam)))))) (qa7 (dC (.bl false))) (qaN)) (qaM (dIf (dTB (dB gNe (qag qnx (qac (dV 5) (qac (dV 6) (qam)))) (dFz (qaC 1 [4] (dI (qag qnx (qac (dV 1) (qac (dV 2) (qam))))) (gN 0) (qcl) (dB qbi (qcm (qac (dB qbi (dB gIx (dV 0) (dC (.int 0))) (dV 1)) (qam))) (qoU (dV 0) (dOS (dC (.int 1))) (dON))))))) (qa7 (dC (.bl false))) (qaN)) (qaM (qiQ (dI (qcm (qac (dC (.str "a")) (qac (dC (.str "b")) (qac (dC (.str "ab")) (qam)))))) (gN 12) (qaM (dIf (dTB (dB gNe (qag qmT (qac (dV 5) (qac (dV 12) (qam)))) (qag qmT (qac (dV 1) (qac (dV 12) (qam)))))) (qa7 (dC (.bl false))) (qaN)) (dIf (dTB (dB gNe (qag qi3 (qac (dV 5) (qac (dV 12) (qam)))) (dFz (qaC 2 [4] (dI (qag qi3 (qac (dV 1) (qac (dV 12) (qam))))) (gT 2 (gsC (gN 0) (gsC (gN 1) (gsN)))) (qcl) (qcm (qac (dB qbi (dV 0) (dV 2)) (qac (dV 1) (qam)))))))) (qa7 (dC (.bl false))) (qaN)))) (qa7 (dB gEq (qag qi5 (qac (qag qo6 (qac (dV 1) (qac (dC (.int 0)) (qac (dB qbi (dV 8) (dC (.int 1))) (qam))))) (qac (dV 8) (qam)))) (qag qi5 (qac (dV 1) (qac (dV 8) (qam))))))))))))))))))))
def t_law:List T→Rs T:=fnT 1 13 qkS
theorem qp0 {f:Addr} {fd:FuncData} (F:Fun K "law" "law" qgv f fd) (nb: ∀x∈names,mg x=none) (F_19:Kn P w K mg base G C "_law_pick" ["_law_script", "_law_k", "_law_many"] 2 qdE) (F_20:Kn P w K mg base G C "_law_rows" ["_law_script", "_law_at", "_law_most"] 4 qoL) (F_15:Kn P w K mg base G C "at_moment" ["rows", "moment"] 6 qi5) (F_36:Kn P w K mg base G C "beside" ["one", "other"] 6 qnx) (F_28:Kn P w K mg base G C "from_to" ["rows", "begin", "end"] 6 qo6) (F_22:Kn P w K mg base G C "going_on" ["rows", "gap", "moment"] 7 qoJ) (F_26:Kn P w K mg base G C "history" ["rows", "key"] 6 qi3) (F_30:Kn P w K mg base G C "longest" ["rows", "gap"] 7 qmU) (F_38:Kn P w K mg base G C "pauses" ["rows", "key"] 6 qmT) (F_29:Kn P w K mg base G C "shifted" ["rows", "by"] 6 qoH) (F_17:Kn P w K mg base G C "stretches" ["rows", "gap"] 6 qi4) (F_16:Kn P w K mg base G C "unlike_at" ["one", "other", "moment"] 6 qoM) (F_27:Kn P w K mg base G C "weighed" ["rows", "end"] 7 qoI):qbG P w K mg base CX0 8 f fd ["_law_script"] (spP K G C t_law):=
 qbp F qcJ fun cdv A outer s H E hr=>qai (qkB (i:=1) (j:=2) rfl qcJ.nd rfl rfl (by decide) rfl rfl (qad F_20 rfl (hr.mono (by decide)) rfl (qab (qaa (pv 0)) (qab (qak) (qab (qak) (qah))))) (qad F_20 rfl (hr.mono (by decide)) rfl (qab (qaa (pv 0)) (qab (qak) (qab (qak) (qah))))) rfl) (qai (qbZ (i:=3) qcJ.nd rfl (by first | exact Or.inl rfl | exact Or.inr rfl) (qaF (qnh (qbj (qa2 (own:=["_law_row"]) (fr:=[]) rfl (qbf (qax qav qaG qaH (qaa (pv 1)) (qaa (pv 2)))) (qbo) rfl (by decide+kernel) (by decide+kernel) (fun y hy e=>absurd e ((by decide+kernel: ∀y∈_,y.2≠NameKind.free) y hy)) (fun p hp=>nomatch hp) (fun fp s3 H3=>⟨qaW (qar (i:=0) (show (["_law_row"]:List Str).Nodup by decide+kernel) rfl (by first | exact Or.inl rfl | exact Or.inr rfl)),qaQ,qa3 qaB qaY qa0 (qaa (pv 0)) (qak) (fun _ _=>rfl)⟩))) (qbj (qea (qab (qak) (qah))))))) (qai (qbZ (i:=4) qcJ.nd rfl (by first | exact Or.inl rfl | exact Or.inr rfl) (qad F_19 rfl (hr.mono (by decide)) rfl (qab (qaa (pv 0)) (qab (qak) (qab (qax qeB qev qey (qak) (qkM (qaO (qge rfl) rfl (nb "max" (by decide)) qeg (qau (qbz (pv 3)) qaR)))) (qah)))))) (qai (qkB (i:=5) (j:=6) rfl qcJ.nd rfl rfl (by decide) rfl rfl (qad F_29 rfl (hr.mono (by decide)) rfl (qab (qaa (pv 1)) (qab (qaa (pv 4)) (qah)))) (qad F_29 rfl (hr.mono (by decide)) rfl (qab (qaa (pv 2)) (qab (qaa (pv 4)) (qah)))) rfl) (qai (qkB (i:=7) (j:=8) rfl qcJ.nd rfl rfl (by decide) rfl rfl (qad F_19 rfl (hr.mono (by decide)) rfl (qab (qaa (pv 0)) (qab (qak) (qab (qak) (qah))))) (qad F_19 rfl (hr.mono (by decide)) rfl (qab (qaa (pv 0)) (qab (qak) (qab (qak) (qah))))) rfl) (qai (qcT (i:=9) (own:=["_law_key_here", "_law_first", "_law_last", "_law_many", "_law_total"]) (fr:=[("_law_by",4)]) rfl (qbf (qad F_17 rfl (hr.mono (by decide)) rfl (qab (qaa (pv 1)) (qab (qaa (pv 7)) (qah))))) (qiK (qbR (qbo) (qbR (qbo) (qbR (qbo) (qbR (qbo) (qbR (qbo) (qeI))))))) rfl (by decide+kernel) (by decide+kernel) (RH.fr_ok (sd:=qaf qgv) rfl (by decide+kernel)) (fun p hp=>by simp only[List.mem_cons,List.not_mem_nil,or_false] at hp; subst hp; exact ⟨rfl,rfl⟩) (fun fp s3 H3=>⟨qd9 rfl (qaK (qaW (qar (i:=0) (show (["_law_key_here", "_law_first", "_law_last", "_law_many", "_law_total", "_law_by"]:List Str).Nodup by decide+kernel) rfl (by first | exact Or.inl rfl | exact Or.inr rfl))) (qaK (qaW (qar (i:=1) (show (["_law_key_here", "_law_first", "_law_last", "_law_many", "_law_total", "_law_by"]:List Str).Nodup by decide+kernel) rfl (by first | exact Or.inl rfl | exact Or.inr rfl))) (qaK (qaW (qar (i:=2) (show (["_law_key_here", "_law_first", "_law_last", "_law_many", "_law_total", "_law_by"]:List Str).Nodup by decide+kernel) rfl (by first | exact Or.inl rfl | exact Or.inr rfl))) (qaK (qaW (qar (i:=3) (show (["_law_key_here", "_law_first", "_law_last", "_law_many", "_law_total", "_law_by"]:List Str).Nodup by decide+kernel) rfl (by first | exact Or.inl rfl | exact Or.inr rfl))) (qaK (qaW (qar (i:=4) (show (["_law_key_here", "_law_first", "_law_last", "_law_many", "_law_total", "_law_by"]:List Str).Nodup by decide+kernel) rfl (by first | exact Or.inl rfl | exact Or.inr rfl))) (qcU)))))),qaQ,qcB (qab (qaa (pv 0)) (qab (qax qav qaG qaH (qaa (pv 1)) (qaa (pv 5))) (qab (qax qav qaG qaH (qaa (pv 2)) (qaa (pv 5))) (qab (qaa (pv 3)) (qab (qaa (pv 4)) (qah))))))⟩) qcJ.nd rfl rfl) (qai (qbX (qqq (qmt (qby (op_neT (hu8 hr)) qdS qdY (qad F_17 rfl (hr.mono (by decide)) rfl (qab (qaa (pv 5)) (qab (qaa (pv 7)) (qah)))) (qaa (pv 9))) (qh2 (qby (op_neT (hu8 hr)) qdS qdY (qad F_22 rfl (hr.mono (by decide)) rfl (qab (qaa (pv 5)) (qab (qaa (pv 7)) (qab (qax qav qaG qaH (qaa (pv 8)) (qaa (pv 4))) (qah))))) (qad F_22 rfl (hr.mono (by decide)) rfl (qab (qaa (pv 1)) (qab (qaa (pv 7)) (qab (qaa (pv 8)) (qah))))))))) (qal (qaz (qec))) (qaS)) (qai (qbZ (i:=10) qcJ.nd rfl (by first | exact Or.inl rfl | exact Or.inr rfl) (qad F_30 rfl (hr.mono (by decide)) rfl (qab (qaa (pv 1)) (qab (qaa (pv 7)) (qah))))) (qai (qbX (qby (op_neT (hu8 hr)) qdS qdY (qad F_30 rfl (hr.mono (by decide)) rfl (qab (qaa (pv 5)) (qab (qaa (pv 7)) (qah)))) (qsX (qby qpW qr0 qr7 (qaa (pv 10)) (qnk)) (qnk) (qax qav qaG qaH (qcB (qab (qa3 qaB qaY qa0 (qaa (pv 10)) (qak) (fun _ _=>rfl)) (qab (qax qav qaG qaH (qa3 qaB qaY qa0 (qaa (pv 10)) (qak) (fun _ _=>rfl)) (qaa (pv 4))) (qab (qax qav qaG qaH (qa3 qaB qaY qa0 (qaa (pv 10)) (qak) (fun _ _=>rfl)) (qaa (pv 4))) (qah))))) (qni (qaa (pv 10)) (qd7 (qak)) (qd8))))) (qal (qaz (qec))) (qaS)) (qai (qbX (qby (op_neT (hu8 hr)) qdS qdY (qad F_15 rfl (hr.mono (by decide)) rfl (qab (qaa (pv 5)) (qab (qax qav qaG qaH (qaa (pv 8)) (qaa (pv 4))) (qah)))) (qad F_15 rfl (hr.mono (by decide)) rfl (qab (qaa (pv 1)) (qab (qaa (pv 8)) (qah))))) (qal (qaz (qec))) (qaS)) (qai (qbX (qby (op_neT (hu8 hr)) qdS qdY (qad F_16 rfl (hr.mono (by decide)) rfl (qab (qaa (pv 5)) (qab (qaa (pv 6)) (qab (qax qav qaG qaH (qaa (pv 8)) (qaa (pv 4))) (qah))))) (qad F_16 rfl (hr.mono (by decide)) rfl (qab (qaa (pv 1)) (qab (qaa (pv 2)) (qab (qaa (pv 8)) (qah)))))) (qal (qaz (qec))) (qaS)) (qai (qbZ (i:=11) qcJ.nd rfl (by first | exact Or.inl rfl | exact Or.inr rfl) (qax qav qaG qaH (qkM (qaO (qge rfl) rfl (nb "max" (by decide)) qeg (qau (qbz (pv 3)) qaR))) (qad F_19 rfl (hr.mono (by decide)) rfl (qab (qaa (pv 0)) (qab (qak) (qab (qak) (qah))))))) (qai (qbX (qby (op_neT (hu8 hr)) qdS qdY (qad F_27 rfl (hr.mono (by decide)) rfl (qab (qaa (pv 5)) (qab (qax qav qaG qaH (qaa (pv 11)) (qaa (pv 4))) (qah)))) (qad F_27 rfl (hr.mono (by decide)) rfl (qab (qaa (pv 1)) (qab (qaa (pv 11)) (qah))))) (qal (qaz (qec))) (qaS)) (qai (qbX (qby (op_neT (hu8 hr)) qdS qdY (qad F_36 rfl (hr.mono (by decide)) rfl (qab (qaa (pv 5)) (qab (qaa (pv 6)) (qah)))) (qaF (qa2 (own:=["_law_row"]) (fr:=[("_law_by",4)]) rfl (qbf (qad F_36 rfl (hr.mono (by decide)) rfl (qab (qaa (pv 1)) (qab (qaa (pv 2)) (qah))))) (qbo) rfl (by decide+kernel) (by decide+kernel) (RH.fr_ok (sd:=qaf qgv) rfl (by decide+kernel)) (fun p hp=>by simp only[List.mem_cons,List.not_mem_nil,or_false] at hp; subst hp; exact ⟨rfl,rfl⟩) (fun fp s3 H3=>⟨qaW (qar (i:=0) (show (["_law_row", "_law_by"]:List Str).Nodup by decide+kernel) rfl (by first | exact Or.inl rfl | exact Or.inr rfl)),qaQ,qax qav qaG qaH (qcB (qab (qax qav qaG qaH (qa3 qaB qaY qa0 (qaa (pv 0)) (qak) (fun _ _=>rfl)) (qaa (pv 1))) (qah))) (qni (qaa (pv 0)) (qd7 (qak)) (qd8))⟩)))) (qal (qaz (qec))) (qaS)) (qai (qeM PassesOwn.never rfl (qbf (qcB (qab (qde) (qab (qde) (qab (qde) (qah)))))) (qaW (qar (i:=12) qcJ.nd rfl (by first | exact Or.inl rfl | exact Or.inr rfl))) (qai (qbX (qby (op_neT (hu8 hr)) qdS qdY (qad F_38 rfl (hr.mono (by decide)) rfl (qab (qaa (pv 5)) (qab (qaa (pv 12)) (qah)))) (qad F_38 rfl (hr.mono (by decide)) rfl (qab (qaa (pv 1)) (qab (qaa (pv 12)) (qah))))) (qal (qaz (qec))) (qaS)) (qal (qbX (qby (op_neT (hu8 hr)) qdS qdY (qad F_26 rfl (hr.mono (by decide)) rfl (qab (qaa (pv 5)) (qab (qaa (pv 12)) (qah)))) (qaF (qa2 (own:=["_law_here", "_law_number_here"]) (fr:=[("_law_by",4)]) rfl (qbf (qad F_26 rfl (hr.mono (by decide)) rfl (qab (qaa (pv 1)) (qab (qaa (pv 12)) (qah))))) (qiK (qbR (qbo) (qbR (qbo) (qeI)))) rfl (by decide+kernel) (by decide+kernel) (RH.fr_ok (sd:=qaf qgv) rfl (by decide+kernel)) (fun p hp=>by simp only[List.mem_cons,List.not_mem_nil,or_false] at hp; subst hp; exact ⟨rfl,rfl⟩) (fun fp s3 H3=>⟨qd9 rfl (qaK (qaW (qar (i:=0) (show (["_law_here", "_law_number_here", "_law_by"]:List Str).Nodup by decide+kernel) rfl (by first | exact Or.inl rfl | exact Or.inr rfl))) (qaK (qaW (qar (i:=1) (show (["_law_here", "_law_number_here", "_law_by"]:List Str).Nodup by decide+kernel) rfl (by first | exact Or.inl rfl | exact Or.inr rfl))) (qcU))),qaQ,qcB (qab (qax qav qaG qaH (qaa (pv 0)) (qaa (pv 2))) (qab (qaa (pv 1)) (qah)))⟩)))) (qal (qaz (qec))) (qaS))))) (qal (qaz (qkO (qhy (hu8 hr)) qlI qlO (qad F_15 rfl (hr.mono (by decide)) rfl (qab (qad F_28 rfl (hr.mono (by decide)) rfl (qab (qaa (pv 1)) (qab (qak) (qab (qax qav qaG qaH (qaa (pv 8)) (qak)) (qah))))) (qab (qaa (pv 8)) (qah)))) (qad F_15 rfl (hr.mono (by decide)) rfl (qab (qaa (pv 1)) (qab (qaa (pv 8)) (qah)))))))))))))))))))))
end
end K18
end
section
namespace PL
open SR
section
variable {α:Type} {k:α→Int}
theorem qew {p:α→Bool} {l:List α} (h:Ris k l):Ris k (l.filter p):=List.Pairwise.filter p h
end
end PL
end
section
namespace PL
open PySem L2 SetL SR
theorem qnE {c:Nat} (h:97≤c∧c≤122):gLe (.str "a") (.str ⟨#[c]⟩)= .ok (.bl true)∧gLe (.str ⟨#[c]⟩) (.str "z")= .ok (.bl true):=by
 have e1:("a" :Str).cps.toList=[97]:=by decide
 have e2:("z" :Str).cps.toList=[122]:=by decide
 have n1: ¬([c]:List Nat)<[97]:=by
  rw[List.cons_lt_cons_iff]
  rintro (h1 | ⟨_,h2⟩)
  ·lia
  ·exact absurd h2 (List.not_lt_nil _)
 have n2: ¬([122]:List Nat)<[c]:=by
  rw[List.cons_lt_cons_iff]
  rintro (h1 | ⟨_,h2⟩)
  ·lia
  ·exact absurd h2 (List.not_lt_nil _)
 constructor
 ·show Rs.ok (T.bl (!decide (([c]:List Nat)<("a" :Str).cps.toList)))=_
  rw[e1,decide_eq_false n1]
  rfl
 ·show Rs.ok (T.bl (!decide (("z" :Str).cps.toList<([c]:List Nat))))=_
  rw[e2,decide_eq_false n2]
  rfl
theorem qoO (r:Row):gIx (qbO r) (.int 0)= .ok (.int r.1):=rfl
theorem qtg (r:Row):gIx (qbO r) (.int 1)= .ok (.str r.2.1):=rfl
theorem qul (r:Row):gIx (qbO r) (.int 2)= .ok (.int r.2.2):=rfl
theorem qfo {α:Type} (g:α→Bool) (xs:List α):qln (true,xs.map fun x=>T.bl (g x))= .ok (.bl (xs.all g)):=by
 have y:(xs.map fun x=>T.bl (g x)).all qiJ=true:=by rw[List.all_map,List.all_eq_true]; intro _ _; rfl
 have z:(xs.map fun x=>T.bl (g x)).all qha=xs.all g:=by rw[List.all_map]; rfl
 unfold qln
 rw[if_pos ⟨rfl,y⟩,z]
def qen (rs:List Row):Bool:=(rs.zip (rs.drop 1)).all fun p=>decide (p.1.1≤p.2.1)
theorem qs0 (ts:List T):qoW ts (some 1) none=ts.drop 1:=by
 unfold qoW
 have e:HT.sIx ts.length 0 (some 1)=min 1 ts.length:=HT.sIx_nat ts.length 0 1
 rw[e,HT.sIx_none]
 cases ts with
 | nil=>rfl
 | cons a l=>
  rw[show min 1 (a::l).length=1 by simp]
  rw[List.take_of_length_le (by simp)]
theorem qlo (as bs:List Row):qlg (as.map qbO) (bs.map qbO)=(as.zip bs).map fun p=>T.tup [qbO p.1,qbO p.2]:=by
 unfold qlg
 rw[List.zip_map,List.map_map]
 rfl
structure Log (rs:List Row):Prop where
 ok: ∀r∈rs,qip r
 log:qen rs=true
theorem qiF {ss:List Str} (h:ss.length<64):qka (true,ss.map T.str)= .ok ((qel ss).map T.str):=by
 have y:(ss.map T.str).all qkl=true:=by rw[List.all_map,List.all_eq_true]; intro _ _; rfl
 have z:(ss.map T.str).map qeq=ss:=by rw[List.map_map]; simp[Function.comp_def,qeq]
 unfold qka
 rw[if_pos ⟨⟨rfl,by rw[List.length_map]; exact h⟩,y⟩,z]
def qbF (rs:List Row):List Str:=qel (rs.map fun r=>r.2.1)
def qaT (rs:List Row) (k:Str):List Row:=rs.filter fun r=>r.2.1==k
def qdu (rs:List Row) (b e:Int):List Row:=rs.filter fun r=>decide (b≤r.1)&&decide (r.1<e)
def qc5:Str:= "abcdefghijklmnopqrstuvwxyz"
theorem qiB: ∀i:Nat,i<26→qc5.cps.toList[i]? =some (97+i):=by decide+kernel
theorem qgN:qc5.length=26:=by decide+kernel
theorem qfQ {i:Int} (h0:0≤i) (h1:i<26):gIx (.str qc5) (.int i)= .ok (.str ⟨#[97+i.toNat]⟩):=by
 obtain ⟨j,rfl⟩: ∃j:Nat,i=j:=⟨i.toNat,by lia⟩
 show (if qc5.length≤1000 then (match atI qc5.cps.toList (j:Int) with | some c=>Rs.ok (T.str ⟨#[c]⟩) | none=>.no) else .no)=_
 rw[qgN,if_pos (by decide),qk9 (qiB j (by lia))]
 rfl
theorem qqc {i:Int} (h0:0≤i) (h1:i<26):qem ⟨#[97+i.toNat]⟩:=by
 refine ⟨⟨Nat.le_refl 1,by show 1≤2; decide⟩,fun c hc=> ?_⟩
 have:c=97+i.toNat:=by simpa using hc
 lia
theorem qqb {i j:Int} (h0:0≤i) (h1:i<26) (h2:0≤j) (h3:j<26):qem ((⟨#[97+i.toNat]⟩:Str)++⟨#[97+j.toNat]⟩):=by
 have e:((⟨#[97+i.toNat]⟩:Str)++⟨#[97+j.toNat]⟩)=⟨#[97+i.toNat,97+j.toNat]⟩:=rfl
 rw[e]
 refine ⟨⟨by show 1≤2; decide,Nat.le_refl 2⟩,fun c hc=> ?_⟩
 have:c=97+i.toNat∨c=97+j.toNat:=by simpa using hc
 lia
theorem qkd:qem "a" ∧qem "b" ∧qem "ab" :=by
 refine ⟨⟨by decide,fun c hc=> ?_⟩,⟨by decide,fun c hc=> ?_⟩,⟨by decide,fun c hc=> ?_⟩⟩<;>(revert c; decide)
theorem qiH {rs:List Row} {r:Row} (h:qen rs=true) (hr: ∀q∈rs,q.1≤r.1):qen (rs++[r])=true:=by
 unfold qen at h⊢
 rw[List.all_eq_true] at h⊢
 intro p hp
 obtain ⟨i,hi,e⟩:=List.mem_iff_getElem.mp hp
 rw[List.getElem_zip] at e
 have hi':i+1<(rs++[r]).length:=by simp at hi⊢; lia
 rw[List.getElem_drop] at e
 subst e
 refine decide_eq_true ?_
 simp at hi'
 by_cases c:i+1<rs.length
 ·have hm:(rs[i],rs[i+1])∈rs.zip (rs.drop 1):=by
   refine List.mem_iff_getElem.mpr ⟨i,by simp; lia,?_⟩
   rw[List.getElem_zip,List.getElem_drop]
   simp[Nat.add_comm]
  have:=of_decide_eq_true (h _ hm)
  simp only[Nat.add_comm 1 i]
  rw[List.getElem_append_left (by lia),List.getElem_append_left c]
  exact this
 ·have e1:i+1=rs.length:=by lia
  simp only[Nat.add_comm 1 i]
  rw[List.getElem_append_left (by lia),List.getElem_append_right (by lia)]
  simp[e1]
  exact hr _ (List.getElem_mem _)
abbrev mo:Row→Int:=fun r=>r.1
theorem qc8: ∀rs:List Row,qen rs=true↔Ris mo rs
 | []=>⟨fun _=>List.Pairwise.nil,fun _=>rfl⟩
 | [a]=>⟨fun _=>List.pairwise_singleton _ _,fun _=>rfl⟩
 | a::b::l=>by
  have ih:=qc8 (b::l)
  have e:qen (a::b::l)=(decide (a.1≤b.1)&&qen (b::l)):=rfl
  rw[e,Bool.and_eq_true,ih,decide_eq_true_iff]
  constructor
  ·rintro ⟨h1,h2⟩
   refine List.pairwise_cons.mpr ⟨fun y hy=> ?_,h2⟩
   rcases List.mem_cons.mp hy with rfl | hy
   ·exact h1
   ·exact Int.le_trans h1 ((List.pairwise_cons.mp h2).1 y hy)
  ·intro h
   have h':=List.pairwise_cons.mp h
   exact ⟨h'.1 b List.mem_cons_self,h'.2⟩
theorem Log.ris {rs:List Row} (h:Log rs):Ris mo rs:=(qc8 rs).mp h.log
theorem Log.filter {rs:List Row} (h:Log rs) (p:Row→Bool):Log (rs.filter p):=⟨fun r hr=>h.ok r (List.mem_filter.mp hr).1,(qc8 _).mpr (qew h.ris)⟩
theorem Log.srt {rs:List Row} (h:Log rs):srt mo rs=rs:=qnC h.ris
theorem qn4 (ss:List Str):okT 8 (.lst (ss.map T.str))=true:=by show (ss.map T.str).all (okT 7)=true; rw[List.all_map,List.all_eq_true]; intro _ _; rfl
theorem qce {t:T} (h:okT 8 t=true):gNe t t= .ok (.bl false):=by unfold gNe; rw[if_pos ⟨h,h⟩,qda 8 t h]; rfl
theorem qop {t:T} (h:okT 8 t=true):gEq t t= .ok (.bl true):=by unfold gEq; rw[if_pos ⟨h,h⟩,qda 8 t h]
theorem qeE (rs:List Row):(qbF rs).Nodup:=by
 have:List.Perm (qbF rs) (dd (rs.map fun r=>r.2.1)):=qaI _
 exact this.nodup_iff.mpr (qbJ _)
theorem qhE {rs:List Row} {k:Str}:k∈qbF rs↔∃r∈rs,r.2.1=k:=by
 have:List.Perm (qbF rs) (dd (rs.map fun r=>r.2.1)):=qaI _
 rw[this.mem_iff,qck,List.mem_map]
theorem qez: ∀(ks:List Str) (rs:List Row),ks.Nodup→(∀r∈rs,r.2.1∈ks)→List.Perm (ks.flatMap fun k=>qaT rs k) rs
 | [],rs,_,h=>by
  cases rs with
  | nil=>exact List.Perm.refl _
  | cons r rs=>exact absurd (h r List.mem_cons_self) (by simp)
 | k::ks,rs,nd,h=>by
  have nd':=List.nodup_cons.mp nd
  have ih:=qez ks (rs.filter fun r=> !(r.2.1==k)) nd'.2 (fun r hr=>by
   have hr':=List.mem_filter.mp hr
   rcases List.mem_cons.mp (h r hr'.1) with z | z
   ·have:=hr'.2; rw[z] at this; simp at this
   ·exact z)
  have e:(ks.flatMap fun k'=>qaT (rs.filter fun r=> !(r.2.1==k)) k')=ks.flatMap fun k'=>qaT rs k':=by
   rw[List.flatMap_def,List.flatMap_def]
   refine congrArg List.flatten (List.map_congr_left fun k' hk'=> ?_)
   unfold qaT
   rw[List.filter_filter]
   refine List.filter_congr fun r _=> ?_
   by_cases c:r.2.1=k'
   ·have:r.2.1≠k:=fun z=>nd'.1 (by rw[←z,c]; exact hk')
    simp[c] at this⊢
    exact this
   ·simp[c]
  rw[List.flatMap_cons,←e]
  exact (List.Perm.append_left _ ih).trans (List.filter_append_perm (fun r:Row=>r.2.1==k) rs)
theorem qju (rs:List Row):List.Perm ((qbF rs).map (qaT rs)).flatten rs:=by
 rw[←List.flatMap_def]
 exact qez (qbF rs) rs (qeE rs) fun r hr=>qhE.mpr ⟨r,hr,rfl⟩
end PL
end
section
namespace K18
open PySem L2 PL SetL SR
theorem qtC (i:Int):qoK [.int i]= .ok (.bl true):=rfl
theorem qfg (i a b:Int):qmX [.int i,.int a,.int b]= .ok (.bl (decide (a≤i)&&decide (i≤b))):=by
 unfold qmX qtX
 simp only[fnT,List.length_cons,List.length_nil,Nat.reduceAdd,qa7,qmB,dTB,qag,qac,dV,List.map_cons,List.map_nil,Nat.reduceSub,List.replicate,List.append_nil,List.getElem?_cons_zero,qam,qae,qtC,qbS,List.getElem?_cons_succ,qiL,if_true]
 by_cases h:a≤i
 ·simp[h]; rfl
 ·simp[h]; rfl
theorem quT {x:Str} (h:qem x):qo7 [.str x,.int 2]= .ok (.bl true):=by
 have l1:(1:Int)≤(x.length:Int):=by have:=h.1.1; lia
 have l2:(x.length:Int)≤2:=by have:=h.1.2; lia
 have l3:x.length≤1000:=by have:=h.1.2; lia
 have cm:qaC 1 [] (dIS (dV 0)) (gN 0) qcl (qbS gLe gLe (dC (T.str "a")) (dV 0) (dC (T.str "z"))) [.fz (.str x),.fz (.int 2)]= .ok ((x.cps.toList.filter fun _=>true).map fun _=>T.bl true):=by
  refine qbW (f:=fun c=>T.str ⟨#[c]⟩) ?_ fun c hc=>⟨rfl,fun _=> ?_⟩
  ·show (if x.length≤1000 then _ else _)=_
   rw[if_pos l3]
  ·have:=qnE (h.2 c hc)
   unfold qbS
   simp only[dC,dV,qae,List.getElem?_cons_zero,this.1,this.2,if_true]
 unfold qo7 qtR
 have i1:qgU "str" (.str x)= .ok (.bl true):=rfl
 simp only[fnT,List.length_cons,List.length_nil,Nat.reduceAdd,qaM,dIf,dOr,qfs,dTB,qg6,dV,List.map_cons,List.map_nil,Nat.reduceSub,List.replicate,List.append_nil,List.getElem?_cons_zero,qae,i1,Bool.not_true,qbS,dC,qqF,qqn,l3,if_true,List.getElem?_cons_succ,qiL,l2,decide_true,l1,Bool.false_eq_true,if_false,qa7,qaN,qb2,dCQ,dQF,cm,qln]
 have y: ∀l:List Nat,(l.map fun _=>T.bl true).all qiJ=true∧(l.map fun _=>T.bl true).all qha=true:=fun l=>by constructor<;>(rw[List.all_map,List.all_eq_true]; intro _ _; rfl)
 rw[qay,(y _).1,(y _).2]
 simp only[true_and,if_true,qae]
 rfl
theorem quR {x:Str} (h:qem x):qo5 [.str x]= .ok (.bl true):=by
 unfold qo5 qtK
 simp only[fnT,List.length_cons,List.length_nil,Nat.reduceAdd,qa7,qag,qac,dV,List.map_cons,List.map_nil,Nat.reduceSub,List.replicate,List.append_nil,List.getElem?_cons_zero,dC,qam,qae,quT h,outT,if_true]
theorem qtw {r:Row} (h:qip r):qlw [qbO r]= .ok (.bl true):=by
 obtain ⟨⟨h1,h2⟩,hk,h3,h4⟩:=h
 have i1:qgU "tuple" (qbO r)= .ok (.bl true):=rfl
 have i2:qoT (qbO r)= .ok (.int 3):=rfl
 have i3:gNe (.int 3) (.int 3)= .ok (.bl false):=rfl
 have w1:=qfg r.1 0 99
 have w2:=qfg r.2.2 (-99) 99
 rw[decide_eq_true h1,decide_eq_true h2] at w1
 rw[decide_eq_true h3,decide_eq_true h4] at w2
 unfold qlw qtJ
 simp only[fnT,List.length_cons,List.length_nil,Nat.reduceAdd,qaM,dIf,dOr,qfs,dTB,qg6,dV,List.map_cons,List.map_nil,Nat.reduceSub,List.replicate,List.append_nil,List.getElem?_cons_zero,qae,i1,Bool.not_true,dB,qqF,i2,dC,i3,Bool.false_eq_true,if_false,qa7,qaN,qb2,qag,qac,qam,qdB,qhR,qoO,w1,Bool.and_self,qtg,quR hk,qul,w2,outT,if_true]
theorem quQ (rs:List Row):qo4 [qao rs]= .ok (.bl (qen rs)):=by
 have cm:qaC 2 [] (dIZ (qac (dV 0) (qac (dFz (qi7 (dQV 0) (dOS (dC (T.int 1))) dON)) qam))) (gT 2 (gsC (gN 0) (gsC (gN 1) gsN))) qcl (dB gLe (dB gIx (dV 0) (dC (T.int 0))) (dB gIx (dV 1) (dC (T.int 0)))) [.fz (qao rs)]= .ok (((rs.zip (rs.drop 1)).filter fun _=>true).map fun p=>T.bl (decide (p.1.1≤p.2.1))):=by
  refine qh6 (a:=fun p:Row×Row=>qbO p.1) (b:=fun p=>qbO p.2) ?_ fun p hp=>⟨rfl,fun _=>rfl⟩
  unfold qao
  simp only[dIZ,qac,dV,dFz,qi7,dQV,dOS,dC,dON,qam,qio,qae,List.getElem?_cons_zero,if_true,qs0,qlp]
  rw[←List.map_drop,qlo]
 unfold qo4 qtI
 simp only[fnT,List.length_cons,List.length_nil,Nat.reduceAdd,qa7,dCQ,dQF,List.map_cons,List.map_nil,Nat.reduceSub,List.replicate,List.append_nil,cm,qay,qae,qfo,outT,if_true]
 rfl
theorem qcA {rs:List Row} (h: ∀r∈rs,qip r):t_2 [qao rs]= .ok .non:=by
 have cm:qaC 1 [] (dI (dV 0)) (gN 0) qcl (qag qlw (qac (dV 0) qam)) [.fz (qao rs)]= .ok ((rs.filter fun _=>true).map fun _=>T.bl true):=by
  refine qbW (f:=qbO) rfl fun r hr=>⟨rfl,fun _=> ?_⟩
  simp only[qag,qac,dV,List.map_nil,List.getElem?_cons_zero,qam,qae,qtw (h r hr)]
 unfold t_2 d_2
 simp only[fnT,List.length_cons,List.length_nil,Nat.reduceAdd,dIf,qfs,dTB,dCQ,dQF,List.map_cons,List.map_nil,Nat.reduceSub,List.replicate,List.append_nil,cm,qay,qae,qfo,qaN,if_true]
 have y:(rs.all fun _=>true)=true:=by rw[List.all_eq_true]; intro _ _; rfl
 rw[y]; rfl
theorem qb5 {rs:List Row} (h:qen rs=true):t_6 [qao rs]= .ok .non:=by
 unfold t_6 d_6
 simp only[fnT,List.length_cons,List.length_nil,Nat.reduceAdd,dIf,qfs,dTB,qag,qac,dV,List.map_cons,List.map_nil,Nat.reduceSub,List.replicate,List.append_nil,List.getElem?_cons_zero,qam,qae,quQ,h,Bool.not_true,qaN,Bool.false_eq_true,if_false,outT,if_true]
theorem qbb {rs:List Row} (h:Log rs):t_3 [qao rs]= .ok .non:=by
 unfold t_3 d_3
 simp only[fnT,List.length_cons,List.length_nil,Nat.reduceAdd,qaM,qa6,qag,qac,dV,List.map_cons,List.map_nil,Nat.reduceSub,List.replicate,List.append_nil,List.getElem?_cons_zero,qam,qae,qcA h.ok,qb2,qb5 h.log,outT,if_true]
theorem qh1 {n m:Int} (h:0≤n∧n≤m):t_4 [.int n,.int m]= .ok .non:=by
 unfold t_4 d_4
 simp only[fnT,List.length_cons,List.length_nil,Nat.reduceAdd,dIf,qfs,dTB,qag,qac,dV,List.map_cons,List.map_nil,Nat.reduceSub,List.replicate,List.append_nil,List.getElem?_cons_zero,dC,List.getElem?_cons_succ,qam,qae,qfg,decide_eq_true h.1,decide_eq_true h.2,Bool.and_self,Bool.not_true,qaN,Bool.false_eq_true,if_false,outT,if_true]
theorem qtA {rs:List Row} (h:rs.length<64):qmV [qao rs]= .ok (.lst ((qbF rs).map T.str)):=by
 have cm:qaC 1 [] (dI (dV 0)) (gN 0) qcl (dB gIx (dV 0) (dC (T.int 1))) [.fz (qao rs)]= .ok ((rs.filter fun _=>true).map fun r=>T.str r.2.1):=
  qbW (f:=qbO) rfl fun r hr=>⟨rfl,fun _=>rfl⟩
 unfold qmV qtQ
 have e:(rs.map fun r=>T.str r.2.1)=(rs.map fun r=>r.2.1).map T.str:=by rw[List.map_map]; rfl
 simp only[fnT,List.length_cons,List.length_nil,Nat.reduceAdd,qa7,dFz,qlm,dQF,List.map_cons,List.map_nil,Nat.reduceSub,List.replicate,List.append_nil,cm,qay,e,qae,qiF (ss:=rs.map fun r=>r.2.1) (by rw[List.length_map]; exact h),outT,if_true]
 rfl
theorem qsT (rs:List Row) (k:Str):qi2 [qao rs,.str k]= .ok (qao (qaT rs k)):=by
 have cm:qaC 1 [1] (dI (dV 0)) (gN 0) (dTB (dB gEq (dB gIx (dV 0) (dC (T.int 1))) (dV 1))) (dV 0) [.fz (qao rs),.fz (.str k)]= .ok ((rs.filter fun r=>r.2.1==k).map qbO):=
  qbW (f:=qbO) rfl fun r hr=>⟨rfl,fun _=>rfl⟩
 unfold qi2 qtH
 simp only[fnT,List.length_cons,List.length_nil,Nat.reduceAdd,qa7,dFz,List.map_cons,List.map_nil,Nat.reduceSub,List.replicate,List.append_nil,cm,qae,outT,if_true]
 rfl
theorem qbU {ns:List Int} (hn:ns.length≤63) {k many:Int} (h0:0≤k) (h1:k<1000000) (hm:0<many): ∃v,0≤v∧v<many∧qdE [.scr ns,.int k,.int many]= .ok (.int v):=
 ⟨qit ns k many,qlS hm,qlT hm,by
  show (if (0≤k∧k<1000000)∧0<many∧ns.length≤63 then Rs.ok (T.int (qit ns k many)) else Rs.no)=_
  rw[if_pos ⟨⟨h0,h1⟩,hm,hn⟩]⟩
theorem qsS {ns:List Int} (hn:ns.length≤63) {k:Int} (h0:0≤k) (h1:k<900000): ∃x,qem x∧qmW [.scr ns,.int k]= .ok (.str x):=by
 obtain ⟨v,a1,a2,e1⟩:=qbU hn (k:=k) (many:=16) h0 (by lia) (by decide)
 obtain ⟨i,b1,b2,e2⟩:=qbU hn (k:=k+1) (many:=26) (by lia) (by lia) (by decide)
 obtain ⟨u,c1,c2,e3⟩:=qbU hn (k:=k+2) (many:=2) (by lia) (by lia) (by decide)
 obtain ⟨j,d1,d2,e4⟩:=qbU hn (k:=k+3) (many:=26) (by lia) (by lia) (by decide)
 have g1:=qfQ b1 b2
 have g2:=qfQ d1 d2
 by_cases c:0<v
 ·have m0:0≤v % 3:=Int.emod_nonneg _ (by decide)
  have m1:v % 3<3:=Int.emod_lt_of_pos _ (by decide)
  have g: ∃x,qem x∧gIx (.lst [.str "a",.str "b",.str "ab"]) (.int (v % 3))= .ok (.str x):=by
   generalize v % 3=m at m0 m1
   have:m=0∨m=1∨m=2:=by lia
   rcases this with rfl | rfl | rfl
   ·exact ⟨_,qkd.1,rfl⟩
   ·exact ⟨_,qkd.2.1,rfl⟩
   ·exact ⟨_,qkd.2.2,rfl⟩
  obtain ⟨x,hx,ex⟩:=g
  refine ⟨x,hx,?_⟩
  have p3:(0:Int)<3:=by decide
  have l3:(3:Nat)≤1000:=by decide
  unfold qmW qq7
  simp only[fnT,List.length_cons,List.length_nil,Nat.reduceAdd,qaM,qcH,dC,List.map_cons,List.map_nil,Nat.reduceSub,List.replicate,List.cons_append,List.nil_append,List.set_cons_succ,List.set_cons_zero,qae,qb2,qag,qac,dV,qam,dIf,dTB,dB,qa7,dFz,qfm,l3,if_true,qaN,List.getElem?_cons_zero,List.getElem?_cons_succ,e1,qml,decide_eq_true c,qku,p3,ex,outT]
 ·have g1':gIx (.str "abcdefghijklmnopqrstuvwxyz") (.int i)=_:=g1
  have g2':gIx (.str "abcdefghijklmnopqrstuvwxyz") (.int j)=_:=g2
  by_cases c':u=0
  ·refine ⟨_,qqc b1 b2,?_⟩
   subst c'
   unfold qmW qq7
   simp only[fnT,List.length_cons,List.length_nil,Nat.reduceAdd,qaM,qcH,dC,List.map_cons,List.map_nil,Nat.reduceSub,List.replicate,List.cons_append,List.nil_append,List.set_cons_succ,List.set_cons_zero,qae,qb2,qag,qac,dV,qam,dIf,dTB,dB,qa7,dFz,qfm,Nat.reduceLeDiff,if_true,qaN,List.getElem?_cons_zero,List.getElem?_cons_succ,e1,qml,decide_eq_false c,qku,Bool.false_eq_true,if_false,qbN,e2,g1',e3,qmm,beq_self_eq_true,outT]
  ·refine ⟨_,qqb b1 b2 d1 d2,?_⟩
   have n:(u==0)=false:=by simpa using c'
   have ga:qbi (.str ⟨#[97+i.toNat]⟩) (.str ⟨#[97+j.toNat]⟩)= .ok (.str ((⟨#[97+i.toNat]⟩:Str)++⟨#[97+j.toNat]⟩)):=rfl
   unfold qmW qq7
   simp only[fnT,List.length_cons,List.length_nil,Nat.reduceAdd,qaM,qcH,dC,List.map_cons,List.map_nil,Nat.reduceSub,List.replicate,List.cons_append,List.nil_append,List.set_cons_succ,List.set_cons_zero,qae,qb2,qag,qac,dV,qam,dIf,dTB,dB,qa7,dFz,qfm,Nat.reduceLeDiff,if_true,qaN,List.getElem?_cons_zero,List.getElem?_cons_succ,e1,qml,decide_eq_false c,qku,Bool.false_eq_true,if_false,qbN,e2,g1',e3,qmm,n,e4,g2',ga,outT]
theorem qms {ns:List Int} (hn:ns.length≤63) {k:Int} (h0:0≤k) (h1:k<900000): ∃v, -99≤v∧v≤99∧qny [.scr ns,.int k,.int 99]= .ok (.int v):=by
 obtain ⟨v,a1,a2,e1⟩:=qbU hn (k:=k) (many:=8) h0 (by lia) (by decide)
 obtain ⟨i,b1,b2,e2⟩:=qbU hn (k:=k+1) (many:=2*99+1) (by lia) (by lia) (by decide)
 obtain ⟨u,c1,c2,e3⟩:=qbU hn (k:=k+1) (many:=9) (by lia) (by lia) (by decide)
 by_cases c:v=0
 ·subst c
  refine ⟨i - 99,by lia,by lia,?_⟩
  have m:((-1000000:Int)≤2∧(2:Int)≤1000000)∨((-1000000:Int)≤99∧(99:Int)≤1000000):=.inl (by decide)
  unfold qny qsY
  simp only[fnT,List.length_cons,List.length_nil,Nat.reduceAdd,qaM,dIf,dTB,dB,qag,qac,dV,List.map_cons,List.map_nil,Nat.reduceSub,List.replicate,List.append_nil,List.getElem?_cons_zero,List.getElem?_cons_succ,dC,qam,qae,e1,qmm,beq_self_eq_true,qa7,qbN,qhS,m,if_true,e2,qeK,qaN,qb2,outT]
 ·have n:(v==0)=false:=by simpa using c
  refine ⟨u - 4,by lia,by lia,?_⟩
  unfold qny qsY
  simp only[fnT,List.length_cons,List.length_nil,Nat.reduceAdd,qaM,dIf,dTB,dB,qag,qac,dV,List.map_cons,List.map_nil,Nat.reduceSub,List.replicate,List.append_nil,List.getElem?_cons_zero,List.getElem?_cons_succ,dC,qam,qae,e1,qmm,n,qa7,qbN,qhS,qaN,Bool.false_eq_true,if_false,qb2,e3,qeK,outT,if_true]
theorem qne {ns:List Int} (hn:ns.length≤63) {k most:Int} (h0:0≤k) (h1:k<10000) (hm:0≤most) (hm2:most≤20): ∃rs:List Row,Log rs∧(rs.length:Int)≤most∧qoL [.scr ns,.int k,.int most]= .ok (qao rs):=by
 obtain ⟨v,a1,a2,e1⟩:=qbU hn (k:=k) (many:=9) h0 (by lia) (by decide)
 obtain ⟨i,b1,b2,e2⟩:=qbU hn (k:=k+1) (many:=4) (by lia) (by lia) (by decide)
 obtain ⟨n,c1,c2,e3⟩:=qbU hn (k:=k+2) (many:=most+1) (by lia) (by lia) (by lia)
 have g: ∃far,0<far∧far≤14∧gIx (.lst [.int 1,.int 3,.int 6,.int 14]) (.int i)= .ok (.int far):=by
  have:i=0∨i=1∨i=2∨i=3:=by lia
  rcases this with rfl | rfl | rfl | rfl
  ·exact ⟨1,by decide,by decide,rfl⟩
  ·exact ⟨3,by decide,by decide,rfl⟩
  ·exact ⟨6,by decide,by decide,rfl⟩
  ·exact ⟨14,by decide,by decide,rfl⟩
 obtain ⟨far,f1,f2,e4⟩:=g
 have l4:(4:Nat)≤1000:=by decide
 have l0:(0:Nat)≤1000:=by decide
 have hr:qjC [.int n]= .ok ((List.range n.toNat).map fun j=>T.int (j:Nat)):=by
  show (if n≤1000000∧ -1000000≤n then _ else _)=_
  rw[if_pos ⟨by lia,by lia⟩]
 obtain ⟨ρ',e5,rs,m,s6,s7,er,ok,lg,ln,le,m0,m1⟩:=qch (dg:=gN 6) (f:=fun j:Nat=>T.int (j:Nat))
  (db:=qaM (qcH 7 (dB qbi (dB qbi (dV 1) (dC (T.int 10))) (dB qll (dC (T.int 8)) (dV 6)))) (qaM (qcH 4 (dB2 qq3 (dC (T.int 99)) (dB qbi (dV 4) (qag qdE (qac (dV 0) (qac (dV 7) (qac (dV 5) qam)))))))
   (qmA 3 (qcm (qac (dV 4) (qac (qag qmW (qac (dV 0) (qac (dB qbi (dV 7) (dC (T.int 1))) qam))) (qac (qag qny (qac (dV 0) (qac (dB qbi (dV 7) (dC (T.int 5))) (qac (dC (T.int 99)) qam)))) qam)))))))
  (fun dn ρ=> ∃(rs:List Row) (m:Int) (s6 s7:Sl),ρ=[.fz (.scr ns),.fz (.int k),.fz (.int most),.ow (rs.map qbO),.fz (.int m),.fz (.int far),s6,s7]∧(∀r∈rs,qip r)∧qen rs=true∧rs.length=dn.length∧(∀r∈rs,r.1≤m)∧0≤m∧m≤99)
  (List.range n.toNat) (List.range n.toNat) [] [.fz (.scr ns),.fz (.int k),.fz (.int most),.ow [],.fz (.int v),.fz (.int far),.no,.no] rfl
  (fun dn j qbY ρ hw ⟨rs,m,s6,s7,e,ok,lg,ln,le,m0,m1⟩=>by
   subst e
   have hl:dn.length+(qbY.length+1)=n.toNat:=by
    have:=congrArg List.length hw
    simpa using this
   have hj:j<n.toNat:=by
    have:j∈List.range n.toNat:=by rw[←hw]; simp
    exact List.mem_range.mp this
   obtain ⟨w,w1,w2,ew⟩:=qbU hn (k:=k+10+8*(j:Nat)) (many:=far) (by lia) (by lia) f1
   obtain ⟨x,hx,ex⟩:=qsS hn (k:=k+10+8*(j:Nat)+1) (by lia) (by lia)
   obtain ⟨u,u1,u2,eu⟩:=qms hn (k:=k+10+8*(j:Nat)+5) (by lia) (by lia)
   have hm':((-1000000:Int)≤8∧(8:Int)≤1000000)∨((-1000000:Int)≤(j:Nat)∧((j:Nat):Int)≤1000000):=.inl (by decide)
   have mm: ∃m',(if m+w<99 then m+w else 99)=m'∧m≤m'∧m'≤99:=by
    by_cases c:m+w<99
    ·exact ⟨m+w,by rw[if_pos c],by lia,by lia⟩
    ·exact ⟨99,by rw[if_neg c],by lia,by lia⟩
   obtain ⟨m',em,le1,le2⟩:=mm
   have l3:(3:Nat)≤1000:=by decide
   have lb:rs.length≤999:=by lia
   refine ⟨_,[.fz (.scr ns),.fz (.int k),.fz (.int most),.ow ((rs++[(m',x,u)]).map qbO),.fz (.int m'),.fz (.int far),.fz (.int (j:Nat)),.fz (.int (k+10+8*(j:Nat)))],rfl,.inl ?_,rs++[(m',x,u)],m',_,_,rfl,?_,?_,by simp[ln],?_,by lia,le2⟩
   ·have er:(rs++[(m',x,u)]).map qbO=rs.map qbO++[.tup [.int m',.str x,.int u]]:=by rw[List.map_append]; rfl
    rw[er]
    simp only[qaM,qcH,dB,dV,List.set_cons_succ,List.set_cons_zero,List.getElem?_cons_succ,List.getElem?_cons_zero,dC,qae,qbN,qhS,hm',if_true,qb2,dB2,qag,qac,qam,qmA,qlk,qcm,qc0,List.length_cons,List.length_nil,Nat.reduceAdd,Nat.reduceLeDiff,ew,qqm,em,ex,eu,l3,List.length_map,lb]
   ·intro r hr'
    rcases List.mem_append.mp hr' with hr' | hr'
    ·exact ok r hr'
    ·rw[List.mem_singleton.mp hr']
     exact ⟨⟨by show 0≤m'; lia,le2⟩,hx,u1,u2⟩
   ·refine qiH lg fun q hq=> ?_
    have:=le q hq
    show q.1≤m'
    lia
   ·intro r hr'
    rcases List.mem_append.mp hr' with hr' | hr'
    ·have:=le r hr'; lia
    ·rw[List.mem_singleton.mp hr']; exact Int.le_refl _) ⟨[],v,.no,.no,rfl,(fun _ h=>by cases h),rfl,rfl,(fun _ h=>by cases h),a1,by lia⟩
 subst er
 refine ⟨rs,⟨ok,lg⟩,by rw[ln]; simp; lia,?_⟩
 unfold qoL qtT
 simp only[fnT,List.length_cons,List.length_nil,Nat.reduceAdd,qaM,qg5,qfm,qam,qae,l0,if_true,List.map_cons,List.map_nil,Nat.reduceSub,List.replicate,List.cons_append,List.nil_append,List.set_cons_succ,List.set_cons_zero,qb2,qcH,qag,qac,dV,dC,dB,dFz,l4,qiQ,qsZ,qa7,frz,List.getElem?_cons_zero,List.getElem?_cons_succ,e1,qbN,e2,e4,e3,hr,e5,outT]
 rfl
end K18
end
section
namespace PL
open PySem L2 SetL SR
def qbt (p:List Row):Int:=(p.getLast?.map fun r=>r.1).getD 0
def qb4 (p:List Row):Int:=(p.head?.map fun r=>r.1).getD 0
theorem qbE (q:List Row) (r:Row):qbt (q++[r])=r.1:=by simp[qbt]
theorem qgW {p:List Row} (h:p≠[]) (q:List Row):qb4 (p++q)=qb4 p:=by
 cases p with
 | nil=>exact absurd rfl h
 | cons r p=>rfl
def qij (g:Int) (acc:List (List Row)) (r:Row):List (List Row):=match acc.getLast? with
 | none=>acc++[[r]]
 | some p=>if r.1 - qbt p≤g then acc.dropLast++[p++[r]] else acc++[[r]]
theorem qhm (g:Int) (r:Row):qij g [] r=[[r]]:=rfl
theorem qcX (g:Int) (a:List (List Row)) (p:List Row) (r:Row):qij g (a++[p]) r=if r.1 - qbt p≤g then a++[p++[r]] else a++[p]++[[r]]:=by simp[qij]
def qba (g:Int) (rs:List Row):List (List Row):=rs.foldl (qij g) []
theorem qcg (g:Int) (rs:List Row) (r:Row):qba g (rs++[r])=qij g (qba g rs) r:=by simp[qba,List.foldl_append]
structure Grp (rs:List Row) (acc:List (List Row)):Prop where
 fl:acc.flatten=rs
 ne: ∀p∈acc,p≠[]
 inc:acc.Pairwise fun p p'=> ∀r∈p,∀r'∈p',r.1<r'.1
theorem Grp.last {rs:List Row} {a:List (List Row)} {p:List Row} (h:Grp rs (a++[p])):qbt p=qbt rs∧rs≠[]:=by
 have hp:=h.ne p (by simp)
 have e:=h.fl
 rw[List.flatten_append] at e
 rcases List.eq_nil_or_concat p with z | ⟨q,r,z⟩
 ·exact absurd z hp
 ·rw[List.concat_eq_append] at z
  subst z
  rw[←e]
  refine ⟨?_,by simp⟩
  have:(a.flatten++[q++[r]].flatten)=(a.flatten++q)++[r]:=by simp
  rw[this,qbE,qbE]
theorem Grp.nil_iff {rs:List Row} {acc:List (List Row)} (h:Grp rs acc):acc=[]↔rs=[]:=by
 constructor
 ·intro z; rw[←h.fl,z]; rfl
 ·intro z
  rcases List.eq_nil_or_concat acc with w | ⟨a,p,w⟩
  ·exact w
  ·rw[List.concat_eq_append] at w
   subst w
   exact absurd z h.last.2
theorem qiE {rs:List Row} (h:Ris mo rs): ∀r∈rs,r.1≤qbt rs:=by
 intro r hr
 rcases List.eq_nil_or_concat rs with z | ⟨q,x,z⟩
 ·rw[z] at hr; cases hr
 ·rw[List.concat_eq_append] at z
  subst z
  rw[qbE]
  rcases List.mem_append.mp hr with hr | hr
  ·exact (List.pairwise_append.mp h).2.2 r hr x (by simp)
  ·rw[List.mem_singleton.mp hr]; exact Int.le_refl _
theorem qhP {g:Int} (hg:0≤g) (rs:List Row):Ris mo rs→Grp rs (qba g rs):=by
 refine snoc_ind (P:=fun rs=>Ris mo rs→Grp rs (qba g rs)) (fun _=>⟨rfl,(fun p hp=>by cases hp),List.Pairwise.nil⟩) (fun l r ih h=> ?_) rs
 have hl:Ris mo l:=(List.pairwise_append.mp h).1
 have hr: ∀q∈l,q.1≤r.1:=fun q hq=>(List.pairwise_append.mp h).2.2 q hq r (by simp)
 have G:=ih hl
 rw[qcg]
 rcases List.eq_nil_or_concat (qba g l) with z | ⟨a,p,z⟩
 ·have:=G.nil_iff.mp z
  subst this
  rw[z,qhm]
  exact ⟨rfl,(fun p hp=>by rw[List.mem_singleton.mp hp]; simp),List.pairwise_singleton _ _⟩
 ·rw[List.concat_eq_append] at z
  rw[z] at G⊢
  obtain ⟨e1,e2⟩:=G.last
  rw[qcX]
  have pw:=List.pairwise_append.mp G.inc
  by_cases c:r.1 - qbt p≤g
  ·rw[if_pos c]
   refine ⟨?_,fun q hq=> ?_,?_⟩
   ·rw[←G.fl]; simp
   ·rcases List.mem_append.mp hq with hq | hq
    ·exact G.ne q (List.mem_append_left _ hq)
    ·rw[List.mem_singleton.mp hq]; simp
   ·refine List.pairwise_append.mpr ⟨pw.1,List.pairwise_singleton _ _,fun q hq q' hq' x hx y hy=> ?_⟩
    rw[List.mem_singleton.mp hq'] at hy
    rcases List.mem_append.mp hy with hy | hy
    ·exact pw.2.2 q hq p (by simp) x hx y hy
    ·rw[List.mem_singleton.mp hy]
     cases hp:p with
     | nil=>exact absurd hp (G.ne p (by simp))
     | cons x0 p0=>
      have h1:=pw.2.2 q hq p (by simp) x hx x0 (by rw[hp]; simp)
      have h2:=hr x0 (by rw[←G.fl,hp]; simp)
      lia
  ·rw[if_neg c]
   refine ⟨?_,fun q hq=> ?_,?_⟩
   ·rw[←G.fl]; simp
   ·rcases List.mem_append.mp hq with hq | hq
    ·exact G.ne q hq
    ·rw[List.mem_singleton.mp hq]; simp
   ·refine List.pairwise_append.mpr ⟨G.inc,List.pairwise_singleton _ _,fun q hq q' hq' x hx y hy=> ?_⟩
    rw[List.mem_singleton.mp hq'] at hy
    rw[List.mem_singleton.mp hy]
    have hx':x∈l:=by rw[←G.fl]; exact List.mem_flatten.mpr ⟨q,hq,hx⟩
    have:=qiE hl x hx'
    lia
theorem qks {rs:List Row} {acc:List (List Row)} (h:Grp rs acc):acc.length≤rs.length:=by
 rw[←h.fl]
 have hn:=h.ne
 clear h
 induction acc with
 | nil=>exact Nat.le_refl _
 | cons p acc ih=>
  have h1:=ih fun q hq=>hn q (List.mem_cons_of_mem _ hq)
  have h2:0<p.length:=List.length_pos_iff.mpr (hn p List.mem_cons_self)
  rw[List.flatten_cons,List.length_append,List.length_cons]
  lia
abbrev S5:=Str×Int×Int×Int×Int
def stT (s:S5):T:=.tup [.str s.1,.int s.2.1,.int s.2.2.1,.int s.2.2.2.1,.int s.2.2.2.2]
def qcj (p:List Row):Int:=(p.map fun r=>r.2.2).sum
def sOf (k:Str) (p:List Row):S5:=(k,qb4 p,qbt p,(p.length:Int),qcj p)
theorem qgG (p:List Row) (r:Row):qcj (p++[r])=qcj p+r.2.2:=by simp[qcj]
theorem qjs (k:Str) (r:Row):sOf k [r]=(k,r.1,r.1,1,r.2.2):=by simp[sOf,qb4,qbt,qcj]
theorem qlH (k:Str) {p:List Row} (h:p≠[]) (r:Row):sOf k (p++[r])=(k,qb4 p,r.1,(p.length:Int)+1,qcj p+r.2.2):=by
 unfold sOf
 rw[qbE,qgW h,qgG]
 simp
def qup (g:Int) (ks:List Str) (rs:List Row):List (Str×List Row):=ks.flatMap fun k=>(qba g (qaT rs k)).map fun p=>(k,p)
def qdo (g:Int) (ks:List Str) (rs:List Row):List S5:=ks.flatMap fun k=>(qba g (qaT rs k)).map (sOf k)
theorem qja (g:Int) (ks:List Str) (k:Str) (rs:List Row):qdo g (ks++[k]) rs=qdo g ks rs++(qba g (qaT rs k)).map (sOf k):=by
 unfold qdo; rw[List.flatMap_append]; simp
def qfq (s:S5):List Ky:=[.i s.2.1,.s s.1]
def qlz (D:List S5):List S5:=srt (fun s=>qbr qbB (D.map qfq) (qfq s)) D
def qat (g:Int) (rs:List Row):List S5:=qlz (qdo g (qbF rs) rs)
theorem qho {rs:List Row} (h:Ris mo rs) (k:Str):Ris mo (qaT rs k):=qew h
theorem qlx {g:Int} (hg:0≤g) {rs:List Row} (h:Ris mo rs) (ks:List Str):(qdo g ks rs).length≤(ks.flatMap fun k=>qaT rs k).length:=by
 induction ks with
 | nil=>exact Nat.le_refl _
 | cons k ks ih=>
  have e:qdo g (k::ks) rs=(qba g (qaT rs k)).map (sOf k)++qdo g ks rs:=by unfold qdo; rw[List.flatMap_cons]
  rw[e,List.flatMap_cons,List.length_append,List.length_append,List.length_map]
  have:=qks (qhP hg _ (qho h k))
  lia
theorem qgq {g:Int} (hg:0≤g) {rs:List Row} (h:Ris mo rs):(qdo g (qbF rs) rs).length≤rs.length:=by
 have:=qlx hg h (qbF rs)
 rw[List.flatMap_def,(qju rs).length_eq] at this
 exact this
theorem qdP (g:Int) (rs:List Row):List.Perm (qat g rs) (qdo g (qbF rs) rs):=qaI _
end PL
end
section
namespace K18
open PySem L2 PL SetL SR
theorem qhL (n:Nat):ixN (n+1) (-1)=some n:=by
 unfold ixN
 rw[if_neg (by decide),if_pos (by lia)]
 congr 1
 lia
theorem qmJ {α:Type} (xs:List α) (x:α):atI (xs++[x]) (-1)=some x:=by
 unfold atI
 rw[show (xs++[x]).length=xs.length+1 by simp,qhL]
 simp
theorem qlD {α:Type} (xs:List α) (x y:α):(xs++[x]).set xs.length y=xs++[y]:=by simp
theorem quO (s:S5) (m n:Int):qoF [stT s,.int m,.int n]= .ok (stT (s.1,s.2.1,m,s.2.2.2.1+1,s.2.2.2.2+n)):=by
 have l5:(5:Nat)≤1000:=by decide
 have a0:gIx (stT s) (.int 0)= .ok (.str s.1):=rfl
 have a1:gIx (stT s) (.int 1)= .ok (.int s.2.1):=rfl
 have a3:gIx (stT s) (.int 3)= .ok (.int s.2.2.2.1):=rfl
 have a4:gIx (stT s) (.int 4)= .ok (.int s.2.2.2.2):=rfl
 unfold qoF qtE
 simp only[fnT,List.length_cons,List.length_nil,Nat.reduceAdd,qa7,qcm,qac,dB,dV,List.map_cons,List.map_nil,Nat.reduceSub,List.replicate,List.append_nil,List.getElem?_cons_zero,dC,qae,a0,a1,List.getElem?_cons_succ,a3,qbN,a4,qam,l5,if_true,outT]
 rfl
abbrev bS:Ro→Rs Out:=dIf (qoV (dTB (dB gGt (dCQ qoP (dQV 2)) (dC (.int 0)))) (dTB (dB gLe (dB gSub (dV 3) (dB gIx (qno (dQV 2) (qdB (dC (.int 1)))) (dC (.int 2)))) (dV 1)))) (qq8 2 (qdB (dC (.int 1))) (qag qoF (qac (qno (dQV 2) (qdB (dC (.int 1)))) (qac (dV 3) (qac (dV 5) (qam)))))) (qmA 2 (qcm (qac (dV 4) (qac (dV 3) (qac (dV 3) (qac (dC (.int 1)) (qac (dV 5) (qam))))))))
theorem qkz {rs:List Row} {k:Str} {g:Int} (hg:0≤g) (h:Ris PL.mo rs) (hk: ∀r∈rs,r.2.1=k) (hl:rs.length≤100):t_5 [qao rs,.int g]= .ok (.lst (((qba g rs).map (sOf k)).map stT)):=by
 obtain ⟨ρ',e1,s3,s4,s5,e2⟩:=qch (dg:=gT 3 (gsC (gN 3) (gsC (gN 4) (gsC (gN 5) gsN)))) (f:=qbO) (db:=bS) (fun dn ρ=> ∃s3 s4 s5,ρ=[.fz (qao rs),.fz (.int g),.ow (((qba g dn).map (sOf k)).map stT),s3,s4,s5]) rs rs [] [.fz (qao rs),.fz (.int g),.ow [],.no,.no,.no] rfl
  (fun dn x qbY ρ hw ⟨s3,s4,s5,e⟩=>by
   subst e
   have hx:x∈rs:=by rw[←hw]; simp
   have kx:=hk x hx
   have hd:Ris PL.mo dn:=by rw[←hw] at h; exact (List.pairwise_append.mp h).1
   have G:=qhP hg dn hd
   have gl:=qks G
   have dl:dn.length<100:=by
    have:rs.length=dn.length+(qbY.length+1):=by rw[←hw]; simp
    lia
   obtain ⟨m,ky,nu⟩:=x
   have kx:ky=k:=kx
   subst kx
   refine ⟨[.fz (qao rs),.fz (.int g),.ow (((qba g dn).map (sOf ky)).map stT),.fz (.int m),.fz (.str ky),.fz (.int nu)],[.fz (qao rs),.fz (.int g),.ow (((qba g (dn++[(m,ky,nu)])).map (sOf ky)).map stT),.fz (.int m),.fz (.str ky),.fz (.int nu)],rfl,.inl ?_,_,_,_,rfl⟩
   rw[qcg]
   have l5:(5:Nat)≤1000:=by decide
   rcases List.eq_nil_or_concat (qba g dn) with z | ⟨a,p,z⟩
   ·rw[z,qhm]
    have g0:gGt (.int ((0:Nat):Int)) (.int 0)= .ok (.bl false):=rfl
    have l1:(1:Nat)≤1000:=by decide
    simp only[List.map_nil,dIf,qoV,dTB,dB,dCQ,dQV,List.getElem?_cons_succ,List.getElem?_cons_zero,qae,qoP,List.length_nil,dC,g0,dV,qno,qdB,qhR,ixQ,Bool.false_eq_true,if_false,qmA,qlk,qcm,qac,qam,List.length_cons,Nat.reduceAdd,l5,if_true,qc0,l1,List.nil_append,List.set_cons_succ,List.set_cons_zero,List.map_cons,qjs,stT]
   ·rw[List.concat_eq_append] at z
    rw[z] at G gl⊢
    have pn:p≠[]:=G.ne p (by simp)
    have em:((a++[p]).map (sOf ky)).map stT=(a.map (sOf ky)).map stT++[stT (sOf ky p)]:=by simp
    have ln:((a.map (sOf ky)).map stT++[stT (sOf ky p)]).length=a.length+1:=by simp
    have g0:gGt (.int ((a.length+1:Nat):Int)) (.int 0)= .ok (.bl true):=by
     show Rs.ok (T.bl (decide ((0:Int)<((a.length+1:Nat):Int))))=_
     rw[decide_eq_true (by lia)]
    have at1:=qmJ ((a.map (sOf ky)).map stT) (stT (sOf ky p))
    have i2:gIx (stT (sOf ky p)) (.int 2)= .ok (.int (qbt p)):=rfl
    have le:gLe (.int (m - qbt p)) (.int g)= .ok (.bl (decide (m - qbt p≤g))):=rfl
    have lg:=quO (sOf ky p) m nu
    have ix:ixN (a.length+1) (-1)=some a.length:=qhL _
    have st:=qlD ((a.map (sOf ky)).map stT) (stT (sOf ky p)) (stT (ky,qb4 p,m,(p.length:Int)+1,qcj p+nu))
    rw[show ((a.map (sOf ky)).map stT).length=a.length by simp] at st
    have ls:(a.length+1)+1≤1000:=by
     have:=gl
     simp at this
     lia
    rw[em,qcX]
    by_cases c:m - qbt p≤g
    ·have er:((a++[p++[(m,ky,nu)]]).map (sOf ky)).map stT=(a.map (sOf ky)).map stT++[stT (ky,qb4 p,m,(p.length:Int)+1,qcj p+nu)]:=by simp[qlH ky pn]
     rw[if_pos c,er]
     simp only[dIf,qoV,dTB,dB,dCQ,dQV,List.getElem?_cons_succ,List.getElem?_cons_zero,qae,qoP,ln,dC,g0,dV,qno,qdB,qhR,ixQ,at1,i2,qeK,le,decide_eq_true c,if_true,qq8,qlk,qag,qac,qam,lg,PL.putAt,List.set_cons_succ,List.set_cons_zero,ix,qmA,qcm,List.length_cons,List.length_nil,Nat.reduceAdd,Nat.reduceLeDiff,qc0]
     rw[show stT ((sOf ky p).1,(sOf ky p).2.1,m,(sOf ky p).2.2.2.1+1,(sOf ky p).2.2.2.2+nu)=stT (ky,qb4 p,m,(p.length:Int)+1,qcj p+nu) from rfl,st]
    ·have er:((a++[p]++[[(m,ky,nu)]]).map (sOf ky)).map stT=((a.map (sOf ky)).map stT++[stT (sOf ky p)])++[stT (ky,m,m,1,nu)]:=by simp[qjs]
     rw[if_neg c,er]
     simp only[dIf,qoV,dTB,dB,dCQ,dQV,List.getElem?_cons_succ,List.getElem?_cons_zero,qae,qoP,ln,dC,g0,dV,qno,qdB,qhR,ixQ,at1,i2,qeK,le,decide_eq_false c,if_true,qmA,qlk,qcm,qac,qam,List.length_cons,List.length_nil,Nat.reduceAdd,l5,qc0,ls,List.set_cons_succ,List.set_cons_zero,Bool.false_eq_true,if_false]
     rfl) ⟨.no,.no,.no,rfl⟩
 subst e2
 unfold t_5 d_5
 have l0:(0:Nat)≤1000:=by decide
 have dl:qd4 (qao rs)= .ok (rs.map qbO):=rfl
 simp only[fnT,List.length_cons,List.length_nil,Nat.reduceAdd,qaM,qg5,qfm,qam,qae,l0,if_true,List.map_cons,List.map_nil,Nat.reduceSub,List.replicate,List.cons_append,List.nil_append,List.set_cons_succ,List.set_cons_zero,qb2,qiQ,dI,dV,qa7,frz,List.getElem?_cons_zero,dl,e1,List.getElem?_cons_succ,outT]
end K18
end
section
namespace K18
open PySem L2 PL SetL
open SR (Ris srt qbg qaI qbr qbC qa1 qbe)
theorem qgt (D:List S5):qbH ((D.map stT).map fun t=>.tup (qct 1 0 t))=true:=by
 cases D with
 | nil=>rfl
 | cons s D=>
  show (qcv (qbq (.tup (qct 1 0 (stT s))))&&((D.map stT).map fun t=>T.tup (qct 1 0 t)).all fun u=>qbq u==qbq (.tup (qct 1 0 (stT s))))=true
  rw[Bool.and_eq_true]
  refine ⟨rfl,?_⟩
  rw[List.map_map,List.all_map,List.all_eq_true]
  intro _ _; rfl
theorem qje {D:List S5} (h:D.length<64):qcP 1 0 (true,D.map stT)= .ok ((qlz D).map stT):=by
 unfold qcP
 rw[if_pos ⟨⟨rfl,by rw[List.length_map]; exact h⟩,qgt D⟩]
 congr 1
 unfold qcY qlz
 have e:(D.map stT).map (qdJ 1 0)=D.map qfq:=by rw[List.map_map]; rfl
 rw[e]
 exact (qbg (k:=fun t=>qbr qbB (D.map qfq) (qdJ 1 0 t)) (f:=stT) (k':=fun s:S5=>qbr qbB (D.map qfq) (qfq s)) (fun b=>rfl) D).symm
theorem qii (g:Int) (a:List Str) (k:Str) (b:List Str) (rs:List Row):(qdo g (a++k::b) rs).length=(qdo g a rs).length+(((qba g (qaT rs k)).length)+(qdo g b rs).length):=by
 unfold qdo
 rw[List.flatMap_append,List.flatMap_cons]
 simp
theorem qq6 {rs:List Row} {g:Int} (hg:0≤g) (hg2:g≤99) (h:Log rs) (hl:rs.length<64):qi4 [qao rs,.int g]= .ok (.lst ((qat g rs).map stT)):=by
 have hw:=qgq hg h.ris
 obtain ⟨ρ',e1,s3,e2⟩:=qch (dg:=gN 3) (f:=T.str) (db:=qra 2 (dQ (qag t_5 (qac (qag qi2 (qac (dV 0) (qac (dV 3) (qam)))) (qac (dV 1) (qam)))))) (fun dn ρ=> ∃s3,ρ=[.fz (qao rs),.fz (.int g),.ow ((qdo g dn rs).map stT),s3]) (qbF rs) (qbF rs) [] [.fz (qao rs),.fz (.int g),.ow [],.no] rfl
  (fun dn k qbY ρ hk ⟨s3,e⟩=>by
   subst e
   refine ⟨_,[.fz (qao rs),.fz (.int g),.ow ((qdo g (dn++[k]) rs).map stT),.fz (.str k)],rfl,.inl ?_,_,rfl⟩
   have o:=qkz (k:=k) hg (qho h.ris k) (fun r hr=>by simpa using (List.mem_filter.mp hr).2) (by have:=List.length_filter_le (fun r:Row=>r.2.1==k) rs; unfold qaT; lia)
   have sp:=qii g dn k qbY rs
   rw[hk] at sp
   have lb:(qdo g dn rs).length+(qba g (qaT rs k)).length≤1000:=by lia
   rw[qja,List.map_append]
   simp only[qra,qlk,List.set_cons_succ,List.set_cons_zero,List.getElem?_cons_succ,List.getElem?_cons_zero,dQ,qag,qac,dV,qam,qae,qsT,o,qcq,qc0,List.length_map,lb,if_true]) ⟨.no,rfl⟩
 subst e2
 unfold qi4 qtU
 have l0:(0:Nat)≤1000:=by decide
 have lk:=qtA hl
 have so:=qje (D:=qdo g (qbF rs) rs) (by lia)
 simp only[fnT,List.length_cons,List.length_nil,Nat.reduceAdd,qaM,qa6,qag,qac,dV,List.map_cons,List.map_nil,Nat.reduceSub,List.replicate,List.cons_append,List.nil_append,List.getElem?_cons_zero,qam,qae,qbb h,qb2,dC,qg5,qfm,l0,if_true,qiQ,dI,qa7,dFz,qlm,dQV,List.getElem?_cons_succ,qh1 ⟨hg,hg2⟩,List.set_cons_succ,List.set_cons_zero,lk,qa9,e1,so,outT]
 rfl
def diffs (p:List Row):List Int:=(p.zip (p.drop 1)).map fun x=>x.2.1 - x.1.1
theorem qnt (as bs:List Row):qlg (as.map fun r=>T.int r.1) (bs.map fun r=>T.int r.1)=(as.zip bs).map fun p=>T.tup [T.int p.1.1,T.int p.2.1]:=by
 unfold qlg
 rw[List.zip_map,List.map_map]
 rfl
theorem qtu {rs:List Row} (h:Log rs) (k:Str):qmT [qao rs,.str k]= .ok (.lst ((diffs (qaT rs k)).map T.int)):=by
 have c1:qaC 1 [] (dI (qag qi2 (qac (dV 0) (qac (dV 1) (qam))))) (gN 0) (qcl) (dB gIx (dV 0) (dC (.int 0))) [.fz (qao rs),.fz (.str k),.no]= .ok (((qaT rs k).filter fun _=>true).map fun r=>T.int r.1):=by
  refine qbW (f:=qbO) ?_ fun r hr=>⟨rfl,fun _=>rfl⟩
  simp only[dI,qag,qac,dV,List.getElem?_cons_zero,List.getElem?_cons_succ,qam,qae,qsT]
  rfl
 rw[qay] at c1
 have c2:qaC 2 [] (dIZ (qac (dV 2) (qac (dFz (qi7 (dQV 2) (dOS (dC (.int 1))) (dON))) (qam)))) (gT 2 (gsC (gN 0) (gsC (gN 1) (gsN)))) (qcl) (dB gSub (dV 1) (dV 0)) [.fz (qao rs),.fz (.str k),.fz (.lst ((qaT rs k).map fun r=>T.int r.1))]= .ok ((((qaT rs k).zip ((qaT rs k).drop 1)).filter fun _=>true).map fun x=>T.int (x.2.1 - x.1.1)):=by
  refine qh6 (a:=fun p:Row×Row=>T.int p.1.1) (b:=fun p=>T.int p.2.1) ?_ fun p hp=>⟨rfl,fun _=>rfl⟩
  simp only[dIZ,qac,dV,dFz,qi7,dQV,dOS,dC,dON,qam,qio,qae,List.getElem?_cons_zero,List.getElem?_cons_succ,if_true,qs0,qlp]
  rw[←List.map_drop,qnt]
 rw[qay] at c2
 unfold qmT qtD
 simp only[fnT,List.length_cons,List.length_nil,Nat.reduceAdd,qaM,qa6,qag,qac,dV,List.map_cons,List.map_nil,Nat.reduceSub,List.replicate,List.cons_append,List.nil_append,List.getElem?_cons_zero,qam,qae,qbb h,qb2,qcH,dFz,qa7,c1,List.set_cons_succ,List.set_cons_zero,c2,outT,if_true]
 unfold diffs
 rw[List.map_map]
 rfl
theorem qa5 {d e:Ro→Rs Out} {ρ ρ':Ro} {r:Rs Out} (h:d ρ= .ok (.nx ρ')) (h2:e ρ'=r):qaM d e ρ=r:=by
 unfold qaM; rw[h]; exact h2
end K18
end
section
namespace PL
open PySem L2 SetL
open SR (Ris srt qbg qaI qbr qbC qa1 qbe qbM qb7 qcc qeZ eq_of_ris)
theorem qjc {D L:List T} (p:List.Perm D L) (hL:L.Pairwise fun a b=>qbB (qbT b) (qbT a)=false) (inj: ∀a∈L,∀b∈L,qbT a=qbT b→a=b):qdh D=L:=by
 unfold qdh qcY
 have mm: ∀{s:T},s∈D→qbT s∈D.map qbT:=fun hs=>List.mem_map.mpr ⟨_,hs,rfl⟩
 have mD: ∀{s:T},s∈L→s∈D:=fun hs=>p.mem_iff.mpr hs
 refine eq_of_ris (k:=fun s=>qbr qbB (D.map qbT) (qbT s)) (fun a ha b hb e=> ?_) (qbC _) ?_ ((qaI _).trans p)
 ·have ha':=(qa1 _).mp ha
  have hb':=(qa1 _).mp hb
  exact inj a (p.mem_iff.mp ha') b (p.mem_iff.mp hb') (qeZ qjN (mm ha') (mm hb') e)
 ·refine List.Pairwise.imp_of_mem (fun {a b} ha hb h=> ?_) hL
  have h1:=qcc qjN (mm (mD hb)) (mm (mD ha))
  rw[h] at h1
  have:=of_decide_eq_false h1
  show qbr qbB (D.map qbT) (qbT a)≤qbr qbB (D.map qbT) (qbT b)
  lia
theorem qhn {α:Type} {lt:α→α→Bool} (o:SR.Ord lt) (as:List α):(qbM lt as).Pairwise fun a b=>lt b a=false:=by
 unfold qbM
 refine List.Pairwise.imp_of_mem (fun {a b} ha hb h=> ?_) (qbC (k:=qbr lt as) as)
 have h1:=qcc o ((qa1 _).mp hb) ((qa1 _).mp ha)
 have h:qbr lt as a≤qbr lt as b:=h
 rw[←h1]
 exact decide_eq_false (by lia)
def qlj (d:List (Key×Int)) (k:Key) (v:Int):List (Key×Int):=if (d.any fun p=>decide (p.1=k))=true then d.map (fun p=>if p.1=k then (p.1,v) else p) else d++[(k,v)]
def up (p:Key×Int):Key×T:=(p.1,.int p.2)
theorem qnM (d:List (Key×Int)) (k:Key) (v:Int):qpD (d.map up) k (.int v)=(qlj d k v).map up:=by
 unfold qpD qlj
 have e:(d.map up).any (fun kv=>decide (kv.1=k))=d.any fun p=>decide (p.1=k):=by rw[List.any_map]; rfl
 rw[e]
 split
 ·rw[List.map_map,List.map_map]
  refine List.map_congr_left fun p _=> ?_
  show (if p.1=k then (p.1,T.int v) else up p)=up (if p.1=k then (p.1,v) else p)
  split<;>rfl
 ·rw[List.map_append]; rfl
def qaw (l:List (Key×Int)):List (Key×Int):=l.foldl (fun d p=>qlj d p.1 p.2) []
theorem qcb (l:List (Key×Int)) (p:Key×Int):qaw (l++[p])=qlj (qaw l) p.1 p.2:=by simp[qaw,List.foldl_append]
theorem qfF (d:List (Key×Int)) (k:Key) (v:Int):((k∈d.map (·.1))∧(qlj d k v).map (·.1)=d.map (·.1))∨(k∉d.map (·.1)∧(qlj d k v).map (·.1)=d.map (·.1)++[k]):=by
 unfold qlj
 by_cases c:(d.any fun p=>decide (p.1=k))=true
 ·rw[if_pos c]
  obtain ⟨p,hp,e⟩:=List.any_eq_true.mp c
  refine .inl ⟨List.mem_map.mpr ⟨p,hp,of_decide_eq_true e⟩,?_⟩
  rw[List.map_map]
  refine List.map_congr_left fun q _=> ?_
  show (if q.1=k then (q.1,v) else q).1=q.1
  split<;>rfl
 ·rw[if_neg c]
  have:k∉d.map (·.1):=fun h=>by
   obtain ⟨p,hp,e⟩:=List.mem_map.mp h
   exact c (List.any_eq_true.mpr ⟨p,hp,decide_eq_true e⟩)
  refine .inr ⟨this,?_⟩
  rw[List.map_append]
  rfl
theorem qlM (d:List (Key×Int)) (k:Key) (v:Int) (k':Key) (v':Int):(k',v')∈qlj d k v↔if k'=k then v'=v else (k',v')∈d:=by
 unfold qlj
 by_cases c:(d.any fun p=>decide (p.1=k))=true
 ·rw[if_pos c]
  obtain ⟨p,hp,e⟩:=List.any_eq_true.mp c
  have e:=of_decide_eq_true e
  by_cases ck:k'=k
  ·rw[if_pos ck]
   constructor
   ·intro h
    obtain ⟨q,hq,eq⟩:=List.mem_map.mp h
    by_cases cq:q.1=k
    ·rw[if_pos cq] at eq; cases eq; rfl
    ·rw[if_neg cq] at eq; rw[eq] at cq; exact absurd ck cq
   ·intro h
    exact List.mem_map.mpr ⟨p,hp,by rw[if_pos e,e,ck,h]⟩
  ·rw[if_neg ck]
   constructor
   ·intro h
    obtain ⟨q,hq,eq⟩:=List.mem_map.mp h
    by_cases cq:q.1=k
    ·rw[if_pos cq] at eq; cases eq; exact absurd cq ck
    ·rw[if_neg cq] at eq; rw[←eq]; exact hq
   ·intro h
    exact List.mem_map.mpr ⟨(k',v'),h,if_neg ck⟩
 ·rw[if_neg c]
  have nk: ∀u,(k,u)∉d:=fun u h=>c (List.any_eq_true.mpr ⟨(k,u),h,decide_eq_true rfl⟩)
  rw[List.mem_append,List.mem_singleton]
  by_cases ck:k'=k
  ·rw[if_pos ck]
   subst ck
   constructor
   ·rintro (h | h)
    ·exact absurd h (nk _)
    ·cases h; rfl
   ·intro h; rw[h]; exact .inr rfl
  ·rw[if_neg ck]
   constructor
   ·rintro (h | h)
    ·exact h
    ·cases h; exact absurd rfl ck
   ·exact .inl
def qcx (l:List (Key×Int)) (k:Key):Int:=((l.filter fun p=>decide (p.1=k)).getLast?.map (·.2)).getD 0
theorem qiP (l:List (Key×Int)):((qaw l).map (·.1)).Nodup:=by
 refine SR.snoc_ind (P:=fun l=>((qaw l).map (·.1)).Nodup) List.nodup_nil (fun l p ih=> ?_) l
 rw[qcb]
 rcases qfF (qaw l) p.1 p.2 with ⟨_,e⟩ | ⟨h,e⟩
 ·rw[e]; exact ih
 ·rw[e]
  exact List.nodup_append.mpr ⟨ih,by simp,fun a ha b hb e=>h (by rw[List.mem_singleton.mp hb] at e; rw[←e]; exact ha)⟩
theorem qfi (l:List (Key×Int)) (k:Key) (v:Int):(k,v)∈qaw l↔((l.filter fun p=>decide (p.1=k)).getLast?.map (·.2))=some v:=by
 refine SR.snoc_ind (P:=fun l=>(k,v)∈qaw l↔((l.filter fun p=>decide (p.1=k)).getLast?.map (·.2))=some v) (by simp[qaw]) (fun l p ih=> ?_) l
 rw[qcb,qlM,List.filter_append]
 by_cases c:k=p.1
 ·rw[if_pos c]
  have:[p].filter (fun q=>decide (q.1=k))=[p]:=by simp[c]
  rw[this,List.getLast?_append]
  simp
  exact ⟨fun h=>h.symm,fun h=>h.symm⟩
 ·rw[if_neg c]
  have:[p].filter (fun q=>decide (q.1=k))=[]:=by simp; exact fun h=>c h.symm
  rw[this,List.append_nil]
  exact ih
theorem qds {β γ:Type} {l:List (β×γ)} (h:(l.map (·.1)).Nodup):l.Nodup:=by
 induction l with
 | nil=>exact List.nodup_nil
 | cons x l ih=>
  rw[List.map_cons,List.nodup_cons] at h
  exact List.nodup_cons.mpr ⟨fun hx=>h.1 (List.mem_map.mpr ⟨x,hx,rfl⟩),ih h.2⟩
theorem qkH {l:List (Key×Int)} {ks:List Key} (nd:ks.Nodup) (hk: ∀k,k∈ks↔∃p∈l,p.1=k):List.Perm (qaw l) (ks.map fun k=>(k,qcx l k)):=by
 have e:(ks.map fun k=>(k,qcx l k)).map (·.1)=ks:=by rw[List.map_map]; simp[Function.comp_def]
 refine (List.perm_ext_iff_of_nodup (qds (qiP l)) (qds (by rw[e]; exact nd))).mpr fun hq135=> ?_
 obtain ⟨k,v⟩:=hq135
 rw[qfi]
 constructor
 ·intro h
  refine List.mem_map.mpr ⟨k,(hk k).mpr ?_,?_⟩
  ·cases q:(l.filter fun p=>decide (p.1=k)).getLast? with
   | none=>rw[q] at h; cases h
   | some p=>
    have:=List.mem_of_getLast? q
    obtain ⟨h1,h2⟩:=List.mem_filter.mp this
    exact ⟨p,h1,of_decide_eq_true h2⟩
  ·show (k,qcx l k)=(k,v)
   unfold qcx
   rw[h]; rfl
 ·intro h
  obtain ⟨k',hk',e⟩:=List.mem_map.mp h
  cases e
  obtain ⟨p,hp,ep⟩:=(hk _).mp hk'
  unfold qcx
  cases q:(l.filter fun p=>decide (p.1=k)).getLast? with
  | none=>
   have z:=List.getLast?_eq_none_iff.mp q
   have h2:p∈l.filter fun p=>decide (p.1=k):=List.mem_filter.mpr ⟨hp,decide_eq_true ep⟩
   rw[z] at h2
   cases h2
  | some p=>rfl
theorem qdK (l:List (Key×Int)):(qaw l).length≤l.length:=by
 refine SR.snoc_ind (P:=fun l=>(qaw l).length≤l.length) (Nat.le_refl _) (fun l p ih=> ?_) l
 rw[qcb,List.length_append]
 rcases qfF (qaw l) p.1 p.2 with ⟨_,e⟩ | ⟨h,e⟩
 ·have h:=congrArg List.length e
  rw[List.length_map,List.length_map] at h
  lia
 ·have h:=congrArg List.length e
  rw[List.length_map,List.length_append,List.length_map] at h
  simp at h⊢
  lia
def kyK:Key→Ky
 | .inl i=>.i i
 | .inr s=>.s s
def itT (p:Key×Int):T:=qbm (up p)
theorem qfa (p:Key×Int):qbT (itT p)=[kyK p.1,.i p.2]:=by
 obtain ⟨k,v⟩:=p
 cases k<;>rfl
theorem qj8 {a b:Key} (h:kyK a=kyK b):a=b:=by
 cases a<;>cases b<;>simp[kyK] at h<;>rw[h]
theorem qfT {l:List (Key×Int)} {ks:List Key} (nd:ks.Nodup) (hk: ∀k,k∈ks↔∃p∈l,p.1=k) (hs:ks.Pairwise fun a b=>qi6 (kyK b) (kyK a)=false):qdh ((qaw l).map itT)=ks.map fun k=>itT (k,qcx l k):=by
 have e:(ks.map fun k=>itT (k,qcx l k))=(ks.map fun k=>(k,qcx l k)).map itT:=by rw[List.map_map]; rfl
 rw[e]
 refine qjc ((qkH nd hk).map itT) ?_ fun a ha b hb h=> ?_
 ·rw[List.map_map,List.pairwise_map]
  refine List.Pairwise.imp (fun {a b} ⟨h1,h2⟩=> ?_) (List.Pairwise.and nd hs)
  show qbB (qbT (itT (b,qcx l b))) (qbT (itT (a,qcx l a)))=false
  rw[qfa,qfa]
  show (if kyK b=kyK a then _ else qi6 (kyK b) (kyK a))=false
  rw[if_neg (fun z=>h1 (qj8 z).symm)]
  exact h2
 ·obtain ⟨p,hp,rfl⟩:=List.mem_map.mp ha
  obtain ⟨q,hq,rfl⟩:=List.mem_map.mp hb
  rw[qfa,qfa] at h
  simp at h
  rw[Prod.ext (qj8 h.1) h.2]
theorem qfA {l:List (Key×Int)} {ks:List Key} (nd:ks.Nodup) (hk: ∀k,k∈ks↔∃p∈l,p.1=k) (hs:ks.Pairwise fun a b=>qi6 (kyK b) (kyK a)=false) (hl:l.length<64) (hh:(∀p∈l,∃i,p.1= .inl i)∨∀p∈l,∃x,p.1= .inr x):qdp ((qaw l).map up)= .ok (ks.map fun k=>itT (k,qcx l k)):=by
 have em:((qaw l).map up).map qbm=(qaw l).map itT:=by rw[List.map_map]; rfl
 have dm: ∀p∈qaw l,p.1∈l.map (·.1):=fun p hp=>by
  have h:=(qfi l p.1 p.2).mp hp
  cases q:(l.filter fun q=>decide (q.1=p.1)).getLast? with
  | none=>rw[q] at h; cases h
  | some r=>
   obtain ⟨h1,h2⟩:=List.mem_filter.mp (List.mem_of_getLast? q)
   exact List.mem_map.mpr ⟨r,h1,of_decide_eq_true h2⟩
 have sb:qbH ((qaw l).map itT)=true:=by
  have sh: ∃n,(n=0∨n=1)∧∀p∈qaw l,qbq (itT p)=[2,n,0]:=by
   rcases hh with hh | hh
   ·refine ⟨0,.inl rfl,fun p hp=> ?_⟩
    obtain ⟨q,hq,e⟩:=List.mem_map.mp (dm p hp)
    obtain ⟨i,ei⟩:=hh q hq
    obtain ⟨k,v⟩:=p
    have:k= .inl i:=by rw[←ei,e]
    subst this
    rfl
   ·refine ⟨1,.inr rfl,fun p hp=> ?_⟩
    obtain ⟨q,hq,e⟩:=List.mem_map.mp (dm p hp)
    obtain ⟨i,ei⟩:=hh q hq
    obtain ⟨k,v⟩:=p
    have:k= .inr i:=by rw[←ei,e]
    subst this
    rfl
  obtain ⟨n,hn,sh⟩:=sh
  cases q:qaw l with
  | nil=>rfl
  | cons p d=>
   rw[q] at sh
   show (qcv (qbq (itT p))&&(d.map itT).all fun u=>qbq u==qbq (itT p))=true
   rw[sh p List.mem_cons_self,Bool.and_eq_true]
   refine ⟨by rcases hn with rfl | rfl<;>rfl,?_⟩
   rw[List.all_map,List.all_eq_true]
   intro x hx
   show (qbq (itT x)==[2,n,0])=true
   rw[sh x (List.mem_cons_of_mem _ hx)]
   simp
 have dl:=qdK l
 unfold qdp
 rw[em,if_pos ⟨by rw[List.length_map]; lia,sb⟩,qfT nd hk hs]
end PL
end
section
namespace PL
open PySem L2 SetL
open SR (Ris srt qbg qaI qbr qbC qa1 qbe qbM qb7)
def qaU (p:List Row):Int:=(p.getLast?.map fun r=>r.2.2).getD 0
def qdq (rs:List Row) (k:Str) (m:Int):List Row:=rs.filter fun r=>r.2.1==k&&decide (r.1≤m)
def lAt (rs:List Row) (m:Int):List (Key×Int):=(rs.filter fun r=>decide (r.1≤m)).map fun r=>(.inr r.2.1,r.2.2)
def atK (rs:List Row) (m:Int):List Str:=(qbF rs).filter fun k=> !(qdq rs k m).isEmpty
theorem qjv {rs:List Row} {k:Str} {m:Int}:(!(qdq rs k m).isEmpty)=true↔∃r∈rs,r.2.1=k∧r.1≤m:=by
 unfold qdq
 constructor
 ·intro h
  cases q:rs.filter fun r=>r.2.1==k&&decide (r.1≤m) with
  | nil=>rw[q] at h; cases h
  | cons x l=>
   have:x∈rs.filter fun r=>r.2.1==k&&decide (r.1≤m):=by rw[q]; exact List.mem_cons_self
   obtain ⟨h1,h2⟩:=List.mem_filter.mp this
   rw[Bool.and_eq_true] at h2
   exact ⟨x,h1,by simpa using h2.1,of_decide_eq_true h2.2⟩
 ·intro hq24
  obtain ⟨r,hr,e1,e2⟩:=hq24
  have:r∈rs.filter fun r=>r.2.1==k&&decide (r.1≤m):=List.mem_filter.mpr ⟨hr,by simp[e1,e2]⟩
  cases q:rs.filter fun r=>r.2.1==k&&decide (r.1≤m) with
  | nil=>rw[q] at this; cases this
  | cons x l=>rfl
theorem qk8 {rs:List Row} {k:Str} {m:Int}:k∈atK rs m↔∃r∈rs,r.2.1=k∧r.1≤m:=by
 unfold atK
 rw[List.mem_filter,qjv]
 exact ⟨fun h=>h.2,fun h=>⟨qhE.mpr (let ⟨r,a,b,_⟩:=h; ⟨r,a,b⟩),h⟩⟩
theorem qk7 (rs:List Row) (m:Int):(atK rs m).Nodup:=List.Pairwise.filter _ (qeE rs)
theorem qmf (ss:List Str):(qel ss).Pairwise fun a b=>RH.ltS b a=false:=qhn RH.ordS _
theorem qe9 (ss:List Int):(qd3 ss).Pairwise fun a b=>decide (b<a)=false:=qhn quq _
theorem qcS (ss:List Int):(qd3 ss).Nodup:=(qaI (k:=qbr (fun a b:Int=>decide (a<b)) (dd ss)) (dd ss)).nodup_iff.mpr (qbJ _)
theorem qcy {ss:List Int} {x:Int}:x∈qd3 ss↔x∈ss:=((qaI (k:=qbr (fun a b:Int=>decide (a<b)) (dd ss)) (dd ss)).mem_iff).trans qck
theorem qjT {ks:List Str} (h:ks.Nodup):(ks.map (Sum.inr:Str→Key)).Nodup:=by
 refine List.pairwise_map.mpr (List.Pairwise.imp (fun {a b} h e=>h ?_) h)
 cases e; rfl
theorem qjU {ks:List Int} (h:ks.Nodup):(ks.map (Sum.inl:Int→Key)).Nodup:=by
 refine List.pairwise_map.mpr (List.Pairwise.imp (fun {a b} h e=>h ?_) h)
 cases e; rfl
theorem qmd (rs:List Row) (m:Int) (k:Str):qcx (lAt rs m) (.inr k)=qaU (qdq rs k m):=by
 unfold qcx lAt qaU qdq
 rw[List.filter_map,List.filter_filter,List.getLast?_map,Option.map_map]
 have e:(fun r:Row=>(((fun p:Key×Int=>decide (p.1= .inr k))∘fun r:Row=>((Sum.inr r.2.1:Key),r.2.2)) r&&decide (r.1≤m)))=fun r:Row=>(r.2.1==k&&decide (r.1≤m)):=by
  funext r
  show (decide ((Sum.inr r.2.1:Key)= .inr k)&&_)=_
  by_cases c:r.2.1=k
  ·subst c; simp
  ·have: ¬((Sum.inr r.2.1:Key)= .inr k):=fun z=>c (by cases z; rfl)
   rw[decide_eq_false this]
   simp[c]
 rw[e]
 rfl
theorem qeh {rs:List Row} (m:Int) (hl:rs.length<64):qdp ((qaw (lAt rs m)).map up)= .ok ((atK rs m).map fun k=>itT (.inr k,qaU (qdq rs k m))):=by
 have h:=qfA (l:=lAt rs m) (ks:=(atK rs m).map .inr) (qjT (qk7 rs m)) (fun k=> ?_) ?_ ?_ (.inr fun p hp=> ?_)
 ·rw[h,List.map_map]
  refine congrArg Rs.ok (List.map_congr_left fun k _=> ?_)
  show itT (.inr k,qcx (lAt rs m) (.inr k))=_
  rw[qmd]
 ·constructor
  ·intro hk
   obtain ⟨x,hx,rfl⟩:=List.mem_map.mp hk
   obtain ⟨r,hr,e1,e2⟩:=qk8.mp hx
   exact ⟨(.inr r.2.1,r.2.2),List.mem_map.mpr ⟨r,List.mem_filter.mpr ⟨hr,decide_eq_true e2⟩,rfl⟩,by rw[e1]⟩
  ·intro hq68
   obtain ⟨p,hp,e⟩:=hq68
   obtain ⟨r,hr,rfl⟩:=List.mem_map.mp hp
   obtain ⟨h1,h2⟩:=List.mem_filter.mp hr
   rw[←e]
   exact List.mem_map.mpr ⟨r.2.1,qk8.mpr ⟨r,h1,rfl,of_decide_eq_true h2⟩,rfl⟩
 ·rw[List.pairwise_map]
  exact List.Pairwise.filter _ (qmf _)
 ·unfold lAt
  rw[List.length_map]
  exact Nat.lt_of_le_of_lt (List.length_filter_le _ _) hl
 ·obtain ⟨r,hr,rfl⟩:=List.mem_map.mp hp
  exact ⟨_,rfl⟩
def lHi (rs:List Row):List (Key×Int):=rs.map fun r=>(.inl r.1,r.2.2)
def atM (rs:List Row) (m:Int):List Row:=rs.filter fun r=>r.1==m
theorem qmb (rs:List Row) (m:Int):qcx (lHi rs) (.inl m)=qaU (atM rs m):=by
 unfold qcx lHi qaU atM
 rw[List.filter_map,List.getLast?_map,Option.map_map]
 have e:((fun p:Key×Int=>decide (p.1= .inl m))∘fun r:Row=>((Sum.inl r.1:Key),r.2.2))=fun r:Row=>r.1==m:=by
  funext r
  show decide ((Sum.inl r.1:Key)= .inl m)=_
  by_cases c:r.1=m
  ·subst c; simp
  ·have: ¬((Sum.inl r.1:Key)= .inl m):=fun z=>c (by cases z; rfl)
   rw[decide_eq_false this]
   simp[c]
 rw[e]
 rfl
theorem qgS {rs:List Row} (hl:rs.length<64):qdp ((qaw (lHi rs)).map up)= .ok ((qd3 (rs.map mo)).map fun m=>itT (.inl m,qaU (atM rs m))):=by
 have h:=qfA (l:=lHi rs) (ks:=(qd3 (rs.map mo)).map .inl) (qjU (qcS _)) (fun k=> ?_) ?_ ?_ (.inl fun p hp=> ?_)
 ·rw[h,List.map_map]
  refine congrArg Rs.ok (List.map_congr_left fun k _=> ?_)
  show itT (.inl k,qcx (lHi rs) (.inl k))=_
  rw[qmb]
 ·constructor
  ·intro hk
   obtain ⟨x,hx,rfl⟩:=List.mem_map.mp hk
   obtain ⟨r,hr,e1⟩:=List.mem_map.mp (qcy.mp hx)
   have e1:r.1=x:=e1
   exact ⟨(.inl r.1,r.2.2),List.mem_map.mpr ⟨r,hr,rfl⟩,by rw[e1]⟩
  ·intro hq108
   obtain ⟨p,hp,e⟩:=hq108
   obtain ⟨r,hr,rfl⟩:=List.mem_map.mp hp
   rw[←e]
   exact List.mem_map.mpr ⟨r.1,qcy.mpr (List.mem_map.mpr ⟨r,hr,rfl⟩),rfl⟩
 ·rw[List.pairwise_map]
  exact qe9 _
 ·unfold lHi
  rw[List.length_map]
  exact hl
 ·obtain ⟨r,hr,rfl⟩:=List.mem_map.mp hp
  exact ⟨_,rfl⟩
end PL
end
section
namespace K18
open PySem L2 PL SetL
open SR (Ris srt qbg qaI qbr qbC qa1 qbe qbM)
theorem qbV {m:Int} (h:0≤m∧m≤999):t_1 [.int m]= .ok .non:=by
 unfold t_1 d_1
 simp only[fnT,List.length_cons,List.length_nil,Nat.reduceAdd,qa6,qag,qac,dV,List.map_cons,List.map_nil,Nat.reduceSub,List.replicate,List.append_nil,List.getElem?_cons_zero,dC,qam,qae,qh1 h,outT,if_true]
abbrev bN:Ro→Rs Out:=dIf (dTB (dB gLe (dB gIx (dV 3) (dC (.int 0))) (dV 1))) (qf7 2 (dB gIx (dV 3) (dC (.int 1))) (dB gIx (dV 3) (dC (.int 2)))) (qaN)
theorem qkF {ρ:Ro} {i:Nat} {dk da:Ro→Rs T} {d:List (Key×Int)} {t:T} {k:Key} {v:Int} (h0:ρ[i]? =some (.od (d.map up))) (hk:dk ρ= .ok t) (ht:qfS t=some k) (ha:da ρ= .ok (.int v)) (hl:d.length≤1000):qf7 i dk da ρ= .ok (.nx (ρ.set i (.od ((qlj d k v).map up)))):=by
 unfold qf7 qsc qnN
 rw[h0]
 simp only[qae,ha,hk,ht]
 rw[if_pos (by rw[List.length_map]; exact hl),qnM]
theorem qmc (rs:List Row) (r:Row) (m:Int):lAt (rs++[r]) m=lAt rs m++if r.1≤m then [(.inr r.2.1,r.2.2)] else []:=by
 unfold lAt
 rw[List.filter_append,List.map_append]
 congr 1
 by_cases c:r.1≤m
 ·rw[if_pos c]; simp[c]
 ·rw[if_neg c]; simp[c]
theorem qdd {rs:List Row} {m:Int} (hl:rs.length<64):t_7 [qao rs,.int m]= .ok (.dct ((qaw (lAt rs m)).map up)):=by
 obtain ⟨ρ',e1,s3,e2⟩:=qch (dg:=gN 3) (f:=qbO) (db:=bN) (fun dn ρ=> ∃s3,ρ=[.fz (qao rs),.fz (.int m),.od ((qaw (lAt dn m)).map up),s3]) rs rs [] [.fz (qao rs),.fz (.int m),.od [],.no] rfl
  (fun dn r qbY ρ hk ⟨s3,e⟩=>by
   subst e
   have hd:(qaw (lAt dn m)).length≤1000:=by
    have h1:=qdK (lAt dn m)
    have h2:(lAt dn m).length≤dn.length:=by unfold lAt; rw[List.length_map]; exact List.length_filter_le _ _
    have h3:=congrArg List.length hk
    rw[List.length_append] at h3
    lia
   refine ⟨[.fz (qao rs),.fz (.int m),.od ((qaw (lAt dn m)).map up),.fz (qbO r)],[.fz (qao rs),.fz (.int m),.od ((qaw (lAt (dn++[r]) m)).map up),.fz (qbO r)],rfl,.inl ?_,_,rfl⟩
   rw[qmc]
   by_cases c:r.1≤m
   ·rw[if_pos c,qcb]
    have p:=qkF (i:=2) (dk:=dB gIx (dV 3) (dC (.int 1))) (da:=dB gIx (dV 3) (dC (.int 2))) (ρ:=[.fz (qao rs),.fz (.int m),.od ((qaw (lAt dn m)).map up),.fz (qbO r)]) (t:=.str r.2.1) (v:=r.2.2) rfl rfl rfl rfl hd
    unfold bN dIf
    simp only[dTB,dB,dV,List.getElem?_cons_succ,List.getElem?_cons_zero,dC,qae,qoO,qiL,decide_eq_true c,p,List.set_cons_succ,List.set_cons_zero,qaN,if_true]
   ·rw[if_neg c,List.append_nil]
    unfold bN
    simp only[dIf,dTB,dB,dV,List.getElem?_cons_succ,List.getElem?_cons_zero,dC,qae,qoO,qiL,decide_eq_false c,qaN,Bool.false_eq_true,if_false]) ⟨.no,rfl⟩
 subst e2
 unfold t_7 d_7
 have il:qd4 (qao rs)= .ok (rs.map qbO):=rfl
 simp only[fnT,List.length_cons,List.length_nil,Nat.reduceAdd,qaM,qkT,List.map_cons,List.map_nil,Nat.reduceSub,List.replicate,List.cons_append,List.nil_append,List.set_cons_succ,List.set_cons_zero,qb2,qiQ,dI,dV,qa7,frzD,qae,List.getElem?_cons_zero,il,e1,List.getElem?_cons_succ,outT,if_true]
theorem qq5 {rs:List Row} {m:Int} (h:Log rs) (hl:rs.length<64) (hm:0≤m∧m≤999):qi5 [qao rs,.int m]= .ok (.lst ((atK rs m).map fun k=>itT (.inr k,qaU (qdq rs k m)))):=by
 have en:=qdd (m:=m) hl
 have es:=qeh m hl
 have dc: ∀kvs,qox (.dct kvs)= .ok kvs:=fun _=>rfl
 unfold qi5 qtW
 simp only[fnT,List.length_cons,List.length_nil,Nat.reduceAdd,qaM,qa6,qag,qac,dV,List.map_cons,List.map_nil,Nat.reduceSub,List.replicate,List.append_nil,List.getElem?_cons_zero,qam,qae,qbb h,qb2,qa7,dFz,qed,dDE,List.getElem?_cons_succ,qbV hm,en,dc,es,outT,if_true]
abbrev bH:Ro→Rs Out:=qf7 2 (dB gIx (dV 3) (dC (.int 0))) (dB gIx (dV 3) (dC (.int 2)))
theorem qkA {rs:List Row} {k:Str} (h:Log rs) (hl:rs.length<64):qi3 [qao rs,.str k]= .ok (.lst ((qd3 ((qaT rs k).map mo)).map fun m=>itT (.inl m,qaU (atM (qaT rs k) m)))):=by
 have lo:(qaT rs k).length<64:=by
  have:=List.length_filter_le (fun r:Row=>r.2.1==k) rs
  unfold qaT; lia
 obtain ⟨ρ',e1,s3,e2⟩:=qch (dg:=gN 3) (f:=qbO) (db:=bH) (fun dn ρ=> ∃s3,ρ=[.fz (qao rs),.fz (.str k),.od ((qaw (lHi dn)).map up),s3]) (qaT rs k) (qaT rs k) [] [.fz (qao rs),.fz (.str k),.od [],.no] rfl
  (fun dn r qbY ρ hk ⟨s3,e⟩=>by
   subst e
   have hd:(qaw (lHi dn)).length≤1000:=by
    have h1:=qdK (lHi dn)
    have h2:(lHi dn).length=dn.length:=by unfold lHi; rw[List.length_map]
    have h3:=congrArg List.length hk
    rw[List.length_append] at h3
    lia
   refine ⟨[.fz (qao rs),.fz (.str k),.od ((qaw (lHi dn)).map up),.fz (qbO r)],[.fz (qao rs),.fz (.str k),.od ((qaw (lHi (dn++[r]))).map up),.fz (qbO r)],rfl,.inl ?_,_,rfl⟩
   have e:lHi (dn++[r])=lHi dn++[(.inl r.1,r.2.2)]:=by unfold lHi; rw[List.map_append]; rfl
   rw[e,qcb]
   exact qkF (i:=2) (dk:=dB gIx (dV 3) (dC (.int 0))) (da:=dB gIx (dV 3) (dC (.int 2))) (ρ:=[.fz (qao rs),.fz (.str k),.od ((qaw (lHi dn)).map up),.fz (qbO r)]) (t:=.int r.1) (v:=r.2.2) rfl rfl rfl rfl hd) ⟨.no,rfl⟩
 subst e2
 have es:=qgS lo
 unfold qi3 qtP
 have di:dI (qag qi2 (qac (dV 0) (qac (dV 1) (qam)))) [.fz (qao rs),.fz (.str k),.od [],.no]= .ok ((qaT rs k).map qbO):=by
  simp only[dI,qag,qac,dV,List.getElem?_cons_zero,List.getElem?_cons_succ,qam,qae,qsT]
  rfl
 simp only[fnT,List.length_cons,List.length_nil,Nat.reduceAdd,qaM,qa6,qag,qac,dV,List.map_cons,List.map_nil,Nat.reduceSub,List.replicate,List.cons_append,List.nil_append,List.getElem?_cons_zero,qam,qae,qbb h,qb2,qkT,qa7,dFz,List.set_cons_succ,List.set_cons_zero,if_true]
 unfold qiQ
 rw[di,qae,e1]
 simp only[qed,dDV,qae,List.getElem?_cons_succ,List.getElem?_cons_zero,es,outT]
end K18
end
section
namespace PL
open PySem L2 SetL
open SR (Ris srt qbg qaI qbr qbC qa1 qbe qbM qb7)
theorem qjz (ss:List Str) (x:Str):qbr qbB ((ss.map T.str).map qbT) (qbT (.str x))=qbr RH.ltS ss x:=by
 unfold qbr
 rw[List.map_map,List.countP_map]
 congr 1
 refine List.countP_congr fun y _=> ?_
 show qbB [Ky.s y] [Ky.s x]=true↔RH.ltS y x=true
 have:qbB [Ky.s y] [Ky.s x]=RH.ltS y x:=by
  show (if Ky.s y=Ky.s x then false else RH.ltS y x)=_
  by_cases c:y=x
  ·subst c; rw[if_pos rfl]; exact (RH.ordS.irr y).symm
  ·rw[if_neg (fun z=>c (by cases z; rfl))]
 rw[this]
theorem qik (ss:List Str):qdh (ss.map T.str)=(qbM RH.ltS ss).map T.str:=by
 unfold qdh qcY qbM
 rw[qbg (k:=fun t=>qbr qbB ((ss.map T.str).map qbT) (qbT t)) (f:=T.str) (k':=qbr RH.ltS ss)]
 exact fun b=>(qjz ss b).symm
theorem qeT (ss:List Str):qbH (ss.map T.str)=true:=by
 cases ss with
 | nil=>rfl
 | cons s ss=>
  show (qcv [1]&&(ss.map T.str).all fun u=>qbq u==[1])=true
  rw[Bool.and_eq_true]
  refine ⟨rfl,?_⟩
  rw[List.all_map,List.all_eq_true]
  intro _ _; rfl
theorem qil {ss:List Str} (h:ss.length<64):qim (true,ss.map T.str)= .ok ((qbM RH.ltS ss).map T.str):=by
 unfold qim
 rw[if_pos ⟨⟨rfl,by rw[List.length_map]; exact h⟩,qeT ss⟩,qik]
def on (g m:Int) (s:S5):Bool:=decide (s.2.1≤m)&&decide (m - s.2.2.1≤g)
theorem qfv (g:Int) (k:Str) (ks:List Str) (rs:List Row):qdo g (k::ks) rs=(qba g (qaT rs k)).map (sOf k)++qdo g ks rs:=by unfold qdo; rw[List.flatMap_cons]
def onK (g m:Int) (rs:List Row):List Str:=((qat g rs).filter (on g m)).map fun s=>s.1
theorem qn3 (g m:Int) (rs:List Row):List.Perm (onK g m rs) (((qdo g (qbF rs) rs).filter (on g m)).map fun s=>s.1):=((qdP g rs).filter _).map _
theorem qpY {g m:Int} (hg:0≤g) {rs:List Row} (h:Ris mo rs):(onK g m rs).length≤rs.length:=by
 rw[(qn3 g m rs).length_eq,List.length_map]
 exact Nat.le_trans (List.length_filter_le _ _) (qgq hg h)
theorem qih {g:Int} (hg:0≤g) {rs:List Row} (h:Ris mo rs):(qat g rs).length≤rs.length:=by
 rw[(qdP g rs).length_eq]; exact qgq hg h
theorem qn9 {D:List S5} (h:D.length≤1000):qoa 2 1 (true,D.map stT)= .ok (qbQ (qaA 2 1) (D.map stT)):=by
 unfold qoa
 rw[if_pos ⟨⟨rfl,by rw[List.length_map]; exact h⟩,by rw[List.all_map,List.all_eq_true]; intro _ _; rfl⟩]
end PL
end
section
namespace PL
open PySem L2 SetL
open SR (Ris srt qbg qaI qbr qbC qa1 qbe qbM qb7)
def mvR (b:Int) (r:Row):Row:=(r.1+b,r.2.1,r.2.2)
def sh (b:Int) (rs:List Row):List Row:=rs.map (mvR b)
theorem qeu (b:Int) (rs:List Row):(sh b rs).length=rs.length:=by simp[sh]
theorem qjp (b:Int) (p q:List Row):sh b (p++q)=sh b p++sh b q:=by simp[sh]
theorem qjn (b:Int) (rs:List Row):qbF (sh b rs)=qbF rs:=by
 unfold qbF sh
 rw[List.map_map]
 rfl
theorem qlA (b:Int) (rs:List Row) (k:Str):qaT (sh b rs) k=sh b (qaT rs k):=by
 unfold qaT sh
 rw[List.filter_map]
 rfl
theorem qpj (b:Int) {rs:List Row} (h:Ris mo rs):Ris mo (sh b rs):=by
 unfold sh
 refine List.pairwise_map.mpr (List.Pairwise.imp (fun {x y} h=> ?_) h)
 show x.1+b≤y.1+b
 have h:x.1≤y.1:=h
 lia
theorem qm0 {b:Int} {rs:List Row} (h:Log rs) (hb: ∀r∈rs,0≤r.1+b∧r.1+b≤99):Log (sh b rs):=by
 refine ⟨fun r hr=> ?_,(qc8 _).mpr (qpj b h.ris)⟩
 obtain ⟨q,hq,rfl⟩:=List.mem_map.mp hr
 exact ⟨hb q hq,(h.ok q hq).2⟩
theorem qjm (b:Int) {p:List Row} (h:p≠[]):qbt (sh b p)=qbt p+b:=by
 rcases List.eq_nil_or_concat p with z | ⟨q,x,z⟩
 ·exact absurd z h
 ·rw[List.concat_eq_append] at z
  subst z
  rw[qjp,qbE]
  show qbt (sh b q++[mvR b x])=_
  rw[qbE]
  rfl
theorem qlB (b:Int) {p:List Row} (h:p≠[]):qb4 (sh b p)=qb4 p+b:=by
 cases p with
 | nil=>exact absurd rfl h
 | cons x p=>rfl
theorem qpi (b:Int) (p:List Row):qcj (sh b p)=qcj p:=by
 unfold qcj sh
 rw[List.map_map]
 rfl
theorem qjo {g:Int} (hg:0≤g) (b:Int) (rs:List Row):Ris mo rs→qba g (sh b rs)=(qba g rs).map (sh b):=by
 refine SR.snoc_ind (P:=fun rs=>Ris mo rs→qba g (sh b rs)=(qba g rs).map (sh b)) (fun _=>rfl) (fun l r ih h=> ?_) rs
 have hl:Ris mo l:=(List.pairwise_append.mp h).1
 have G:=qhP hg l hl
 have e:sh b (l++[r])=sh b l++[mvR b r]:=qjp b l [r]
 rw[e,qcg,qcg,ih hl]
 rcases List.eq_nil_or_concat (qba g l) with z | ⟨a,p,z⟩
 ·rw[z]; rfl
 ·rw[List.concat_eq_append] at z
  rw[z] at G⊢
  have hp:p≠[]:=G.ne p (by simp)
  rw[List.map_append]
  show qij g (a.map (sh b)++[sh b p]) (mvR b r)=_
  rw[qcX,qcX,qjm b hp]
  have ec:((mvR b r).1 - (qbt p+b)≤g)↔(r.1 - qbt p≤g):=by show r.1+b - _≤g↔_; lia
  by_cases c:r.1 - qbt p≤g
  ·rw[if_pos (ec.mpr c),if_pos c,List.map_append]
   show _=a.map (sh b)++[sh b (p++[r])]
   rw[qjp]
   rfl
  ·rw[if_neg (fun z=>c (ec.mp z)),if_neg c,List.map_append,List.map_append]
   rfl
def mvS (b:Int) (s:S5):S5:=(s.1,s.2.1+b,s.2.2.1+b,s.2.2.2.1,s.2.2.2.2)
theorem qpr (b:Int) (k:Str) {p:List Row} (h:p≠[]):sOf k (sh b p)=mvS b (sOf k p):=by
 unfold sOf mvS
 rw[qlB b h,qjm b h,qpi,qeu]
theorem qjl {g:Int} (hg:0≤g) (b:Int) {rs:List Row} (h:Ris mo rs): ∀ks:List Str,qdo g ks (sh b rs)=(qdo g ks rs).map (mvS b)
 | []=>rfl
 | k::ks=>by
  rw[qfv,qfv,List.map_append,qjl hg b h ks,qlA,qjo hg b _ (qho h k)]
  congr 1
  rw[List.map_map,List.map_map]
  refine List.map_congr_left fun p hp=> ?_
  exact qpr b k ((qhP hg _ (qho h k)).ne p hp)
theorem qoe (b:Int) (x y:S5):qbB (qfq (mvS b x)) (qfq (mvS b y))=qbB (qfq x) (qfq y):=by
 show (if Ky.i (x.2.1+b)=Ky.i (y.2.1+b) then qbB [.s x.1] [.s y.1] else decide (x.2.1+b<y.2.1+b))=(if Ky.i x.2.1=Ky.i y.2.1 then qbB [.s x.1] [.s y.1] else decide (x.2.1<y.2.1))
 by_cases c:x.2.1=y.2.1
 ·rw[if_pos (by rw[c]),if_pos (by rw[c])]
 ·rw[if_neg (fun z=>c (by injection z; lia)),if_neg (fun z=>c (by injection z))]
  exact decide_eq_decide.mpr (by lia)
theorem qdR {g:Int} (hg:0≤g) (b:Int) {rs:List Row} (h:Ris mo rs):qat g (sh b rs)=(qat g rs).map (mvS b):=by
 unfold qat
 rw[qjn,qjl hg b h]
 unfold qlz
 refine (qbg (k:=fun s=>qbr qbB (((qdo g (qbF rs) rs).map (mvS b)).map qfq) (qfq s)) (f:=mvS b) (k':=fun s=>qbr qbB ((qdo g (qbF rs) rs).map qfq) (qfq s)) (fun s=> ?_) _).symm
 unfold qbr
 rw[List.map_map,List.countP_map,List.countP_map]
 congr 1
 refine List.countP_congr fun y _=> ?_
 show qbB (qfq y) (qfq s)=true↔qbB (qfq (mvS b y)) (qfq (mvS b s))=true
 rw[qoe]
theorem qrp {g:Int} (hg:0≤g) (b m:Int) {rs:List Row} (h:Ris mo rs):onK g (m+b) (sh b rs)=onK g m rs:=by
 unfold onK
 rw[qdR hg b h,List.filter_map,List.map_map]
 have e:(on g (m+b)∘mvS b)=on g m:=by
  funext s
  show (decide (s.2.1+b≤m+b)&&decide (m+b - (s.2.2.1+b)≤g))=(decide (s.2.1≤m)&&decide (m - s.2.2.1≤g))
  congr 1<;>exact decide_eq_decide.mpr (by lia)
 rw[e]
 rfl
theorem qhb (b:Int): ∀(D:List S5) (x:S5),∃s,qci (qaA 2 1) (stT x) (D.map stT)=stT s∧qci (qaA 2 1) (stT (mvS b x)) ((D.map (mvS b)).map stT)=stT (mvS b s)
 | [],x=>⟨x,rfl,rfl⟩
 | y::D,x=>by
  have e:qaA 2 1 (stT (mvS b x))<qaA 2 1 (stT (mvS b y))↔qaA 2 1 (stT x)<qaA 2 1 (stT y):=by
   show x.2.2.1+b - (x.2.1+b)<y.2.2.1+b - (y.2.1+b)↔x.2.2.1 - x.2.1<y.2.2.1 - y.2.1
   lia
  show ∃s,qci _ (if qaA 2 1 (stT x)<qaA 2 1 (stT y) then stT y else stT x) (D.map stT)=stT s∧qci _ (if qaA 2 1 (stT (mvS b x))<qaA 2 1 (stT (mvS b y)) then stT (mvS b y) else stT (mvS b x)) ((D.map (mvS b)).map stT)=stT (mvS b s)
  by_cases c:qaA 2 1 (stT x)<qaA 2 1 (stT y)
  ·rw[if_pos c,if_pos (e.mpr c)]; exact qhb b D y
  ·rw[if_neg c,if_neg (fun z=>c (e.mp z))]; exact qhb b D x
theorem qib (b:Int) (D:List S5):(qbQ (qaA 2 1) (D.map stT)= .non∧qbQ (qaA 2 1) ((D.map (mvS b)).map stT)= .non)∨∃s,qbQ (qaA 2 1) (D.map stT)=stT s∧qbQ (qaA 2 1) ((D.map (mvS b)).map stT)=stT (mvS b s):=by
 cases D with
 | nil=>exact .inl ⟨rfl,rfl⟩
 | cons x D=>exact .inr (qhb b D x)
theorem qhJ (b m:Int) (rs:List Row):lAt (sh b rs) (m+b)=lAt rs m:=by
 unfold lAt sh
 rw[List.filter_map,List.map_map]
 have e:((fun r:Row=>decide (r.1≤m+b))∘mvR b)=fun r:Row=>decide (r.1≤m):=by
  funext r
  show decide (r.1+b≤m+b)=_
  exact decide_eq_decide.mpr (by lia)
 rw[e]
 rfl
def atL (rs:List Row) (m:Int):List T:=(atK rs m).map fun k=>itT (.inr k,qaU (qdq rs k m))
theorem qic {rs rs':List Row} {m m':Int} (h:lAt rs m=lAt rs' m') (h1:rs.length<64) (h2:rs'.length<64):atL rs m=atL rs' m':=by
 have a:=qeh m h1
 have b:=qeh m' h2
 rw[h,b] at a
 exact (Rs.ok.inj a).symm
theorem qme {rs:List Row} {m:Int} (h: ∀r∈rs,0≤r.1):lAt (qdu rs 0 (m+1)) m=lAt rs m:=by
 unfold lAt qdu
 rw[List.filter_filter]
 congr 1
 refine List.filter_congr fun r hr=> ?_
 have:=h r hr
 by_cases c:r.1≤m
 ·simp[c,this]; lia
 ·simp[c]
theorem qmg (b:Int) (ms:List Int):qd3 (ms.map fun m=>m+b)=(qd3 ms).map fun m=>m+b:=by
 refine SR.eq_of_ris (k:=id) (fun x _ y _ e=>e) ?_ ?_ ?_
 ·refine List.Pairwise.imp (fun {x y} h=> ?_) (qe9 _)
  have:=of_decide_eq_false h
  show x≤y
  lia
 ·refine List.pairwise_map.mpr (List.Pairwise.imp (fun {x y} h=> ?_) (qe9 ms))
  have:=of_decide_eq_false h
  show x+b≤y+b
  lia
 ·refine (List.perm_ext_iff_of_nodup (qcS _) (List.pairwise_map.mpr (List.Pairwise.imp (fun {x y} h e=>h (by lia)) (qcS ms)))).mpr fun x=> ?_
  rw[qcy]
  constructor
  ·intro h
   obtain ⟨m,hm,e⟩:=List.mem_map.mp h
   exact List.mem_map.mpr ⟨m,qcy.mpr hm,e⟩
  ·intro h
   obtain ⟨m,hm,e⟩:=List.mem_map.mp h
   exact List.mem_map.mpr ⟨m,qcy.mp hm,e⟩
theorem qqO (b:Int) (p:List Row) (m:Int):qaU (atM (sh b p) (m+b))=qaU (atM p m):=by
 unfold atM sh qaU
 rw[List.filter_map,List.getLast?_map,Option.map_map]
 have e:((fun r:Row=>r.1==m+b)∘mvR b)=fun r:Row=>r.1==m:=by
  funext r
  show (r.1+b==m+b)=(r.1==m)
  rw[Bool.eq_iff_iff,beq_iff_eq,beq_iff_eq]
  lia
 rw[e]
 rfl
def hiP (p:List Row):List (Int×Int):=(qd3 (p.map mo)).map fun m=>(m,qaU (atM p m))
theorem qnb (b:Int) (p:List Row):hiP (sh b p)=(hiP p).map fun x=>(x.1+b,x.2):=by
 unfold hiP
 have e:(sh b p).map mo=(p.map mo).map fun m=>m+b:=by unfold sh; rw[List.map_map,List.map_map]; rfl
 rw[e,qmg,List.map_map,List.map_map]
 refine List.map_congr_left fun m _=> ?_
 show (m+b,qaU (atM (sh b p) (m+b)))=(m+b,qaU (atM p m))
 rw[qqO]
def wgt (P:List (Int×Int)) (e:Int):Int:=((P.zip ((P.drop 1).map (·.1)++[e])).map fun x=>x.1.2*(x.2 - x.1.1)).sum
theorem qo1 (b:Int) (P:List (Int×Int)) (e:Int):wgt (P.map fun x=>(x.1+b,x.2)) (e+b)=wgt P e:=by
 unfold wgt
 have h:((P.map fun x=>(x.1+b,x.2)).drop 1).map (·.1)++[e+b]=((P.drop 1).map (·.1)++[e]).map fun x=>x+b:=by
  rw[←List.map_drop,List.map_map,List.map_append,List.map_map]
  rfl
 rw[h,List.zip_map,List.map_map]
 congr 1
 refine List.map_congr_left fun x _=> ?_
 show x.1.2*(x.2+b - (x.1.1+b))=x.1.2*(x.2 - x.1.1)
 congr 1
 lia
theorem qiD {p:List Row} (h: ∀r∈p,qip r): -99≤qaU p∧qaU p≤99:=by
 unfold qaU
 cases e:p.getLast? with
 | none=>exact ⟨by decide,by decide⟩
 | some r=>
  have:=(h r (List.mem_of_getLast? e)).2.2
  exact this
def diffs (p:List Row):List Int:=(p.zip (p.drop 1)).map fun x=>x.2.1 - x.1.1
theorem qmx (b:Int) (p:List Row):diffs (sh b p)=diffs p:=by
 unfold diffs sh
 rw[←List.map_drop,List.zip_map,List.map_map]
 refine List.map_congr_left fun x _=> ?_
 show x.2.1+b - (x.1.1+b)=_
 lia
end PL
end
section
namespace K18
open PySem L2 PL SetL
open SR (Ris srt qbg qaI qbr qbC qa1 qbe qbM)
theorem st1 (s:S5):gIx (stT s) (.int 1)= .ok (.int s.2.1):=rfl
theorem st2 (s:S5):gIx (stT s) (.int 2)= .ok (.int s.2.2.1):=rfl
theorem qpZ (D:List S5):okT 8 (.lst (D.map stT))=true:=by show (D.map stT).all (okT 7)=true; rw[List.all_map,List.all_eq_true]; intro _ _; rfl
theorem qtB {rs:List Row} {g m:Int} (hg:0≤g) (hg2:g≤99) (h:Log rs) (hl:rs.length<64):qoJ [qao rs,.int g,.int m]= .ok (.lst ((qbM RH.ltS (onK g m rs)).map T.str)):=by
 have st:=qq6 hg hg2 h hl
 have c:qaC 1 [2,1] (dI (qag qi4 (qac (dV 0) (qac (dV 1) (qam))))) (gN 0) (dTB (qbS gLe gLe (dB gIx (dV 0) (dC (.int 1))) (dV 1) (dB qbi (dB gIx (dV 0) (dC (.int 2))) (dV 2)))) (dB gIx (dV 0) (dC (.int 0))) [.fz (qao rs),.fz (.int g),.fz (.int m)]= .ok (((qat g rs).filter (on g m)).map fun s=>T.str s.1):=by
  refine qbW (f:=stT) ?_ fun s hs=>⟨?_,fun _=>rfl⟩
  ·simp only[dI,qag,qac,dV,List.getElem?_cons_zero,List.getElem?_cons_succ,qam,qae,st,qa9]
  ·simp only[dTB,qbS,dB,dV,qej,List.map_cons,List.getElem?_cons_succ,List.getElem?_cons_zero,List.map_nil,dC,qae,st1,st2,qbN,qiL]
   unfold on
   by_cases c:s.2.1≤m
   ·have:decide (m≤s.2.2.1+g)=decide (m - s.2.2.1≤g):=decide_eq_decide.mpr (by lia)
    simp[c,this]
   ·simp[c]
 have e:(((qat g rs).filter (on g m)).map fun s=>T.str s.1)=(onK g m rs).map T.str:=by unfold onK; rw[List.map_map]; rfl
 rw[e] at c
 have sq:=qil (ss:=onK g m rs) (by have:=qpY (m:=m) hg h.ris; lia)
 unfold qoJ qtS
 simp only[fnT,List.length_cons,List.length_nil,Nat.reduceAdd,qa7,dFz,qlm,dQF,List.map_cons,List.map_nil,Nat.reduceSub,List.replicate,List.append_nil,c,qae,sq,outT,if_true]
theorem qtx {rs:List Row} {g:Int} (hg:0≤g) (hg2:g≤99) (h:Log rs) (hl:rs.length<64):qmU [qao rs,.int g]= .ok (qbQ (qaA 2 1) ((qat g rs).map stT)):=by
 have st:=qq6 hg hg2 h hl
 have mx:=qn9 (D:=qat g rs) (by have:=qih hg h.ris; lia)
 unfold qmU qtL
 simp only[fnT,List.length_cons,List.length_nil,Nat.reduceAdd,qa7,dCQ,dQ,qag,qac,dV,List.map_cons,List.map_nil,Nat.reduceSub,List.replicate,List.append_nil,List.getElem?_cons_zero,List.getElem?_cons_succ,qam,qae,st,qcq,mx,outT,if_true]
theorem qeL {rs os:List Row} (h:Log rs) (h2:Log os):t_0 [qao rs,qao os]= .ok .non:=by
 unfold t_0 d_0
 simp only[fnT,List.length_cons,List.length_nil,Nat.reduceAdd,qaM,qa6,qag,qac,dV,List.map_cons,List.map_nil,Nat.reduceSub,List.replicate,List.append_nil,List.getElem?_cons_zero,qam,qae,qcA h.ok,qb2,List.getElem?_cons_succ,qcA h2.ok,qb5 h.log,qb5 h2.log,outT,if_true]
theorem quS {rs:List Row} (hl:Log rs) {b e:Int} (hb:0≤b∧b≤999) (he:0≤e∧e≤999):qo6 [qao rs,.int b,.int e]= .ok (qao (qdu rs b e)):=by
 have cm:qaC 1 [1,2] (dI (dV 0)) (gN 0) (dTB (qbS gLe gLt (dV 1) (dB gIx (dV 0) (dC (T.int 0))) (dV 2))) (dV 0) [.fz (qao rs),.fz (.int b),.fz (.int e)]= .ok ((qdu rs b e).map qbO):=by
  refine qbW (f:=qbO) rfl fun r hr=>⟨?_,fun _=>rfl⟩
  simp only[dTB,qbS,dV,qej,List.map_cons,List.getElem?_cons_succ,List.getElem?_cons_zero,List.map_nil,dB,dC,qae,qoO,qsN,qiL]
  by_cases c:b≤r.1
  ·simp[c]
  ·simp[c]
 unfold qo6 qtN
 simp only[fnT,List.length_cons,List.length_nil,Nat.reduceAdd,qaM,qa6,qag,qac,dV,List.map_cons,List.map_nil,Nat.reduceSub,List.replicate,List.append_nil,List.getElem?_cons_zero,qam,qae,qbb hl,qb2,qa7,dFz,List.getElem?_cons_succ,qbV hb,qbV he,cm,outT,if_true]
 rfl
theorem qty {rs:List Row} {b:Int} (h:Log rs) (hs:Log (sh b rs)):qoH [qao rs,.int b]= .ok (qao (sh b rs)):=by
 have l3:(3:Nat)≤1000:=by decide
 have c1:qaC 3 [1] (dI (dV 0)) (gT 3 (gsC (gN 0) (gsC (gN 1) (gsC (gN 2) (gsN))))) (qcl) (qcm (qac (dB qbi (dV 0) (dV 3)) (qac (dV 1) (qac (dV 2) (qam))))) [.fz (qao rs),.fz (.int b),.no]= .ok ((rs.filter fun _=>true).map fun r=>qbO (mvR b r)):=by
  refine qqH (a:=fun r:Row=>.int r.1) (b:=fun r=>.str r.2.1) (c:=fun r=>.int r.2.2) rfl fun r hr=>⟨rfl,fun _=> ?_⟩
  simp only[qcm,qac,dB,dV,qej,List.map_cons,List.getElem?_cons_succ,List.getElem?_cons_zero,List.map_nil,qae,qbN,qam,List.length_cons,List.length_nil,Nat.reduceAdd,l3,if_true]
  rfl
 rw[qay] at c1
 have e1:(rs.map fun r=>qbO (mvR b r))=(sh b rs).map qbO:=by unfold sh; rw[List.map_map]; rfl
 rw[e1] at c1
 have c2:qaC 1 [] (dI (dV 2)) (gN 0) (qcl) (qag qlw (qac (dV 0) (qam))) [.fz (qao rs),.fz (.int b),.fz (qao (sh b rs))]= .ok (((sh b rs).filter fun _=>true).map fun _=>T.bl true):=by
  refine qbW (f:=qbO) rfl fun r hr=>⟨rfl,fun _=> ?_⟩
  simp only[qag,qac,dV,List.map_nil,List.getElem?_cons_zero,qam,qae,qtw (hs.ok r hr)]
 rw[qay] at c2
 have aq:=qfo (fun _:Row=>true) (sh b rs)
 have at':(sh b rs).all (fun _=>true)=true:=by rw[List.all_eq_true]; intro _ _; rfl
 rw[at'] at aq
 unfold qoH qtM
 show (if (2:Nat)=2 then _ else _)=_
 rw[if_pos rfl]
 show (qaM _ _ [.fz (qao rs),.fz (.int b),.no]>>=outT)=_
 rw[qa5 (ρ':=[.fz (qao rs),.fz (.int b),.no]) (by simp only[qa6,qag,qac,dV,List.getElem?_cons_zero,qam,qae,qbb h]) (r:=.ok (.rt (qao (sh b rs)))) ?_]
 ·rfl
 apply qa5 (ρ':=[.fz (qao rs),.fz (.int b),.no])
 ·simp only[dIf,qfs,dTB,qag,qac,dV,List.getElem?_cons_succ,List.getElem?_cons_zero,qam,qae,qtC,Bool.not_true,qaN,Bool.false_eq_true,if_false]
 apply qa5 (ρ':=[.fz (qao rs),.fz (.int b),.fz (qao (sh b rs))])
 ·simp only[qcH,dFz,c1,qae,List.set_cons_succ,List.set_cons_zero]
  rfl
 apply qa5 (ρ':=[.fz (qao rs),.fz (.int b),.fz (qao (sh b rs))])
 ·simp only[dIf,qfs,dTB,dCQ,dQF,c2,aq,qae,Bool.not_true,Bool.false_eq_true,if_false,reduceIte,qaN]
 ·rfl
theorem qjQ (rs:List Row) (m:Int) (hl:rs.length≤15):okD ((qaw (lAt rs m)).map up)=true:=by
 unfold okD
 rw[Bool.and_eq_true,decide_eq_true_eq]
 refine ⟨?_,?_⟩
 ·rw[List.length_map]
  have h1:=qdK (lAt rs m)
  have h2:(lAt rs m).length≤rs.length:=by unfold lAt; rw[List.length_map]; exact List.length_filter_le _ _
  lia
 ·rw[List.all_map,List.all_eq_true]
  intro p hp
  have hm:=(qfi (lAt rs m) p.1 p.2).mp hp
  cases q:((lAt rs m).filter fun q=>decide (q.1=p.1)).getLast? with
  | none=>rw[q] at hm; cases hm
  | some r=>
   obtain ⟨h1,h2⟩:=List.mem_filter.mp (List.mem_of_getLast? q)
   obtain ⟨x,_,ex⟩:=List.mem_map.mp h1
   have:p.1= .inr x.2.1:=by rw[←of_decide_eq_true h2,←ex]
   show qc7 p.1=true
   rw[this]; rfl
def getV (d:List (Key×Int)) (k:Str):T:=(qlh (d.map up) (.inr k)).getD .non
theorem qm8 (d:List (Key×Int)) (k:Str):okT 8 (getV d k)=true∧okT 7 (getV d k)=true:=by
 unfold getV qlh
 cases e:(d.map up).find? fun kv=>decide (kv.1= .inr k) with
 | none=>exact ⟨rfl,rfl⟩
 | some kv=>
  obtain ⟨p,_,e2⟩:=List.mem_map.mp (List.mem_of_find?_eq_some e)
  subst e2
  exact ⟨rfl,rfl⟩
def unl (d d2:List (Key×Int)):List T:=((qel ((d.map up).map (fun p=>qco p.1)++(d2.map up).map (fun p=>qco p.1))).filter fun k=> !eqT (getV d k) (getV d2 k)).map T.str
theorem qh0 {rs os:List Row} {m:Int} (h:Log rs) (h2:Log os) (hl:rs.length≤15) (hl2:os.length≤15) (hm:0≤m∧m≤999):qoM [qao rs,qao os,.int m]= .ok (.lst (unl (qaw (lAt rs m)) (qaw (lAt os m)))):=by
 have en:=qdd (m:=m) (show rs.length<64 by lia)
 have eo:=qdd (m:=m) (show os.length<64 by lia)
 have k1:=qjQ rs m hl
 have k2:=qjQ os m hl2
 have c:qaC 1 [3,4] (dI (dFz (qh5 (dDV 3) (dDV 4)))) (gN 0) (dTB (dB gNe (qb0 (dDV 1) (dV 0)) (qb0 (dDV 2) (dV 0)))) (dV 0) [.fz (qao rs),.fz (qao os),.fz (.int m),.fz (.dct ((qaw (lAt rs m)).map up)),.fz (.dct ((qaw (lAt os m)).map up))]= .ok (unl (qaw (lAt rs m)) (qaw (lAt os m))):=by
  refine qbW (f:=T.str) ?_ fun k hk=>⟨?_,fun _=>rfl⟩
  ·have:qh5 (dDV 3) (dDV 4) [.fz (qao rs),.fz (qao os),.fz (.int m),.fz (.dct ((qaw (lAt rs m)).map up)),.fz (.dct ((qaw (lAt os m)).map up))]= .ok (qeF ((qaw (lAt rs m)).map up) ((qaw (lAt os m)).map up)):=by
    show (if okD ((qaw (lAt rs m)).map up)=true then (if okD ((qaw (lAt os m)).map up)=true then Rs.ok (qeF ((qaw (lAt rs m)).map up) ((qaw (lAt os m)).map up)) else .no) else .no)=_
    rw[if_pos k1,if_pos k2]
   unfold dI dFz
   rw[this]
   rfl
  ·have g1:qb0 (dDV 1) (dV 0) [.fz (.str k),.fz (.dct ((qaw (lAt rs m)).map up)),.fz (.dct ((qaw (lAt os m)).map up))]= .ok (getV (qaw (lAt rs m)) k):=rfl
   have g2:qb0 (dDV 2) (dV 0) [.fz (.str k),.fz (.dct ((qaw (lAt rs m)).map up)),.fz (.dct ((qaw (lAt os m)).map up))]= .ok (getV (qaw (lAt os m)) k):=rfl
   show dTB (dB gNe (qb0 (dDV 1) (dV 0)) (qb0 (dDV 2) (dV 0))) [.fz (.str k),.fz (.dct ((qaw (lAt rs m)).map up)),.fz (.dct ((qaw (lAt os m)).map up))]=_
   unfold dTB dB
   rw[g1,qae,g2,qae]
   unfold gNe
   rw[if_pos ⟨(qm8 _ k).1,(qm8 _ k).1⟩]
   rfl
 unfold qoM qtV
 simp only[fnT,List.length_cons,List.length_nil,Nat.reduceAdd,qaM,qa6,qag,qac,dV,List.map_cons,List.map_nil,Nat.reduceSub,List.replicate,List.cons_append,List.nil_append,List.getElem?_cons_zero,List.getElem?_cons_succ,qam,qae,qeL h h2,qb2,qcH,qa7,dFz,qbV hm,en,List.set_cons_succ,List.set_cons_zero,eo,c,outT,if_true]
theorem qjq {d:Ro→Rs (List T)} {ρ:Ro} {xs:List T} {i:Nat} (h:d ρ= .ok xs):qcH i (dFz d) ρ= .ok (.nx (ρ.set i (.fz (.lst xs)))):=by unfold qcH dFz; rw[h]; rfl
def prT (x:Int×Int):T:=.tup [.int x.1,.int x.2]
theorem qkq (p:List Row):((qd3 (p.map mo)).map fun m=>itT (.inl m,qaU (atM p m)))=(hiP p).map prT:=by
 unfold hiP
 rw[List.map_map]
 rfl
theorem qo0 (as:List (Int×Int)) (bs:List Int):qlg (as.map prT) (bs.map T.int)=(as.zip bs).map fun p=>T.tup [prT p.1,T.int p.2]:=by
 induction as generalizing bs with
 | nil=>rfl
 | cons a as ih=>
  cases bs with
  | nil=>rfl
  | cons b bs=>show _::qlg (as.map prT) (bs.map T.int)=_; rw[ih]; rfl
theorem quP {P:List (Int×Int)} {e:Int} (hP: ∀x∈P, -99≤x.2∧x.2≤99) (hl:P.length≤100):qoG [.lst (P.map prT),.int e]= .ok (.int (wgt P e)):=by
 have l1:(1:Nat)≤1000:=by decide
 have c1:qaC 1 [] (dI (dFz (qi7 (dQV 0) (dOS (dC (.int 1))) (dON)))) (gN 0) (qcl) (dB gIx (dV 0) (dC (.int 0))) [.fz (.lst (P.map prT)),.fz (.int e),.no]= .ok (((P.drop 1).filter fun _=>true).map fun x=>T.int x.1):=by
  refine qbW (f:=prT) ?_ fun x hx=>⟨rfl,fun _=>rfl⟩
  simp only[dI,dFz,qi7,dQV,List.getElem?_cons_zero,qcq,dOS,dC,qae,dON,qs0,if_true,qa9]
  rw[←List.map_drop]
 rw[qay] at c1
 have e1:((P.drop 1).map fun x=>T.int x.1)++[T.int e]=((P.drop 1).map (·.1)++[e]).map T.int:=by rw[List.map_append,List.map_map]; rfl
 have lc:((P.drop 1).map fun x=>T.int x.1).length+[T.int e].length≤1000:=by
  rw[List.length_map,List.length_drop]
  show _+1≤1000
  lia
 have k1:qoy (dQF (qaC 1 [] (dI (dFz (qi7 (dQV 0) (dOS (dC (.int 1))) (dON)))) (gN 0) (qcl) (dB gIx (dV 0) (dC (.int 0))))) (dQF (qfm (qac (dV 1) (qam)))) [.fz (.lst (P.map prT)),.fz (.int e),.no]= .ok (((P.drop 1).map (·.1)++[e]).map T.int):=by
  unfold qoy
  have q1:dQF (qaC 1 [] (dI (dFz (qi7 (dQV 0) (dOS (dC (.int 1))) (dON)))) (gN 0) (qcl) (dB gIx (dV 0) (dC (.int 0)))) [.fz (.lst (P.map prT)),.fz (.int e),.no]= .ok (true,(P.drop 1).map fun x=>T.int x.1):=by unfold dQF; rw[c1]; rfl
  have q2:dQF (qfm (qac (dV 1) (qam))) [.fz (.lst (P.map prT)),.fz (.int e),.no]= .ok (true,[T.int e]):=by simp only[dQF,qfm,qac,dV,List.getElem?_cons_succ,List.getElem?_cons_zero,qam,qae,List.length_cons,List.length_nil,Nat.reduceAdd,l1,if_true]
  rw[q1,qae,q2,qae,if_pos ⟨⟨rfl,rfl⟩,lc⟩,e1]
 have c2:qaC 2 [] (dIZ (qac (dV 0) (qac (dV 2) (qam)))) (gT 2 (gsC (gN 0) (gsC (gN 1) (gsN)))) (qcl) (dB qll (dB gIx (dV 0) (dC (.int 1))) (dB gSub (dV 1) (dB gIx (dV 0) (dC (.int 0))))) [.fz (.lst (P.map prT)),.fz (.int e),.fz (.lst (((P.drop 1).map (·.1)++[e]).map T.int))]= .ok (((P.zip ((P.drop 1).map (·.1)++[e])).filter fun _=>true).map fun x=>T.int (x.1.2*(x.2 - x.1.1))):=by
  refine qh6 (a:=fun x:(Int×Int)×Int=>prT x.1) (b:=fun x=>T.int x.2) ?_ fun x hx=>⟨rfl,fun _=> ?_⟩
  ·rw[←qo0]
   rfl
  ·have hb:=hP x.1 (List.of_mem_zip hx).1
   have i0:gIx (prT x.1) (.int 0)= .ok (.int x.1.1):=rfl
   have i1:gIx (prT x.1) (.int 1)= .ok (.int x.1.2):=rfl
   have bb:((-1000000:Int)≤x.1.2∧x.1.2≤1000000)∨((-1000000:Int)≤x.2 - x.1.1∧x.2 - x.1.1≤1000000):=.inl (by lia)
   simp only[dB,dV,dC,List.getElem?_cons_zero,List.getElem?_cons_succ,qae,i0,i1,qeK,qhS]
   rw[if_pos bb]
 rw[qay] at c2
 have sm: ∀(xs:List ((Int×Int)×Int)) (f:(Int×Int)×Int→Int),qoN (true,xs.map fun x=>T.int (f x))= .ok (.int (xs.map f).sum):=fun xs f=>by
  have y:(xs.map fun x=>T.int (f x)).all qfV=true:=by rw[List.all_map,List.all_eq_true]; intro _ _; rfl
  have z:(xs.map fun x=>T.int (f x)).map qdt=xs.map f:=by rw[List.map_map]; rfl
  unfold qoN
  rw[if_pos ⟨rfl,y⟩,z]
 have s2:=sm (P.zip ((P.drop 1).map (·.1)++[e])) fun x=>x.1.2*(x.2 - x.1.1)
 unfold qoG qtG
 show (if (2:Nat)=2 then _ else _)=_
 rw[if_pos rfl]
 show (qaM _ _ [.fz (.lst (P.map prT)),.fz (.int e),.no]>>=outT)=_
 rw[qa5 (ρ':=[.fz (.lst (P.map prT)),.fz (.int e),.fz (.lst (((P.drop 1).map (·.1)++[e]).map T.int))]) (r:=.ok (.rt (.int (wgt P e)))) (qjq k1) ?_]
 ·rfl
 ·unfold qa7 dCQ dQF
  rw[c2,qae,qae,s2,qae]
  rfl
end K18
end
section
namespace K18
open PySem L2 PL SetL
open SR (Ris srt qbg qaI qbr qbC qa1 qbe qbM)
theorem qt6 {da:Ro→Rs T} {ρ:Ro} {x:T} (h:da ρ= .ok x):qcm (qac da qam) ρ= .ok (.tup [x]):=by unfold qcm qac qam; rw[h]; rfl
theorem qqI {g:T→T→Rs T} {da db:Ro→Rs T} {ρ:Ro} {x y:T} (h:da ρ= .ok x) (h2:db ρ= .ok y):dB g da db ρ=g x y:=by unfold dB; rw[h,qae,h2]; rfl
theorem qmM {α:Type} (g:α→Bool) (xs:List α):qoY (true,xs.map fun x=>T.bl (g x))= .ok (.bl (xs.any g)):=by
 have y:(xs.map fun x=>T.bl (g x)).all qiJ=true:=by rw[List.all_map,List.all_eq_true]; intro _ _; rfl
 unfold qoY
 rw[if_pos ⟨rfl,y⟩,List.any_map]
 rfl
theorem qqk {p:List Row} (h: ∀r∈p,qip r): ∀x∈hiP p, -99≤x.2∧x.2≤99:=fun x hx=>by
 obtain ⟨m,_,rfl⟩:=List.mem_map.mp hx
 exact qiD fun r hr=>h r (List.mem_filter.mp hr).1
theorem qoi (p:List Row):(hiP p).length≤p.length:=by
 unfold hiP
 rw[List.length_map]
 have e:(qd3 (p.map mo)).length=(dd (p.map mo)).length:=(qaI _).length_eq
 have:=qg4 (p.map mo)
 rw[List.length_map] at this
 lia
def weT (rs:List Row) (e:Int) (k:Str):T:=.tup [.str k,.int (wgt (hiP (qaT rs k)) e)]
theorem qtz {rs:List Row} {e:Int} (h:Log rs) (hl:rs.length<64) (he:0≤e∧e≤999) (hm: ∀r∈rs,r.1≤e):qoI [qao rs,.int e]= .ok (.lst ((qbF rs).map (weT rs e))):=by
 have l2:(2:Nat)≤1000:=by decide
 have c1:qaC 1 [1] (dI (dV 0)) (gN 0) (qcl) (dB gGt (dB gIx (dV 0) (dC (.int 0))) (dV 1)) [.fz (qao rs),.fz (.int e)]= .ok ((rs.filter fun _=>true).map fun r=>T.bl (decide (e<r.1))):=by
  refine qbW (f:=qbO) rfl fun r hr=>⟨rfl,fun _=> ?_⟩
  simp only[dB,dV,qej,List.map_cons,List.getElem?_cons_succ,List.getElem?_cons_zero,List.map_nil,dC,qae,qoO,qml]
 rw[qay] at c1
 have a1:=qmM (fun r:Row=>decide (e<r.1)) rs
 have a2:rs.any (fun r=>decide (e<r.1))=false:=by
  rw[List.any_eq_false]
  intro r hr
  have:=hm r hr
  simp
  lia
 rw[a2] at a1
 have ek:=qtA hl
 have c2:qaC 1 [0,1] (dI (qag qmV (qac (dV 0) (qam)))) (gN 0) (qcl) (qcm (qac (dV 0) (qac (qag qoG (qac (qag qi3 (qac (dV 1) (qac (dV 0) (qam)))) (qac (dV 2) (qam)))) (qam)))) [.fz (qao rs),.fz (.int e)]= .ok (((qbF rs).filter fun _=>true).map (weT rs e)):=by
  refine qbW (f:=T.str) ?_ fun k hk=>⟨rfl,fun _=> ?_⟩
  ·simp only[dI,qag,qac,dV,List.getElem?_cons_zero,qam,qae,ek,qa9]
  ·have eh:=qkA (k:=k) h hl
   rw[qkq] at eh
   have lo:(qaT rs k).length≤rs.length:=List.length_filter_le _ _
   have ew:=quP (P:=hiP (qaT rs k)) (e:=e) (qqk fun r hr=>h.ok r (List.mem_filter.mp hr).1) (by have:=qoi (qaT rs k); lia)
   simp only[qcm,qac,dV,qej,List.map_cons,List.getElem?_cons_zero,List.getElem?_cons_succ,List.map_nil,qag,qam,qae,eh,ew,List.length_cons,List.length_nil,Nat.reduceAdd,l2,if_true]
   rfl
 rw[qay] at c2
 unfold qoI qtO
 show (if (2:Nat)=2 then _ else _)=_
 rw[if_pos rfl]
 show (qaM _ _ [.fz (qao rs),.fz (.int e)]>>=outT)=_
 rw[qa5 (ρ':=[.fz (qao rs),.fz (.int e)]) (r:=.ok (.rt (.lst ((qbF rs).map (weT rs e))))) (by simp only[qa6,qag,qac,dV,List.getElem?_cons_zero,qam,qae,qbb h]) ?_]
 ·rfl
 apply qa5 (ρ':=[.fz (qao rs),.fz (.int e)])
 ·simp only[qa6,qag,qac,dV,List.getElem?_cons_succ,List.getElem?_cons_zero,qam,qae,qbV he]
 apply qa5 (ρ':=[.fz (qao rs),.fz (.int e)])
 ·simp only[dIf,dTB,dCQ,dQF,c1,a1,qae,Bool.false_eq_true,if_false,reduceIte,qaN]
 ·unfold qa7 dFz
  rw[c2]
  rfl
def beT (os:List Row) (r:Row):T:=.tup [.int r.1,.str r.2.1,.int r.2.2,getV (qaw (lAt os r.1)) r.2.1]
theorem qtv {rs os:List Row} (h:Log rs) (h2:Log os) (hl2:os.length<64):qnx [qao rs,qao os]= .ok (.lst (rs.map (beT os))):=by
 have l1:(1:Nat)≤1000:=by decide
 have l4:(3:Nat)+1≤1000:=by decide
 have c:qaC 1 [1] (dI (dV 0)) (gN 0) (qcl) (dB qbi (dV 0) (qcm (qac (qb0 (dDE (qag t_7 (qac (dV 1) (qac (dB gIx (dV 0) (dC (.int 0))) (qam))))) (dB gIx (dV 0) (dC (.int 1)))) (qam)))) [.fz (qao rs),.fz (qao os)]= .ok ((rs.filter fun _=>true).map (beT os)):=by
  refine qbW (f:=qbO) rfl fun r hr=>⟨rfl,fun _=> ?_⟩
  have en:=qdd (rs:=os) (m:=r.1) hl2
  have g:qb0 (dDE (qag t_7 (qac (dV 1) (qac (dB gIx (dV 0) (dC (.int 0))) (qam))))) (dB gIx (dV 0) (dC (.int 1))) [.fz (qbO r),.fz (qao os)]= .ok (getV (qaw (lAt os r.1)) r.2.1):=by
   have dc: ∀kvs,qox (.dct kvs)= .ok kvs:=fun _=>rfl
   have lk: ∀kvs k,qj4 kvs (.str k)= .ok ((qlh kvs (.inr k)).getD .non):=fun _ _=>rfl
   unfold qb0 dDE
   simp only[qag,qac,dV,List.getElem?_cons_succ,List.getElem?_cons_zero,dB,dC,qae,qoO,qam,en,dc,qtg,lk]
   rfl
  show dB qbi (dV 0) (qcm (qac (qb0 (dDE (qag t_7 (qac (dV 1) (qac (dB gIx (dV 0) (dC (.int 0))) (qam))))) (dB gIx (dV 0) (dC (.int 1)))) (qam))) [.fz (qbO r),.fz (qao os)]=_
  rw[qqI (x:=qbO r) rfl (qt6 g)]
  rfl
 rw[qay] at c
 unfold qnx qtF
 simp only[fnT,List.length_cons,List.length_nil,Nat.reduceAdd,qaM,qa6,qag,qac,dV,List.map_cons,List.map_nil,Nat.reduceSub,List.replicate,List.append_nil,List.getElem?_cons_zero,List.getElem?_cons_succ,qam,qae,qeL h h2,qb2,qa7,dFz,c,outT,if_true]
theorem qqN (b:Int) (os:List Row) (r:Row):beT (sh b os) (mvR b r)= .tup [.int (r.1+b),.str r.2.1,.int r.2.2,getV (qaw (lAt os r.1)) r.2.1]:=by
 unfold beT
 show T.tup [.int (r.1+b),.str r.2.1,.int r.2.2,getV (qaw (lAt (sh b os) (r.1+b))) r.2.1]=_
 rw[qhJ]
end K18
end
section
namespace K18
open PySem L2 PL SetL
open SR (Ris srt qbg qaI qbr qbC qa1 qbe qbM)
theorem qhT (xs:List Int): ∀a:Int,a≤xs.foldl (fun a b=>if a<b then b else a) a∧∀x∈xs,x≤xs.foldl (fun a b=>if a<b then b else a) a:=by
 induction xs with
 | nil=>exact fun a=>⟨Int.le_refl _,fun x hx=>by cases hx⟩
 | cons y xs ih=>
  intro a
  rw[List.foldl_cons]
  obtain ⟨h1,h2⟩:=ih (if a<y then y else a)
  have h3:a≤(if a<y then y else a)∧y≤(if a<y then y else a):=by split<;>lia
  refine ⟨by lia,fun x hx=> ?_⟩
  rcases List.mem_cons.mp hx with z | z
  ·rw[z]; lia
  ·exact h2 x z
theorem qmn (xs:List Int) (B:Int): ∀a:Int,a≤B→(∀x∈xs,x≤B)→xs.foldl (fun a b=>if a<b then b else a) a≤B:=by
 induction xs with
 | nil=>exact fun a h _=>h
 | cons y xs ih=>
  intro a h h2
  rw[List.foldl_cons]
  refine ih _ ?_ fun x hx=>h2 x (List.mem_cons_of_mem _ hx)
  have:=h2 y List.mem_cons_self
  split<;>lia
theorem qgK {ns:List Int}: ∀x∈ns,x≤qix ns:=fun x hx=>by
 cases ns with
 | nil=>cases hx
 | cons y ns=>
  rcases List.mem_cons.mp hx with z | z
  ·rw[z]; exact (qhT ns y).1
  ·exact (qhT ns y).2 x z
theorem qob {ns:List Int} {B:Int} (h: ∀x∈ns,x≤B) (hn:ns≠[]):qix ns≤B:=by
 cases ns with
 | nil=>exact absurd rfl hn
 | cons y ns=>exact qmn ns B y (h y List.mem_cons_self) fun x hx=>h x (List.mem_cons_of_mem _ hx)
theorem qiw {ns:List Int} (hn:ns≠[]):qgJ (true,ns.map T.int)= .ok (.int (qix ns)):=by
 have y:(ns.map T.int).all qfV=true:=by rw[List.all_map,List.all_eq_true]; intro _ _; rfl
 have z:(ns.map T.int).map qdt=ns:=by rw[List.map_map]; simp[Function.comp_def,qdt]
 unfold qgJ
 rw[if_pos ⟨⟨rfl,fun q=>hn (List.map_eq_nil_iff.mp q)⟩,y⟩,z]
theorem qqG {α:Type} {dt:Ro→Rs Bool} {de:Ro→Rs T} {di:Ro→Rs (List T)} {h:α→T} {p:α→Bool} {ρ:Ro} {a b c d e:α→T} {fr:List Nat} {xs:List α} (hi:di ρ= .ok (xs.map fun x=>.tup [a x,b x,c x,d x,e x]))
  (hs: ∀x∈xs,dt (.fz (a x)::.fz (b x)::.fz (c x)::.fz (d x)::.fz (e x)::fr.map fun i=>qej ρ[i]?)= .ok (p x)∧(p x=true→de (.fz (a x)::.fz (b x)::.fz (c x)::.fz (d x)::.fz (e x)::fr.map fun i=>qej ρ[i]?)= .ok (h x))):
  qaC 5 fr di (gT 5 (gsC (gN 0) (gsC (gN 1) (gsC (gN 2) (gsC (gN 3) (gsC (gN 4) gsN)))))) dt de ρ= .ok ((xs.filter p).map h):=by
 unfold qaC
 rw[hi,qae]
 refine congrArg noX (qdf (f:=fun x=>.tup [a x,b x,c x,d x,e x]) (fun ρ'=> ∃s1 s2 s3 s4 s5,ρ'=s1::s2::s3::s4::s5::fr.map fun i=>qej ρ[i]?) xs _ (fun x hx ρ' ⟨s1,s2,s3,s4,s5,z⟩=> ?_) ⟨.no,.no,.no,.no,.no,rfl⟩)
 subst z
 exact ⟨_,rfl,⟨_,_,_,_,_,rfl⟩,(hs x hx).1,(hs x hx).2⟩
theorem qn6 (ns:List Int):okT 8 (.lst (ns.map T.int))=true:=by show (ns.map T.int).all (okT 7)=true; rw[List.all_map,List.all_eq_true]; intro _ _; rfl
theorem qfM {α:Type} (f:α→T) (h: ∀a,okT 7 (f a)=true) (xs:List α):okT 8 (.lst (xs.map f))=true:=by show (xs.map f).all (okT 7)=true; rw[List.all_map,List.all_eq_true]; intro a _; exact h a
theorem qp1 (rs:List Row) (m:Int):okT 8 (.lst (atL rs m))=true:=qfM _ (fun _=>rfl) _
abbrev bF:Ro→Rs Out:=(qaM (dIf (dTB (dB gNe (qag qmT (qac (dV 5) (qac (dV 12) (qam)))) (qag qmT (qac (dV 1) (qac (dV 12) (qam)))))) (qa7 (dC (.bl false))) (qaN)) (dIf (dTB (dB gNe (qag qi3 (qac (dV 5) (qac (dV 12) (qam)))) (dFz (qaC 2 [4] (dI (qag qi3 (qac (dV 1) (qac (dV 12) (qam))))) (gT 2 (gsC (gN 0) (gsC (gN 1) (gsN)))) (qcl) (qcm (qac (dB qbi (dV 0) (dV 2)) (qac (dV 1) (qam)))))))) (qa7 (dC (.bl false))) (qaN)))
theorem qly {s0 s2 s3 s6 s7 s8 s9 s10 s11:Sl} {rs:List Row} {b:Int} {k:Str} (h:Log rs) (h2:Log (sh b rs)) (hl:rs.length<64):bF [s0,.fz (qao rs),s2,s3,.fz (.int b),.fz (qao (sh b rs)),s6,s7,s8,s9,s10,s11,.fz (.str k)]= .ok (.nx [s0,.fz (qao rs),s2,s3,.fz (.int b),.fz (qao (sh b rs)),s6,s7,s8,s9,s10,s11,.fz (.str k)]):=by
 have l2:(2:Nat)≤1000:=by decide
 have hl2:(sh b rs).length<64:=by rw[qeu]; exact hl
 unfold bF
 apply qa5 (ρ':=[s0,.fz (qao rs),s2,s3,.fz (.int b),.fz (qao (sh b rs)),s6,s7,s8,s9,s10,s11,.fz (.str k)])
 ·have p1:=qtu h2 k
  have p2:=qtu h k
  have ed:diffs (qaT (sh b rs) k)=diffs (qaT rs k):=by rw[qlA]; exact qmx b _
  rw[ed] at p1
  have nn:=qce (qn6 (diffs (qaT rs k)))
  simp only[dIf,dTB,dB,qag,qac,qam,dV,List.getElem?_cons_zero,List.getElem?_cons_succ,p1,p2,nn,qae,Bool.false_eq_true,if_false,reduceIte,qaN]
 ·have eh1:=qkA (k:=k) h2 hl2
  have eh:=qkA (k:=k) h hl
  rw[qkq] at eh eh1
  rw[qlA,qnb] at eh1
  have c:qaC 2 [4] (dI (qag qi3 (qac (dV 1) (qac (dV 12) (qam))))) (gT 2 (gsC (gN 0) (gsC (gN 1) (gsN)))) (qcl) (qcm (qac (dB qbi (dV 0) (dV 2)) (qac (dV 1) (qam)))) [s0,.fz (qao rs),s2,s3,.fz (.int b),.fz (qao (sh b rs)),s6,s7,s8,s9,s10,s11,.fz (.str k)]= .ok (((hiP (qaT rs k)).filter fun _=>true).map fun x=>prT (x.1+b,x.2)):=by
   refine qh6 (a:=fun x:Int×Int=>.int x.1) (b:=fun x=>.int x.2) ?_ fun x hx=>⟨rfl,fun _=> ?_⟩
   ·simp only[dI,qag,qac,dV,List.getElem?_cons_succ,List.getElem?_cons_zero,qam,qae,eh,qa9]
    rfl
   ·simp only[qcm,qac,dB,dV,qej,List.map_cons,List.getElem?_cons_succ,List.getElem?_cons_zero,List.map_nil,qae,qbN,qam,List.length_cons,List.length_nil,Nat.reduceAdd,l2,if_true]
    rfl
  rw[qay] at c
  have e2:((hiP (qaT rs k)).map fun x=>prT (x.1+b,x.2))=((hiP (qaT rs k)).map fun x=>(x.1+b,x.2)).map prT:=by rw[List.map_map]; rfl
  rw[e2] at c
  have nn:=qce (qfM prT (fun _=>rfl) ((hiP (qaT rs k)).map fun x=>(x.1+b,x.2)))
  simp only[dIf,dTB,dB,dFz,qag,qac,qam,dV,List.getElem?_cons_zero,List.getElem?_cons_succ,c,eh1,nn,qae,Bool.false_eq_true,if_false,reduceIte,qaN]
theorem qj2 {s0 s2 s3 s6 s7 s8 s9 s10 s11 t12:Sl} {rs:List Row} {b:Int} (h:Log rs) (h2:Log (sh b rs)) (hl:rs.length<64) (ks:List Str): ∃s12,qol (gN 12) bF (ks.map T.str) [s0,.fz (qao rs),s2,s3,.fz (.int b),.fz (qao (sh b rs)),s6,s7,s8,s9,s10,s11,t12]= .ok (.nx [s0,.fz (qao rs),s2,s3,.fz (.int b),.fz (qao (sh b rs)),s6,s7,s8,s9,s10,s11,s12]):=by
 obtain ⟨ρ',e1,s12,e2⟩:=qch (dg:=gN 12) (f:=T.str) (db:=bF) (fun dn ρ=> ∃s12,ρ=[s0,.fz (qao rs),s2,s3,.fz (.int b),.fz (qao (sh b rs)),s6,s7,s8,s9,s10,s11,s12]) ks ks [] [s0,.fz (qao rs),s2,s3,.fz (.int b),.fz (qao (sh b rs)),s6,s7,s8,s9,s10,s11,t12] rfl
  (fun dn k qbY ρ hw ⟨s12,e⟩=>by
   subst e
   exact ⟨_,_,rfl,.inl (qly h h2 hl),_,rfl⟩) ⟨_,rfl⟩
 exact ⟨s12,by rw[e1,e2]⟩
theorem law_true {ns:List Int} (hn:ns.length≤63):t_law [.scr ns]= .ok (.bl true):=by
 obtain ⟨rs,lr,l10,er⟩:=qne hn (k:=0) (most:=10) (by decide) (by decide) (by decide) (by decide)
 obtain ⟨os,lo,o10,eo⟩:=qne hn (k:=200) (most:=10) (by decide) (by decide) (by decide) (by decide)
 have l1:(1:Nat)≤1000:=by decide
 have l3:(3:Nat)≤1000:=by decide
 have l5:(5:Nat)≤1000:=by decide
 have h64:rs.length<64:=by lia
 have o64:os.length<64:=by lia
 obtain ⟨ms,ems⟩: ∃ms:List Int,ms=(rs++os).map mo++[0]:=⟨_,rfl⟩
 have mne:ms≠[]:=by rw[ems]; simp
 have hms: ∀x∈ms,0≤x∧x≤99:=fun x hx=>by
  rw[ems] at hx
  rcases List.mem_append.mp hx with hx | hx
  ·obtain ⟨r,hr,rfl⟩:=List.mem_map.mp hx
   rcases List.mem_append.mp hr with hr | hr
   ·exact (lr.ok r hr).1
   ·exact (lo.ok r hr).1
  ·rw[List.mem_singleton.mp hx]; exact ⟨by decide,by decide⟩
 have mr: ∀r∈rs,r.1≤qix ms:=fun r hr=>qgK r.1 (by rw[ems]; exact List.mem_append.mpr (.inl (List.mem_map.mpr ⟨r,List.mem_append.mpr (.inl hr),rfl⟩)))
 have mo': ∀r∈os,r.1≤qix ms:=fun r hr=>qgK r.1 (by rw[ems]; exact List.mem_append.mpr (.inl (List.mem_map.mpr ⟨r,List.mem_append.mpr (.inr hr),rfl⟩)))
 have mx:qix ms≤99:=qob (fun x hx=>(hms x hx).2) mne
 have m0:0≤qix ms:=qgK 0 (by rw[ems]; simp)
 obtain ⟨M,eM⟩: ∃M,M=qix ms:=⟨_,rfl⟩
 rw[←eM] at mr mo' mx m0
 obtain ⟨b,b0,b1,eb⟩:=qbU hn (k:=400) (many:=100 - M) (by decide) (by decide) (by lia)
 obtain ⟨g,g0,g1,eg⟩:=qbU hn (k:=401) (many:=15) (by decide) (by decide) (by decide)
 obtain ⟨m,n0,n1,em⟩:=qbU hn (k:=402) (many:=120) (by decide) (by decide) (by decide)
 obtain ⟨x,x0,x1,ex⟩:=qbU hn (k:=403) (many:=9) (by decide) (by decide) (by decide)
 obtain ⟨e,ee,e0,e1⟩: ∃e:Int,M+x=e∧M≤e∧e≤M+8:=⟨_,rfl,by lia,by lia⟩
 have ls:Log (sh b rs):=qm0 lr fun r hr=>by have:=mr r hr; have:=(lr.ok r hr).1; lia
 have lt:Log (sh b os):=qm0 lo fun r hr=>by have:=mo' r hr; have:=(lo.ok r hr).1; lia
 have s64:(sh b rs).length<64:=by rw[qeu]; exact h64
 have mq:=qiw mne
 rw[←eM] at mq
 have g99:g≤99:=by lia
 have st:=qq6 (g:=g) g0 g99 lr h64
 have st1:=qq6 (g:=g) g0 g99 ls s64
 rw[qdR g0 b lr.ris] at st1
 obtain ⟨s12,ek⟩:=qj2 (s0:=.fz (.scr ns)) (s2:=.fz (qao os)) (s3:=.fz (.lst (ms.map T.int))) (s6:=.fz (qao (sh b os))) (s7:=.fz (.int g)) (s8:=.fz (.int m)) (s9:=.fz (.lst (((qat g rs).map (mvS b)).map stT))) (s10:=.fz (qbQ (qaA 2 1) ((qat g rs).map stT))) (s11:=.fz (.int e)) (t12:=.no) lr ls h64 ["a", "b", "ab"]
 have h:qkS [.fz (.scr ns),.no,.no,.no,.no,.no,.no,.no,.no,.no,.no,.no,.no]= .ok (.rt (.bl true)):=by
  unfold qkS
  apply qa5 (ρ':=[.fz (.scr ns),.fz (qao rs),.fz (qao os),.no,.no,.no,.no,.no,.no,.no,.no,.no,.no])
  ·simp only[qnn,qag,qac,dV,List.getElem?_cons_zero,dC,qam,qae,er,eo,List.set_cons_succ,List.set_cons_zero]
  apply qa5 (ρ':=[.fz (.scr ns),.fz (qao rs),.fz (qao os),.fz (.lst (ms.map T.int)),.no,.no,.no,.no,.no,.no,.no,.no,.no])
  ·have c1:qaC 1 [] (dI (dB qbi (dV 1) (dV 2))) (gN 0) (qcl) (dB gIx (dV 0) (dC (.int 0))) [.fz (.scr ns),.fz (qao rs),.fz (qao os),.no,.no,.no,.no,.no,.no,.no,.no,.no,.no]= .ok (((rs++os).filter fun _=>true).map fun r=>T.int r.1):=by
    refine qbW (f:=qbO) ?_ fun r hr=>⟨rfl,fun _=>rfl⟩
    have ga:qbi (qao rs) (qao os)= .ok (.lst ((rs++os).map qbO)):=by
     show (if (rs.map qbO).length+(os.map qbO).length≤1000 then Rs.ok (T.lst (rs.map qbO++os.map qbO)) else Rs.no)=_
     rw[if_pos (by rw[List.length_map,List.length_map]; lia),List.map_append]
    simp only[dI,dB,dV,List.getElem?_cons_succ,List.getElem?_cons_zero,qae,ga,qa9]
   rw[qay] at c1
   have q1: ∀(d:Ro→Rs (List T)) ρ x,d ρ= .ok x→dQF d ρ= .ok (true,x):=fun d ρ x h=>by unfold dQF; rw[h]; rfl
   have q2: ∀(d e:Ro→Rs (Bool×List T)) ρ x y,d ρ= .ok (true,x)→e ρ= .ok (true,y)→x.length+y.length≤1000→qoy d e ρ= .ok (x++y):=fun d e ρ x y h1 h2 h3=>by unfold qoy; rw[h1,qae,h2,qae,if_pos ⟨⟨rfl,rfl⟩,h3⟩]
   have k1:qfm (qac (dC (.int 0)) (qam)) [.fz (.scr ns),.fz (qao rs),.fz (qao os),.no,.no,.no,.no,.no,.no,.no,.no,.no,.no]= .ok [T.int 0]:=by simp only[qfm,qac,dC,qam,qae,List.length_cons,List.length_nil,Nat.reduceAdd,l1,if_true]
   have k2:=q2 _ _ _ _ _ (q1 _ _ _ c1) (q1 _ _ _ k1) (by rw[List.length_map,List.length_append]; show _+1≤1000; lia)
   have e5:((rs++os).map fun r=>T.int r.1)++[T.int 0]=ms.map T.int:=by simp[ems,Function.comp_def]
   rw[e5] at k2
   exact qjq k2
  apply qa5 (ρ':=[.fz (.scr ns),.fz (qao rs),.fz (qao os),.fz (.lst (ms.map T.int)),.fz (.int b),.no,.no,.no,.no,.no,.no,.no,.no])
  ·have eb':qdE [.scr ns,.int 400,.int (100 - M)]= .ok (.int b):=eb
   simp only[qcH,qag,qac,qam,dV,dC,dB,dCQ,dQV,qcq,List.getElem?_cons_zero,List.getElem?_cons_succ,mq,qeK,eb',qae,List.set_cons_succ,List.set_cons_zero]
  apply qa5 (ρ':=[.fz (.scr ns),.fz (qao rs),.fz (qao os),.fz (.lst (ms.map T.int)),.fz (.int b),.fz (qao (sh b rs)),.fz (qao (sh b os)),.no,.no,.no,.no,.no,.no])
  ·simp only[qnn,qag,qac,dV,List.getElem?_cons_succ,List.getElem?_cons_zero,qam,qae,qty lr ls,qty lo lt,List.set_cons_succ,List.set_cons_zero]
  apply qa5 (ρ':=[.fz (.scr ns),.fz (qao rs),.fz (qao os),.fz (.lst (ms.map T.int)),.fz (.int b),.fz (qao (sh b rs)),.fz (qao (sh b os)),.fz (.int g),.fz (.int m),.no,.no,.no,.no])
  ·simp only[qnn,qag,qac,dV,List.getElem?_cons_zero,dC,qam,qae,eg,em,List.set_cons_succ,List.set_cons_zero]
  apply qa5 (ρ':=[.fz (.scr ns),.fz (qao rs),.fz (qao os),.fz (.lst (ms.map T.int)),.fz (.int b),.fz (qao (sh b rs)),.fz (qao (sh b os)),.fz (.int g),.fz (.int m),.fz (.lst (((qat g rs).map (mvS b)).map stT)),.no,.no,.no])
  ·have c1:qaC 5 [4] (dI (qag qi4 (qac (dV 1) (qac (dV 7) (qam))))) (gT 5 (gsC (gN 0) (gsC (gN 1) (gsC (gN 2) (gsC (gN 3) (gsC (gN 4) (gsN))))))) (qcl) (qcm (qac (dV 0) (qac (dB qbi (dV 1) (dV 5)) (qac (dB qbi (dV 2) (dV 5)) (qac (dV 3) (qac (dV 4) (qam))))))) [.fz (.scr ns),.fz (qao rs),.fz (qao os),.fz (.lst (ms.map T.int)),.fz (.int b),.fz (qao (sh b rs)),.fz (qao (sh b os)),.fz (.int g),.fz (.int m),.no,.no,.no,.no]= .ok (((qat g rs).filter fun _=>true).map fun s=>stT (mvS b s)):=by
    refine qqG (a:=fun s:S5=>.str s.1) (b:=fun s=>.int s.2.1) (c:=fun s=>.int s.2.2.1) (d:=fun s=>.int s.2.2.2.1) (e:=fun s=>.int s.2.2.2.2) ?_ fun s hs=>⟨rfl,fun _=> ?_⟩
    ·simp only[dI,qag,qac,dV,List.getElem?_cons_succ,List.getElem?_cons_zero,qam,qae,st,qa9]
     rfl
    ·simp only[qcm,qac,dV,qej,List.map_cons,List.getElem?_cons_succ,List.getElem?_cons_zero,List.map_nil,dB,qae,qbN,qam,List.length_cons,List.length_nil,Nat.reduceAdd,l5,if_true]
     rfl
   rw[qay] at c1
   have e5:((qat g rs).map fun s=>stT (mvS b s))=((qat g rs).map (mvS b)).map stT:=by rw[List.map_map]; rfl
   rw[e5] at c1
   exact qjq c1
  apply qa5 (ρ':=[.fz (.scr ns),.fz (qao rs),.fz (qao os),.fz (.lst (ms.map T.int)),.fz (.int b),.fz (qao (sh b rs)),.fz (qao (sh b os)),.fz (.int g),.fz (.int m),.fz (.lst (((qat g rs).map (mvS b)).map stT)),.no,.no,.no])
  ·have n1:=qce (qpZ ((qat g rs).map (mvS b)))
   have go1:=qtB (rs:=sh b rs) (g:=g) (m:=m+b) g0 g99 ls s64
   rw[qrp g0 b m lr.ris] at go1
   have go:=qtB (rs:=rs) (g:=g) (m:=m) g0 g99 lr h64
   have n2:=qce (qn4 (qbM RH.ltS (onK g m rs)))
   simp only[dIf,dOr,dTB,dB,qag,qac,qam,dV,List.getElem?_cons_zero,List.getElem?_cons_succ,st1,n1,qbN,go1,go,n2,qae,Bool.false_eq_true,if_false,reduceIte,qaN]
  apply qa5 (ρ':=[.fz (.scr ns),.fz (qao rs),.fz (qao os),.fz (.lst (ms.map T.int)),.fz (.int b),.fz (qao (sh b rs)),.fz (qao (sh b os)),.fz (.int g),.fz (.int m),.fz (.lst (((qat g rs).map (mvS b)).map stT)),.fz (qbQ (qaA 2 1) ((qat g rs).map stT)),.no,.no])
  ·have lg:=qtx (g:=g) g0 g99 lr h64
   simp only[qcH,qag,qac,dV,List.getElem?_cons_succ,List.getElem?_cons_zero,qam,qae,lg,List.set_cons_succ,List.set_cons_zero]
  apply qa5 (ρ':=[.fz (.scr ns),.fz (qao rs),.fz (qao os),.fz (.lst (ms.map T.int)),.fz (.int b),.fz (qao (sh b rs)),.fz (qao (sh b os)),.fz (.int g),.fz (.int m),.fz (.lst (((qat g rs).map (mvS b)).map stT)),.fz (qbQ (qaA 2 1) ((qat g rs).map stT)),.no,.no])
  ·have lg1:=qtx (g:=g) g0 g99 ls s64
   rw[qdR g0 b lr.ris] at lg1
   have want:qq9 (dTB (dB gIs (dV 10) (dC .non))) (dC .non) (dB qbi (qcm (qac (dB gIx (dV 10) (dC (.int 0))) (qac (dB qbi (dB gIx (dV 10) (dC (.int 1))) (dV 4)) (qac (dB qbi (dB gIx (dV 10) (dC (.int 2))) (dV 4)) (qam))))) (qoU (dV 10) (dOS (dC (.int 3))) (dON))) [.fz (.scr ns),.fz (qao rs),.fz (qao os),.fz (.lst (ms.map T.int)),.fz (.int b),.fz (qao (sh b rs)),.fz (qao (sh b os)),.fz (.int g),.fz (.int m),.fz (.lst (((qat g rs).map (mvS b)).map stT)),.fz (qbQ (qaA 2 1) ((qat g rs).map stT)),.no,.no]= .ok (qbQ (qaA 2 1) (((qat g rs).map (mvS b)).map stT)):=by
    rcases qib b (qat g rs) with ⟨z1,z2⟩ | ⟨s,z1,z2⟩
    ·rw[z1,z2]; rfl
    ·rw[z1,z2]; rfl
   have okb:okT 8 (qbQ (qaA 2 1) (((qat g rs).map (mvS b)).map stT))=true:=by
    rcases qib b (qat g rs) with ⟨_,z2⟩ | ⟨s,_,z2⟩<;>(rw[z2]; rfl)
   have nn:=qce okb
   have cl:qag qmU (qac (dV 5) (qac (dV 7) (qam))) [.fz (.scr ns),.fz (qao rs),.fz (qao os),.fz (.lst (ms.map T.int)),.fz (.int b),.fz (qao (sh b rs)),.fz (qao (sh b os)),.fz (.int g),.fz (.int m),.fz (.lst (((qat g rs).map (mvS b)).map stT)),.fz (qbQ (qaA 2 1) ((qat g rs).map stT)),.no,.no]= .ok (qbQ (qaA 2 1) (((qat g rs).map (mvS b)).map stT)):=by
    simp only[qag,qac,qam,dV,List.getElem?_cons_zero,List.getElem?_cons_succ,lg1,qae]
   have tt:dTB (dB gNe (qag qmU (qac (dV 5) (qac (dV 7) (qam)))) (qq9 (dTB (dB gIs (dV 10) (dC .non))) (dC .non) (dB qbi (qcm (qac (dB gIx (dV 10) (dC (.int 0))) (qac (dB qbi (dB gIx (dV 10) (dC (.int 1))) (dV 4)) (qac (dB qbi (dB gIx (dV 10) (dC (.int 2))) (dV 4)) (qam))))) (qoU (dV 10) (dOS (dC (.int 3))) (dON))))) [.fz (.scr ns),.fz (qao rs),.fz (qao os),.fz (.lst (ms.map T.int)),.fz (.int b),.fz (qao (sh b rs)),.fz (qao (sh b os)),.fz (.int g),.fz (.int m),.fz (.lst (((qat g rs).map (mvS b)).map stT)),.fz (qbQ (qaA 2 1) ((qat g rs).map stT)),.no,.no]= .ok false:=by
    have:=qqI (g:=gNe) cl want
    rw[nn] at this
    show (dB gNe _ _ _>>=_)=_
    rw[this]
    rfl
   show (dTB _ _>>=fun c=>if c=true then _ else _)=_
   rw[tt]
   rfl
  apply qa5 (ρ':=[.fz (.scr ns),.fz (qao rs),.fz (qao os),.fz (.lst (ms.map T.int)),.fz (.int b),.fz (qao (sh b rs)),.fz (qao (sh b os)),.fz (.int g),.fz (.int m),.fz (.lst (((qat g rs).map (mvS b)).map stT)),.fz (qbQ (qaA 2 1) ((qat g rs).map stT)),.no,.no])
  ·have a1:qi5 [qao (sh b rs),.int (m+b)]= .ok (.lst (atL (sh b rs) (m+b))):=qq5 ls s64 (by lia)
   have a2:qi5 [qao rs,.int m]= .ok (.lst (atL rs m)):=qq5 lr h64 (by lia)
   rw[qic (qhJ b m rs) s64 h64] at a1
   have nn:=qce (qp1 rs m)
   simp only[dIf,dTB,dB,qag,qac,qam,dV,List.getElem?_cons_zero,List.getElem?_cons_succ,qbN,a1,a2,nn,qae,Bool.false_eq_true,if_false,reduceIte,qaN]
  apply qa5 (ρ':=[.fz (.scr ns),.fz (qao rs),.fz (qao os),.fz (.lst (ms.map T.int)),.fz (.int b),.fz (qao (sh b rs)),.fz (qao (sh b os)),.fz (.int g),.fz (.int m),.fz (.lst (((qat g rs).map (mvS b)).map stT)),.fz (qbQ (qaA 2 1) ((qat g rs).map stT)),.no,.no])
  ·have u1:=qh0 (m:=m+b) ls lt (by rw[qeu]; lia) (by rw[qeu]; lia) (by lia)
   have u2:=qh0 (m:=m) lr lo (by lia) (by lia) (by lia)
   rw[qhJ,qhJ] at u1
   have nn:gNe (.lst (unl (qaw (lAt rs m)) (qaw (lAt os m)))) (.lst (unl (qaw (lAt rs m)) (qaw (lAt os m))))= .ok (.bl false):=qce (qfM T.str (fun _=>rfl) _)
   simp only[dIf,dTB,dB,qag,qac,qam,dV,List.getElem?_cons_zero,List.getElem?_cons_succ,qbN,u1,u2,nn,qae,Bool.false_eq_true,if_false,reduceIte,qaN]
  apply qa5 (ρ':=[.fz (.scr ns),.fz (qao rs),.fz (qao os),.fz (.lst (ms.map T.int)),.fz (.int b),.fz (qao (sh b rs)),.fz (qao (sh b os)),.fz (.int g),.fz (.int m),.fz (.lst (((qat g rs).map (mvS b)).map stT)),.fz (qbQ (qaA 2 1) ((qat g rs).map stT)),.fz (.int e),.no])
  ·simp only[qcH,qag,qac,qam,dV,dC,dB,dCQ,dQV,qcq,List.getElem?_cons_zero,List.getElem?_cons_succ,mq,qbN,ex,ee,qae,List.set_cons_succ,List.set_cons_zero]
  apply qa5 (ρ':=[.fz (.scr ns),.fz (qao rs),.fz (qao os),.fz (.lst (ms.map T.int)),.fz (.int b),.fz (qao (sh b rs)),.fz (qao (sh b os)),.fz (.int g),.fz (.int m),.fz (.lst (((qat g rs).map (mvS b)).map stT)),.fz (qbQ (qaA 2 1) ((qat g rs).map stT)),.fz (.int e),.no])
  ·have w1:=qtz (e:=e+b) ls s64 (by lia) (fun r hr=>by obtain ⟨q,hq,rfl⟩:=List.mem_map.mp hr; have:=mr q hq; show q.1+b≤_; lia)
   have w2:=qtz (e:=e) lr h64 (by lia) (fun r hr=>by have:=mr r hr; lia)
   have ew:(qbF (sh b rs)).map (weT (sh b rs) (e+b))=(qbF rs).map (weT rs e):=by
    rw[qjn]
    refine List.map_congr_left fun k _=> ?_
    unfold weT
    rw[qlA,qnb,qo1]
   rw[ew] at w1
   have nn:=qce (qfM (weT rs e) (fun _=>rfl) (qbF rs))
   simp only[dIf,dTB,dB,qag,qac,qam,dV,List.getElem?_cons_zero,List.getElem?_cons_succ,qbN,w1,w2,nn,qae,Bool.false_eq_true,if_false,reduceIte,qaN]
  apply qa5 (ρ':=[.fz (.scr ns),.fz (qao rs),.fz (qao os),.fz (.lst (ms.map T.int)),.fz (.int b),.fz (qao (sh b rs)),.fz (qao (sh b os)),.fz (.int g),.fz (.int m),.fz (.lst (((qat g rs).map (mvS b)).map stT)),.fz (qbQ (qaA 2 1) ((qat g rs).map stT)),.fz (.int e),.no])
  ·have b1:=qtv ls lt (by rw[qeu]; exact o64)
   have b2:=qtv lr lo o64
   have eb1:(sh b rs).map (beT (sh b os))=rs.map fun r=>T.tup [.int (r.1+b),.str r.2.1,.int r.2.2,getV (qaw (lAt os r.1)) r.2.1]:=by
    unfold sh
    rw[List.map_map]
    exact List.map_congr_left fun r _=>qqN b os r
   rw[eb1] at b1
   have c:qaC 1 [4] (dI (qag qnx (qac (dV 1) (qac (dV 2) (qam))))) (gN 0) (qcl) (dB qbi (qcm (qac (dB qbi (dB gIx (dV 0) (dC (.int 0))) (dV 1)) (qam))) (qoU (dV 0) (dOS (dC (.int 1))) (dON))) [.fz (.scr ns),.fz (qao rs),.fz (qao os),.fz (.lst (ms.map T.int)),.fz (.int b),.fz (qao (sh b rs)),.fz (qao (sh b os)),.fz (.int g),.fz (.int m),.fz (.lst (((qat g rs).map (mvS b)).map stT)),.fz (qbQ (qaA 2 1) ((qat g rs).map stT)),.fz (.int e),.no]= .ok ((rs.filter fun _=>true).map fun r=>T.tup [.int (r.1+b),.str r.2.1,.int r.2.2,getV (qaw (lAt os r.1)) r.2.1]):=by
    refine qbW (f:=beT os) ?_ fun r hr=>⟨rfl,fun _=>rfl⟩
    simp only[dI,qag,qac,dV,List.getElem?_cons_succ,List.getElem?_cons_zero,qam,qae,b2,qa9]
   rw[qay] at c
   have nn:=qce (qfM (fun r:Row=>T.tup [.int (r.1+b),.str r.2.1,.int r.2.2,getV (qaw (lAt os r.1)) r.2.1]) (fun r=>by
    show ([T.int (r.1+b),.str r.2.1,.int r.2.2,getV (qaw (lAt os r.1)) r.2.1].all (okT 6))=true
    have:okT 6 (getV (qaw (lAt os r.1)) r.2.1)=true:=by
     unfold getV qlh
     cases e:((qaw (lAt os r.1)).map up).find? fun kv=>decide (kv.1= .inr r.2.1) with
     | none=>rfl
     | some kv=>
      obtain ⟨p,_,e2⟩:=List.mem_map.mp (List.mem_of_find?_eq_some e)
      subst e2
      rfl
    simp only[List.all_cons,List.all_nil,this,Bool.and_true]
    rfl) rs)
   simp only[dIf,dTB,dB,dFz,qag,qac,qam,dV,List.getElem?_cons_zero,List.getElem?_cons_succ,b1,c,nn,qae,Bool.false_eq_true,if_false,reduceIte,qaN]
  apply qa5 (ρ':=[.fz (.scr ns),.fz (qao rs),.fz (qao os),.fz (.lst (ms.map T.int)),.fz (.int b),.fz (qao (sh b rs)),.fz (qao (sh b os)),.fz (.int g),.fz (.int m),.fz (.lst (((qat g rs).map (mvS b)).map stT)),.fz (qbQ (qaA 2 1) ((qat g rs).map stT)),.fz (.int e),s12])
  ·have di:dI (qcm (qac (dC (.str "a")) (qac (dC (.str "b")) (qac (dC (.str "ab")) (qam))))) [.fz (.scr ns),.fz (qao rs),.fz (qao os),.fz (.lst (ms.map T.int)),.fz (.int b),.fz (qao (sh b rs)),.fz (qao (sh b os)),.fz (.int g),.fz (.int m),.fz (.lst (((qat g rs).map (mvS b)).map stT)),.fz (qbQ (qaA 2 1) ((qat g rs).map stT)),.fz (.int e),.no]= .ok ((["a", "b", "ab"]:List Str).map T.str):=by simp only[dI,qcm,qac,dC,qam,qae,List.length_cons,List.length_nil,Nat.reduceAdd,l3,if_true,qgP,List.map_cons,List.map_nil]
   unfold qiQ
   rw[di,qae]
   exact ek
  ·have ft:=quS lr (b:=0) (e:=m+1) (by lia) (by lia)
   have lf:Log (qdu rs 0 (m+1)):=lr.filter _
   have f64:(qdu rs 0 (m+1)).length<64:=Nat.lt_of_le_of_lt (List.length_filter_le _ _) h64
   have a1:qi5 [qao (qdu rs 0 (m+1)),.int m]= .ok (.lst (atL (qdu rs 0 (m+1)) m)):=qq5 lf f64 (by lia)
   have a2:qi5 [qao rs,.int m]= .ok (.lst (atL rs m)):=qq5 lr h64 (by lia)
   rw[qic (qme fun r hr=>(lr.ok r hr).1.1) f64 h64] at a1
   have nn:=qop (qp1 rs m)
   simp only[qa7,dB,dC,qag,qac,qam,dV,List.getElem?_cons_zero,List.getElem?_cons_succ,qbN,ft,a1,a2,nn,qae]
 unfold t_law
 show (if (1:Nat)=1 then qkS _>>=outT else _)=_
 rw[if_pos rfl]
 show qkS [.fz (.scr ns),.no,.no,.no,.no,.no,.no,.no,.no,.no,.no,.no,.no]>>=outT=_
 rw[h]
 rfl
end K18
end
section
namespace HD
open PySem L2 PL
abbrev e2 (x:Str) (s:Stmt):Str×Stmt:=(x,s)
abbrev c2 (x:Str) (n:Int):Str×Int:=(x,n)
def quC:Stmt→Bool
 | .Assign (targets:=[.Name x _]) .. =>x== "__name__"
 | _=>false
def vw (p:Program):Program:={ p with main:={ p.main with body:=p.main.body.filter fun s=> !quC s } }
def qsQ (K:PySem.W.Frag) (x:Str):Option (Addr×Obj):=match PySem.W.nsIn K mainGlobals x with
 | some (some (.ref f))=>(match K.lookup f with | some o=>some (f,o) | none=>none)
 | _=>none
def qon (K:PySem.W.Frag) (x:Str):Option FuncData:=match qsQ K x with
 | some (_,⟨_,_,.func fd,_⟩)=>some fd
 | _=>none
def okD (K:PySem.W.Frag) (x:Str):Bool:=match qsQ K x with
 | some (f,⟨_,_,.func fd,_⟩)=>PySem.W.codeIn K fd.code x&&PySem.W.keepIn K (.ref f)
 | _=>false
def due (x:Str) (st:Stmt) (fd:FuncData):FuncData:=PySem.W.fnOf x x (qbc st) (qaX st) (qaf st) .none fd.kwdefaults fd.doc fd.pyModule fd.annotations fd.code fd.closureTuple
def okN (K:PySem.W.Frag) (x:Str):Bool:=match PySem.W.nsIn K mainGlobals x with
 | some none=>true
 | _=>false
def okC (K:PySem.W.Frag) (c:Str×Int):Bool:=match PySem.W.nsIn K mainGlobals c.1 with
 | some (some (.int n _))=>n==c.2
 | _=>false
def Df (K:PySem.W.Frag) (mg:Str→Option Value) (x:Str) (st:Stmt):Prop:=
 ∃(f:Addr) (oc:Value) (od:Option Addr) (osl:Array (Option Value)) (kV doc pm:Value) (an:Option Addr) (cdv ct:Value),
  K.lookup f=some ⟨oc,od,.func (PySem.W.fnOf x x (qbc st) (qaX st) (qaf st) .none kV doc pm an cdv ct),osl⟩∧PySem.W.codeIn K cdv x=true∧PySem.W.keepIn K (.ref f)=true∧mg x=some (.ref f)∧
   PySem.W.nsIn K mainGlobals x=some (some (.ref f))
section
variable {K:PySem.W.Frag} {h:Heap} {mg:Str→Option Value} {x:Str} {st:Stmt} {tb:List (Str×Stmt)}
theorem qsW (X:K.In h) (G:h.Ns mainGlobals mg) (a:okD K x=true) (e:qon K x=(qon K x).map (due x st)):Df K mg x st:=by
 unfold okD at a
 unfold qon at e
 split at a
 ·rename_i f oc od fd osl q
  rw[q] at e
  have e:fd=due x st fd:=Option.some.inj e
  unfold qsQ at q
  split at q
  ·rename_i f' n
   split at q
   ·rename_i o lk
    cases q
    have a:=Bool.and_eq_true_iff.mp a
    exact ⟨_,_,_,_,fd.kwdefaults,fd.doc,fd.pyModule,fd.annotations,fd.code,fd.closureTuple,by rw[lk,show PySem.W.fnOf x x (qbc st) (qaX st) (qaf st) .none fd.kwdefaults fd.doc fd.pyModule fd.annotations fd.code fd.closureTuple=fd from e.symm],a.1,a.2,PySem.W.mg_of X G n,n⟩
   ·cases q
  ·cases q
 ·cases a
theorem qqv (X:K.In h) (G:h.Ns mainGlobals mg) (a:(tb.all fun p=>okD K p.1)=true) (e:tb.map (fun p=>qon K p.1)=tb.map fun p=>(qon K p.1).map (due p.1 p.2)): ∀(i:Nat) (x:Str) (st:Stmt),tb[i]? =some (x,st)→Df K mg x st:=fun i x st hi=>by
 have a:=List.all_eq_true.mp a _ (List.mem_of_getElem? hi)
 have e:=congrArg (fun l=>l[i]?) e
 simp only[List.getElem?_map,hi,Option.map_some] at e
 exact qsW X G a (Option.some.inj e)
theorem qsE (X:K.In h) (G:h.Ns mainGlobals mg) {l:List Str} (a:l.all (okN K)=true): ∀x∈l,mg x=none:=fun x hx=>by
 have a:=List.all_eq_true.mp a x hx
 unfold okN at a
 split at a
 ·rename_i q; exact PySem.W.mg_none_of X G q
 ·cases a
theorem qs1 (X:K.In h) (G:h.Ns mainGlobals mg) {l:List (Str×Int)} (a:l.all (okC K)=true): ∀(i:Nat) (x:Str) (n:Int),l[i]? =some (x,n)→∃u,mg x=some u∧RelV (.int n) u:=fun i x n hi=>by
 have a:=List.all_eq_true.mp a _ (List.mem_of_getElem? hi)
 unfold okC at a
 split at a
 ·rename_i m tk q
  have:m=n:=by simpa using a
  subst this
  exact ⟨_,PySem.W.mg_of X G q,_,rfl⟩
 ·cases a
end
section
variable {P:Program} {w:World} {K:PySem.W.Frag} {mg:Str→Option Value} {base:Heap} {G:Gam} {C:Str→Addr} {x:Str} {st:Stmt} {ps:List Str} {k:Nat} {t:List T→Rs T}
theorem kn (D:Df K mg x st) (ok: ∀{f:Addr} {fd:FuncData},Fun K x x st f fd→qbG P w K mg base CX0 k f fd ps (spP K G C t))
  (hb: ∀(kV doc pm:Value) (an:Option Addr) (cdv ct:Value) (us:List Value),us.length=ps.length→bindArgs (PySem.W.fnOf x x (qbc st) (qaX st) (qaf st) .none kV doc pm an cdv ct) ⟨us,[]⟩=pure (ps.zip us):=by
   exact fun _ _ _ _ _ _ us hl=>by first | (obtain ⟨a,e⟩:=qtn hl; subst e; rfl) | (obtain ⟨a,b,e⟩:=qsI hl; subst e; rfl) | (obtain ⟨a,b,c,e⟩:=qsH hl; subst e; rfl) | (obtain ⟨a,b,c,d,e⟩:=len4 hl; subst e; rfl)):Kn P w K mg base G C x ps k t:=by
 obtain ⟨f,oc,od,osl,kV,doc,pm,an,cdv,ct,lk,hcd,kp,m, -⟩:=D
 have F:=qfY lk hcd kp
 exact ⟨_,_,ok F,m,kp,F.binds hb⟩
theorem qoA (D:Df K mg x st) {c T:Addr} (ht:PySem.W.tabIn K x=some (c,T)): ∃(f:Addr) (oc:Value) (od:Option Addr) (osl:Array (Option Value)) (kV doc pm:Value) (an:Option Addr) (cdv ct:Value),
  K.lookup f=some ⟨oc,od,.func (PySem.W.fnOf x x (qbc st) (qaX st) (qaf st) .none kV doc pm an cdv ct),osl⟩∧PySem.W.codeIn K cdv x=true∧PySem.W.keepIn K (.ref f)=true∧mg x=some (.ref f)∧cdv= .ref c:=by
 obtain ⟨f,oc,od,osl,kV,doc,pm,an,cdv,ct,lk,hcd,kp,m,n⟩:=D
 refine ⟨f,oc,od,osl,kV,doc,pm,an,cdv,ct,lk,hcd,kp,m,?_⟩
 unfold PySem.W.tabIn at ht
 rw[n] at ht
 simp only[lk] at ht
 cases cdv with
 | ref c'=>
  dsimp only at ht
  split at ht
  ·split at ht
   ·cases ht; rfl
   ·cases ht
  ·cases ht
 | _=>cases ht
theorem knL (D:Df K mg x st) {c T:Addr} (ht:PySem.W.tabIn K x=some (c,T)) (hC:PySem.W.CodeHd base c T)
  (ok: ∀{f:Addr} {oc kV doc pm cdv ct:Value} {od an:Option Addr} {osl:Array (Option Value)},K.lookup f=some ⟨oc,od,.func (PySem.W.fnOf x x (qbc st) (qaX st) (qaf st) .none kV doc pm an cdv ct),osl⟩→PySem.W.codeIn K cdv x=true→cdv= .ref c→PySem.W.CodeHd base c T→
   qbG P w K mg base CX0 k f (PySem.W.fnOf x x (qbc st) (qaX st) (qaf st) .none kV doc pm an cdv ct) ps (spP K G C t))
  (hb: ∀(kV doc pm:Value) (an:Option Addr) (cdv ct:Value) (us:List Value),us.length=ps.length→bindArgs (PySem.W.fnOf x x (qbc st) (qaX st) (qaf st) .none kV doc pm an cdv ct) ⟨us,[]⟩=pure (ps.zip us):=by
   exact fun _ _ _ _ _ _ us hl=>by first | (obtain ⟨a,e⟩:=qtn hl; subst e; rfl) | (obtain ⟨a,b,e⟩:=qsI hl; subst e; rfl) | (obtain ⟨a,b,c,e⟩:=qsH hl; subst e; rfl) | (obtain ⟨a,b,c,d,e⟩:=len4 hl; subst e; rfl)):Kn P w K mg base G C x ps k t:=by
 obtain ⟨f,oc,od,osl,kV,doc,pm,an,cdv,ct,lk,hcd,kp,m,hc⟩:=qoA D ht
 have F:=qfY lk hcd kp
 exact ⟨_,_,ok lk hcd hc hC,m,kp,F.binds hb⟩
end
theorem qpg {K:PySem.W.Frag} {lq:List (Pos×Str)} {Ts:List Addr} {H:Hp} {a:Addr} {ns:List Int} {C:Str→Addr} {t:List T→Rs T} (ht:t [.scr ns]= .ok (.bl true)) (hO:qgl Ts H) (hS:SqL K H a (ns.map V.int)):spP K (qep (Ts.zip lq)) C t [.ref a] H (fun v _=>v= .bl true) fun _ _ _=>False:=by
 have fin: ∀B:Hp,Le B H→(∀a ps,B a≠some (.tbl ps))→SqL K B a (ns.map V.int)→spP K (qep (Ts.zip lq)) C t [.ref a] H (fun v _=>v= .bl true) fun _ _ _=>False:=fun B le bt sq=>by
  refine ⟨B,[.scr ns],le,bt,qrh hO,.cons (by unfold Rep; exact ⟨a,rfl,sq⟩) .nil,?_⟩
  rw[ht]
  exact fun v H' B' _ _ r=>qa8 r
 have cut: ∀{o:HO},H a=some o→(∀ps,o≠.tbl ps)→SqL K (fun b=>if b=a then H a else none) a (ns.map V.int)→spP K (qep (Ts.zip lq)) C t [.ref a] H (fun v _=>v= .bl true) fun _ _ _=>False:=fun {o} ho n sq=>
  fin _ (fun b o z=>by
   by_cases c:b=a
   ·subst c; simpa using z
   ·simp[c] at z) (fun b ps z=>by
   by_cases c:b=a
   ·subst c; simp[ho] at z; exact n ps z
   ·simp[c] at z) sq
 rcases hS with (hS | ⟨o,hS⟩) | hS
 ·exact cut hS (fun ps z=>by cases z) (.inl (.inl (by simp[hS])))
 ·exact cut hS (fun ps z=>by cases z) (.inl (.inr ⟨o,by simp[hS]⟩))
 ·exact fin (fun _=>none) (fun _ _ z=>by cases z) (fun _ _ z=>by cases z) (.inr hS)
def tOf (K:PySem.W.Frag) (y:Str):Addr:=((PySem.W.tabIn K y).getD (0,0)).2
def qg7 (K:PySem.W.Frag) (ys:List Str):List (Addr×Addr):=ys.map fun y=>(PySem.W.tabIn K y).getD (0,0)
def okT (K:PySem.W.Frag) (ys:List Str):Bool:=decide (ys.map (tOf K)).Nodup&&ys.all fun y=>match PySem.W.tabIn K y with
 | some (_,T)=>(match K.lookup T with | none=>true | some _=>false)
 | none=>false
theorem qmC {K:PySem.W.Frag} {ys:List Str} (h:okT K ys=true):ys.map (PySem.W.tabIn K)=(qg7 K ys).map some∧(∀T∈(qg7 K ys).map (·.2),K.lookup T=none)∧(ys.map (tOf K)).Nodup:=by
 have h:=Bool.and_eq_true_iff.mp h
 have nd:=of_decide_eq_true h.1
 have h:=List.all_eq_true.mp h.2
 refine ⟨?_,?_,nd⟩
 ·unfold qg7
  rw[List.map_map]
  refine List.map_congr_left fun y hy=> ?_
  have:=h y hy
  show PySem.W.tabIn K y=some ((PySem.W.tabIn K y).getD (0,0))
  cases q:PySem.W.tabIn K y with
  | none=>rw[q] at this; cases this
  | some p=>rfl
 ·intro T hT
  obtain ⟨p,hp,rfl⟩:=List.mem_map.mp hT
  obtain ⟨y,hy,rfl⟩:=List.mem_map.mp hp
  have:=h y hy
  cases q:PySem.W.tabIn K y with
  | none=>rw[q] at this; cases this
  | some p=>
   rw[q] at this
   dsimp only at this
   show K.lookup p.2=none
   split at this
   ·assumption
   ·cases this
theorem walk {l:PySem.W.OpenLaw} {q:Program} {loose:List Str} {XP:(Str→Option Value)→Heap→Prop} {YP:World→Heap→Prop} {d:DefRec} {K:Params→PySem.W.Frag} {tb:List (Str×Stmt)} {cs:List (Str×Int)} {nms:List Str} {ys:List Str} {lq:List (Pos×Str)} {LV:Nat} {sl:Stmt} {t:List T→Rs T}
  (hn:l.most=some 63) (hdf:d.params.defaults=[]) (hd:d.name= "law") (hY: ∀(w:World) (h:Heap),YP w h→(K w.params).In h) (hrec: ∀y∈ys,∃dx,(PyProof.Rows.recsOf q).find? (fun e=>e.name==y)=some dx) (hR:qcD LV callerA)
  (h1: ∀w:World,(tb.all fun p=>okD (K w.params) p.1)=true) (h2: ∀w:World,tb.map (fun p=>qon (K w.params) p.1)=tb.map fun p=>(qon (K w.params) p.1).map (due p.1 p.2)) (h3: ∀w:World,cs.all (okC (K w.params))=true) (h4: ∀w:World,nms.all (okN (K w.params))=true)
  (h5: ∀w:World,okT (K w.params) ys=true) {i:Nat} (hi:tb[i]? =some (Str.ofString "law",sl)) (hT: ∀ns:List Int,ns.length≤63→t [.scr ns]= .ok (.bl true))
  (hbl: ∀(kV doc pm:Value) (an:Option Addr) (cdv ct u:Value),bindArgs (PySem.W.fnOf "law" "law" (qbc sl) (qaX sl) (qaf sl) .none kV doc pm an cdv ct) ⟨[u],[]⟩=pure [(Str.ofString "_law_script",u)])
  (F: ∀{w:World} {K:PySem.W.Frag} {mg:Str→Option Value} {base:Heap} {fa:Addr} {fd:FuncData},(∀(i:Nat) (x:Str) (st:Stmt),tb[i]? =some (x,st)→Df K mg x st)→(∀x∈nms,mg x=none)→(∀(i:Nat) (x:Str) (n:Int),cs[i]? =some (x,n)→∃u,mg x=some u∧RelV (.int n) u)→
   (∀y∈ys,∃c,PySem.W.tabIn K y=some (c,tOf K y)∧PySem.W.CodeHd base c (tOf K y))→(ys.map (tOf K)).Nodup→qgm mg base→K.In base→Fun K "law" "law" sl fa fd→qbG l.prog w K mg base CX0 LV fa fd ["_law_script"] (spP K (qep ((ys.map (tOf K)).zip lq)) (fun _=>0) t)):
  PySem.W.WalkO q loose XP YP l.row.toRowW d [] (fun f vs=>PySem.call f vs):=by
 refine L2.walk_ofTs (n:=63) (k:=LV) (x:= "_law_script") (ys:=ys) (CX:=fun _=>CX0) (sp:=fun w cts=>spP (K w.params) (qep ((cts.map (·.2)).zip lq)) (fun _=>0) t) hn (by decide) hdf hR hY hrec ?_ (fun _ _ _ a ns hl hO hS=>qpg (hT ns hl) hO hS) fun _ _ _ _ _ z=>z
 intro w mg fa h X G hm
 have D:=qqv X G (h1 w) (h2 w)
 obtain ⟨f,oc,od,osl,kV,doc,pm,an,cdv,ct,lk,hcd,kp,m, -⟩:=D i _ _ hi
 rw[hd] at hm
 have e:=hm.symm.trans m
 cases e
 obtain ⟨t1,t2,nd⟩:=qmC (h5 w)
 have em:(qg7 (K w.params) ys).map (·.2)=ys.map (tOf (K w.params)):=by unfold qg7; rw[List.map_map]; rfl
 refine ⟨_,qg7 (K w.params) ys,t1,t2,fun s u=>.of_eq (hbl kV doc pm an cdv ct u),fun base KI _ hC hb=> ?_⟩
 rw[em]
 refine F D (qsE X G (h4 w)) (qs1 X G (h3 w)) (fun y hy=> ?_) nd hb KI (qfY lk hcd kp)
 have e1:some ((PySem.W.tabIn (K w.params) y).getD (0,0))=PySem.W.tabIn (K w.params) y:=by
  obtain ⟨j,hj,ej⟩:=List.mem_iff_getElem.mp hy
  have:=congrArg (fun l=>l[j]?) t1
  unfold qg7 at this
  simp only[List.getElem?_map,List.getElem?_eq_getElem hj,ej,Option.map_some] at this
  exact (Option.some.inj this).symm
 exact ⟨((PySem.W.tabIn (K w.params) y).getD (0,0)).1,e1.symm,hC _ (List.mem_map.mpr ⟨y,hy,rfl⟩)⟩
end HD
end
section
namespace K18
open PySem L2 PL SetL RH HD
abbrev lqs:List (Pos×Str):=[(qgM,qdW),(qgL,qdV)]
abbrev tb:List (Str×Stmt):=[e2 "is_whole" qrR,e2 "is_whole_within" qrX,e2 "is_word" qrP,e2 "is_key" qrM,e2 "is_row" qrL,e2 "is_log" qrK,e2 "keys_of" qrO,e2 "refuse_what_is_no_row" s_2,e2 "refuse_out_of_order" s_6,e2 "refuse_what_is_no_log" s_3,e2 "refuse_what_are_no_two_logs" s_0,e2 "refuse_number_beyond" s_4,e2 "of_key" qqV,e2 "refuse_what_is_no_moment" s_1,e2 "numbers_standing" s_7,e2 "at_moment" qrV,e2 "history" qrN,e2 "weighed" qpq,e2 "weight" qrJ,e2 "beside" qqU,e2 "unlike_at" qqZ,e2 "from_to" qqX,e2 "shifted" qqW,e2 "stretches" qm3,e2 "stretches_of_one_key" s_5,e2 "longer" qrI,e2 "going_on" qqY,e2 "longest" qm2,e2 "pauses" qrH,e2 "_law_cell" qrU,e2 "_law_pick" qrT,e2 "_law_key" qrQ,e2 "_law_number" qrW,e2 "_law_rows" qrS,e2 "law" qgv]
abbrev cs:List (Str×Int):=[c2 "GREATEST_GAP" (99),c2 "GREATEST_MOMENT" (99),c2 "GREATEST_NUMBER" (99),c2 "LATEST_MOMENT" (999),c2 "LONGEST_KEY" (2)]
theorem mk {P:Program} {w:World} {K:PySem.W.Frag} {mg:Str→Option Value} {base:Heap} {fa:Addr} {fd:FuncData} (D: ∀(i:Nat) (x:Str) (st:Stmt),tb[i]? =some (x,st)→Df K mg x st) (nb: ∀x∈names,mg x=none) (cm: ∀(i:Nat) (x:Str) (n:Int),cs[i]? =some (x,n)→∃u,mg x=some u∧RelV (.int n) u)
  (tc: ∀y∈(["stretches", "longest"]:List Str),∃c,PySem.W.tabIn K y=some (c,tOf K y)∧PySem.W.CodeHd base c (tOf K y)) (nd:((["stretches", "longest"]:List Str).map (tOf K)).Nodup) (hb:qgm mg base) (KI:K.In base) (F:Fun K "law" "law" qgv fa fd):
  qbG P w K mg base CX0 8 fa fd ["_law_script"] (spP K (gL (HD.tOf K "stretches") (HD.tOf K "longest")) (fun _=>0) t_law):=by
 obtain ⟨_,cm_12,cr_12⟩:=cm 0 _ _ rfl
 obtain ⟨_,cm_8,cr_8⟩:=cm 1 _ _ rfl
 obtain ⟨_,cm_9,cr_9⟩:=cm 2 _ _ rfl
 obtain ⟨_,cm_11,cr_11⟩:=cm 3 _ _ rfl
 obtain ⟨_,cm_13,cr_13⟩:=cm 4 _ _ rfl
 obtain ⟨_,ht_17,hC_17⟩:=tc "stretches" (by simp)
 obtain ⟨_,ht_30,hC_30⟩:=tc "longest" (by simp)
 have N_21:=kn (w:=w) (G:=(gL (HD.tOf K "stretches") (HD.tOf K "longest"))) (C:=fun _=>0) (D 0 _ _ rfl) fun F=>qsx (P:=P) (w:=w) (mg:=mg) (base:=base) F nb (qgO K)
 have N_10:=kn (w:=w) (G:=(gL (HD.tOf K "stretches") (HD.tOf K "longest"))) (C:=fun _=>0) (D 1 _ _ rfl) fun F=>qsD (P:=P) (w:=w) (mg:=mg) (base:=base) F nb N_21
 have N_24:=kn (w:=w) (G:=(gL (HD.tOf K "stretches") (HD.tOf K "longest"))) (C:=fun _=>0) (D 2 _ _ rfl) fun F=>qsu (P:=P) (w:=w) (mg:=mg) (base:=base) F nb (qgO K)
 have N_31:=kn (w:=w) (G:=(gL (HD.tOf K "stretches") (HD.tOf K "longest"))) (C:=fun _=>0) (D 3 _ _ rfl) fun F=>qsn (P:=P) (w:=w) (mg:=mg) (base:=base) F nb cm_13 cr_13 N_24
 have N_32:=kn (w:=w) (G:=(gL (HD.tOf K "stretches") (HD.tOf K "longest"))) (C:=fun _=>0) (D 4 _ _ rfl) fun F=>qsm (P:=P) (w:=w) (mg:=mg) (base:=base) F nb (qgO K) cm_8 cr_8 cm_9 cr_9 N_31 N_10
 have N_33:=kn (w:=w) (G:=(gL (HD.tOf K "stretches") (HD.tOf K "longest"))) (C:=fun _=>0) (D 5 _ _ rfl) fun F=>qsl (P:=P) (w:=w) (mg:=mg) (base:=base) F nb
 have N_25:=kn (w:=w) (G:=(gL (HD.tOf K "stretches") (HD.tOf K "longest"))) (C:=fun _=>0) (D 6 _ _ rfl) fun F=>qst (P:=P) (w:=w) (mg:=mg) (base:=base) F nb
 have N_2:=kn (w:=w) (G:=(gL (HD.tOf K "stretches") (HD.tOf K "longest"))) (C:=fun _=>0) (D 7 _ _ rfl) fun F=>qux (P:=P) (w:=w) (mg:=mg) (base:=base) F nb N_32
 have N_6:=kn (w:=w) (G:=(gL (HD.tOf K "stretches") (HD.tOf K "longest"))) (C:=fun _=>0) (D 8 _ _ rfl) fun F=>qut (P:=P) (w:=w) (mg:=mg) (base:=base) F nb N_33
 have N_3:=kn (w:=w) (G:=(gL (HD.tOf K "stretches") (HD.tOf K "longest"))) (C:=fun _=>0) (D 9 _ _ rfl) fun F=>quw (P:=P) (w:=w) (mg:=mg) (base:=base) F nb N_6 N_2
 have N_0:=kn (w:=w) (G:=(gL (HD.tOf K "stretches") (HD.tOf K "longest"))) (C:=fun _=>0) (D 10 _ _ rfl) fun F=>quz (P:=P) (w:=w) (mg:=mg) (base:=base) F nb N_6 N_2
 have N_4:=kn (w:=w) (G:=(gL (HD.tOf K "stretches") (HD.tOf K "longest"))) (C:=fun _=>0) (D 11 _ _ rfl) fun F=>quv (P:=P) (w:=w) (mg:=mg) (base:=base) F nb N_10
 have N_34:=kn (w:=w) (G:=(gL (HD.tOf K "stretches") (HD.tOf K "longest"))) (C:=fun _=>0) (D 12 _ _ rfl) fun F=>qsk (P:=P) (w:=w) (mg:=mg) (base:=base) F nb
 have N_1:=kn (w:=w) (G:=(gL (HD.tOf K "stretches") (HD.tOf K "longest"))) (C:=fun _=>0) (D 13 _ _ rfl) fun F=>quy (P:=P) (w:=w) (mg:=mg) (base:=base) F nb cm_11 cr_11 N_4
 have N_7:=kn (w:=w) (G:=(gL (HD.tOf K "stretches") (HD.tOf K "longest"))) (C:=fun _=>0) (D 14 _ _ rfl) fun F=>qus (P:=P) (w:=w) (mg:=mg) (base:=base) F nb
 have N_15:=kn (w:=w) (G:=(gL (HD.tOf K "stretches") (HD.tOf K "longest"))) (C:=fun _=>0) (D 15 _ _ rfl) fun F=>qsB (P:=P) (w:=w) (mg:=mg) (base:=base) F nb N_7 N_3 N_1
 have N_26:=kn (w:=w) (G:=(gL (HD.tOf K "stretches") (HD.tOf K "longest"))) (C:=fun _=>0) (D 16 _ _ rfl) fun F=>qss (P:=P) (w:=w) (mg:=mg) (base:=base) F nb N_34 N_3
 have N_35:=kn (w:=w) (G:=(gL (HD.tOf K "stretches") (HD.tOf K "longest"))) (C:=fun _=>0) (D 18 _ _ rfl) fun F=>qsj (P:=P) (w:=w) (mg:=mg) (base:=base) F nb
 have N_27:=kn (w:=w) (G:=(gL (HD.tOf K "stretches") (HD.tOf K "longest"))) (C:=fun _=>0) (D 17 _ _ rfl) fun F=>qsr (P:=P) (w:=w) (mg:=mg) (base:=base) F nb N_26 N_25 N_3 N_1 N_35
 have N_36:=kn (w:=w) (G:=(gL (HD.tOf K "stretches") (HD.tOf K "longest"))) (C:=fun _=>0) (D 19 _ _ rfl) fun F=>qsi (P:=P) (w:=w) (mg:=mg) (base:=base) F nb N_7 N_0
 have N_16:=kn (w:=w) (G:=(gL (HD.tOf K "stretches") (HD.tOf K "longest"))) (C:=fun _=>0) (D 20 _ _ rfl) fun F=>qsA (P:=P) (w:=w) (mg:=mg) (base:=base) F nb N_7 N_0 N_1
 have N_28:=kn (w:=w) (G:=(gL (HD.tOf K "stretches") (HD.tOf K "longest"))) (C:=fun _=>0) (D 21 _ _ rfl) fun F=>qsq (P:=P) (w:=w) (mg:=mg) (base:=base) F nb N_3 N_1
 have N_29:=kn (w:=w) (G:=(gL (HD.tOf K "stretches") (HD.tOf K "longest"))) (C:=fun _=>0) (D 22 _ _ rfl) fun F=>qsp (P:=P) (w:=w) (mg:=mg) (base:=base) F nb N_32 N_21 N_3
 have N_37:=kn (w:=w) (G:=(gL (HD.tOf K "stretches") (HD.tOf K "longest"))) (C:=fun _=>0) (D 25 _ _ rfl) fun F=>qsh (P:=P) (w:=w) (mg:=mg) (base:=base) F nb
 have N_5:=kn (w:=w) (G:=(gL (HD.tOf K "stretches") (HD.tOf K "longest"))) (C:=fun _=>0) (D 24 _ _ rfl) fun F=>quu (P:=P) (w:=w) (mg:=mg) (base:=base) F nb N_37
 have N_17:=knL (w:=w) (G:=(gL (HD.tOf K "stretches") (HD.tOf K "longest"))) (C:=fun _=>0) (D 23 _ _ rfl) ht_17 hC_17 fun lk hcd hc C0=>qsz (C:=fun _=>0) (P:=P) (w:=w) (mg:=mg) (base:=base) lk hcd hc nb C0 hb nd cm_12 cr_12 N_25 N_34 N_4 N_3 N_5
 have N_22:=kn (w:=w) (G:=(gL (HD.tOf K "stretches") (HD.tOf K "longest"))) (C:=fun _=>0) (D 26 _ _ rfl) fun F=>qsw (P:=P) (w:=w) (mg:=mg) (base:=base) F nb N_17
 have N_30:=knL (w:=w) (G:=(gL (HD.tOf K "stretches") (HD.tOf K "longest"))) (C:=fun _=>0) (D 27 _ _ rfl) ht_30 hC_30 fun lk hcd hc C0=>qso (C:=fun _=>0) (P:=P) (w:=w) (mg:=mg) (base:=base) lk hcd hc nb C0 hb nd N_17
 have N_38:=kn (w:=w) (G:=(gL (HD.tOf K "stretches") (HD.tOf K "longest"))) (C:=fun _=>0) (D 28 _ _ rfl) fun F=>qsg (P:=P) (w:=w) (mg:=mg) (base:=base) F nb N_34 N_3
 obtain ⟨f1,oc1,od1,osl1,kV1,doc1,pm1,an1,cdv1,ct1,lk1,hcd1,kp1,m1, -⟩:=D 29 _ _ rfl
 have F1:=qfY lk1 hcd1 kp1
 have G1:=qn7 (P:=P) (w:=w) (mg:=mg) (base:=base) F1 (nb "len" (by decide))
 have b1:=F1.binds (ps:=["_law_script", "_law_k"]) fun _ _ _ _ _ _ us hl=>by obtain ⟨a,b,e⟩:=qsI hl; subst e; rfl
 obtain ⟨f2,oc2,od2,osl2,kV2,doc2,pm2,an2,cdv2,ct2,lk2,hcd2,kp2,m2, -⟩:=D 30 _ _ rfl
 have F2:=qfY lk2 hcd2 kp2
 have G2:=qn5 (P:=P) (w:=w) (mg:=mg) (base:=base) F2 G1 m1 kp1 b1
 have N_19:=qod (G:=(gL (HD.tOf K "stretches") (HD.tOf K "longest"))) (C:=fun _=>0) G2 m2 kp2 (F2.binds (ps:=["_law_script", "_law_k", "_law_many"]) fun _ _ _ _ _ _ us hl=>by obtain ⟨a,b,c,e⟩:=qsH hl; subst e; rfl)
 have N_23:=kn (w:=w) (G:=(gL (HD.tOf K "stretches") (HD.tOf K "longest"))) (C:=fun _=>0) (D 31 _ _ rfl) fun F=>qsv (P:=P) (w:=w) (mg:=mg) (base:=base) F nb N_19
 have N_14:=kn (w:=w) (G:=(gL (HD.tOf K "stretches") (HD.tOf K "longest"))) (C:=fun _=>0) (D 32 _ _ rfl) fun F=>qsC (P:=P) (w:=w) (mg:=mg) (base:=base) F nb N_19
 have N_20:=kn (w:=w) (G:=(gL (HD.tOf K "stretches") (HD.tOf K "longest"))) (C:=fun _=>0) (D 33 _ _ rfl) fun F=>qsy (P:=P) (w:=w) (mg:=mg) (base:=base) F nb N_23 N_14 N_19
 exact qp0 (G:=(gL (HD.tOf K "stretches") (HD.tOf K "longest"))) (C:=fun _=>0) (P:=P) (w:=w) (mg:=mg) (base:=base) F nb N_19 N_20 N_15 N_36 N_28 N_22 N_26 N_30 N_38 N_29 N_17 N_16 N_27
end K18
end
section
open PySem PySem.W PyProof.Rows
namespace K18
abbrev vq:Program:=HD.vw PySem.Challenge.pw_rowasks_k18_whole_stretches_moved
end K18
local macro_rules
 | `(tactic| o_head $H)=>do
  let hw:=Lean.mkIdent `hw
  let hc:=Lean.mkIdent `hc
  `(tactic| refine holds_open (q:=K18.vq) (loose:=[]) (Xt:=fun s=>xlAt K18.vq [] s&&recOk (RowW.records PySem.Challenge.rw_rowasks_k18_whole_stretches_moved.row.toRowW) s) (XP:=XL K18.vq []) (Yf:=Hook.obs $H) (Ya:=Hook.val $H) (YP:=Hook.says $H) (N:=20000) (fun w=>by kernel_rfl) (Hook.of $H) (Hook.keeps $H) (fun s e=>xl_of s (Bool.and_eq_true_iff.mp e).1) XL.keeps (by rfl) (by rfl) (by rfl) (fun s e=>recFacts_of (Bool.and_eq_true_iff.mp e).2) (by rfl) (by first | assumption | decide+kernel) (by decide+kernel) ⟨rfl,rfl,rfl,rfl,rfl,by decide+kernel⟩ ?$hw ?$hc)
set_option maxRecDepth 100000 in
set_option maxHeartbeats 0 in
theorem PySem.Challenge.cw_rowasks_k18_whole_stretches_moved_holds : PySem.Challenge.rw_rowasks_k18_whole_stretches_moved.Holds := by
 w_on; o_law; k_head; (case hw=>w_witness2)
 k_fill
 refine' HD.walk (l:=PySem.Challenge.rw_rowasks_k18_whole_stretches_moved) (tb:=K18.tb) (cs:=K18.cs) (nms:=PL.names) (ys:=["stretches", "longest"]) (lq:=K18.lqs) (LV:=8) (i:=34) (t:=K18.t_law) rfl rfl rfl (fun w h Y=>PySem.W.km_in_of Y) ?_ ⟨rfl,by decide,by decide⟩ (fun w=>by kernel_rfl) (fun w=>by kernel_rfl) (fun w=>by kernel_rfl) (fun w=>by kernel_rfl) (fun w=>by kernel_rfl) rfl (fun ns hl=>K18.law_true hl) (fun _ _ _ _ _ _ _=>rfl) K18.mk
 intro y hy
 simp only[List.mem_cons,List.not_mem_nil,or_false] at hy
 rcases hy with rfl | rfl
 ·exact ⟨_,rfl⟩
 ·exact ⟨_,rfl⟩
end
